import PyProof.Rows.All
import Wide.All
import OpenK.AllK
import Wide.FinOn
import Lean
import PyProof.EqAt
import PyProof.EqKinds
import PyProof.TupleCall
import PyProof.NeKinds
import PyProof.Rows.SeqMore
import PyProof.FactsAll.tuple_2
import KE.KDictOf
import PyProof.ExcInit
import PyProof.ExcClass3
import PyProof.NsDelKeeps
import PyProof.RulesAs
import PyProof.Rows.CountFlat
import PyProof.AutoListH
import KE.KIntText
import PyProof.Rows.CatFin
import PyProof.Rows.Range3
import PyProof.Rows.CallKwBuiltin
import PyProof.NoPylong
import PyProof.EnumMake
import PyProof.Draws
import PyProof.DictWalks
import PyProof.DictUpdate
import PySem.Challenge.RW_nolitter_k77_whole_litter_at_the_start
set_option Elab.async false
set_option linter.all false
set_option maxRecDepth 100000
set_option maxHeartbeats 4000000
local macro_rules | `(tactic| decide) => `(tactic| decide +kernel)
open Array renaming length_toList->K3,getElem?_toList->V2,forIn_toList->X9,getElem?_eq_getElem->A88,size_append->YH,append_assoc->B71,toList->Yk
open Bool renaming false_ne_true->C8,false_eq_true->K6,and_eq_true->O2,not_true->U7,eq_iff_iff->V4,false_or->D_,not_false->YO,or_false->OT,true_or->OJ,or_true->OG,xor_false->Ys,or_eq_true->C21,and_true->C63
open False renaming elim->P6
open ForInStep renaming yield->U2
open Int renaming emod_lt_of_pos->R5,toNat_natCast->T8,emod_nonneg->V5,le_of_lt->V8,mul_le_mul_of_nonneg_left->X8,fdiv_eq_ediv_of_nonneg->Z0,natCast_nonneg->Pk,mul_add->DW,fmod_eq_emod_of_nonneg->A75,ediv_nonneg->Yw,natCast_add->Yv,mul_one->OD,one_mul->OC,lt_of_lt_of_le->B79,natCast_succ->C09,lt_irrefl->C64,mul_comm->C74,ne_of_gt->C75,add_zero->C78,mul_sub->C89,neg_mul->C90,le_refl->C94,toNat->D24
open List renaming length_map->B0,length_append->B4,getElem?_eq_getElem->B6,map_append->B7,map_cons->C0,length_cons->C1,mem_cons_of_mem->C2,mem_cons_self->C6,append_assoc->D1,mem_cons->D4,replicate->D6,mem_map->D7,size_toArray->D9,eq_nil_of_length_eq_zero->E4,append_nil->E5,getElem?_append_right->E6,mem_append->E9,range->F3,mem_singleton->F4,lookup_cons->F5,getElem?_map->F8,getElem?_append_left->F9,nil_append->I0,length->J1,length_range->J4,lookup->J5,cons_append->J7,length_set->J9,replicate_succ->K0,getD_eq_getElem?_getD->K4,flatten_cons->K5,getElem?_eq_some_iff->K7,mem_of_getElem?->K9,find?_cons->L4,mem_append_right->L6,map_congr_left->M5,getElem_mem->M6,sum_cons->M7,nodup_cons->N0,zip_cons_cons->N6,mem_range->N7,any_cons->O0,lookup_nil->O1,drop_eq_getElem_cons->O6,getElem?_eq_none->O8,length_singleton->O9,length_take->Q0,map_map->Q1,length_reverse->Q8,reverse_cons->T9,getElem?_cons_succ->U0,mapM_cons->U9,eq_nil_or_concat->V0,concat_eq_append->V1,range_succ->V6,flatten_replicate_singleton->V9,all_cons->W8,length_drop->X4,not_mem_nil->X6,take_of_length_le->Y1,filter_append->Y2,mem_filter->Y5,foldl_cons->Y6,length_replicate->Y7,length_filter_le->Y8,nodup_append->Y9,all_eq_true->Z8,getElem?_zip_eq_some->Zh,mem_or_eq_of_mem_set->Zg,filterMap_cons->Po,length_nil->Pl,forIn_cons->LN,getElem?_set_self->Y',any_eq_false->Pg,pairwise_map->Pf,length_pos_of_mem->YX,getElem?_reverse->YV,filter_cons->Pe,mem_reverse->Pd,map_reverse->Pc,getElem?_set_ne->YR,map_nil->LJ,set_set->LI,perm_ext_iff_of_nodup->A79,forIn_nil->OW,nodup_nil->OV,find?_eq_none->YL,getElem?_eq_none_iff->A86,set_comm->OS,getElem?_replicate->B10,map->Cq,filter_cons_of_neg->B14,filter_cons_of_pos->B15,length_eq_zero_iff->B16,drop_eq_nil_of_le->B26,map_set->OH,range_succ_eq_map->B29,drop_of_length_le->B31,of_mem_zip->YD,length_zip->YA,sum_append->Yx,mem_append_left->B49,drop_zero->Yt,mem_iff_getElem->B52,forall_mem_cons->B55,reverse_append->B61,mem_filterMap->B72,filterMap_map->B73,set_cons_succ->B78,getElem?_set->B90,filter_congr->B93,find?_append->B94,mapM_append->C03,zipIdx_cons->C06,drop_length->C07,zipIdx_nil->C23,filter_nil->C24,filter_map->C25,zip->Ou,foldl->XX,map_drop->C65,map_take->C66
open List.Pairwise renaming filter->C92,nil->D15
open List.cons renaming inj->X0,injEq->Y4
open Nat renaming le_refl->B9,lt_of_lt_of_le->C5,lt_of_le_of_lt->C9,le_trans->D3,ne_of_lt->J0,zero_le->J8,add_sub_cancel->L5,add_assoc->L7,eq_of_testBit_eq->N8,le_of_ble_eq_true->P0,le_of_lt->P4,add_comm->P5,pow_succ->Q2,testBit_two_pow->Q9,two_pow_pos->R0,lt_succ_self->R4,le_add_right->R6,mul_le_mul_right->R9,zero_add->U6,le_succ->U8,ne_of_gt->Y0,pow_lt_pow_right->Z2,pow_le_pow_right->Z3,mul_le_mul->Z5,succ_mul->Z7,testBit_zero->Z9,zero_testBit->LP,sub_self->Ea,lt_irrefl->D',xor_lt_two_pow->Pj,add_sub_cancel_left->Za,sub_zero->DY,lt_of_succ_lt_succ->YY,testBit_and->Pa,testBit_xor->O_,lt_or_ge->LH,add_right_comm->YM,testBit_two_pow_self->A99,mul_comm->OI,le_mul_of_pos_left->B32,min_eq_left->Yy,mul_le_mul_left->B60,lt_of_succ_lt->B85,le_of_lt_succ->B95,le_of_not_lt->C00,testBit_succ->C04,min_eq_right->C05,mod_eq_of_lt->C08,xor_div_two->C22,testBit_or->C30,le_of_eq->C71,lt_trans->C72,min_self->C73,le_total->C76,add_zero->C77,mul_add->C91,pow_pos->C95
open Nat.succ renaming inj->O4
open Ne renaming symm->D2
open Option renaming map_eq_some_iff->E8,bind_eq_some_iff->Zb,bind_some->YS,isSome_map->YI,map_some->Yz,isNone_none->B77,getD_none->C01
open Option.some renaming inj->D8,injEq->D16
open Or renaming inr->wV,inl->Ah
open Prod renaming ext->Lx
open PyProof.Rows renaming callWith_type1->J6,slot_tuple_getitem->X1,IntsAre->wc,AllBare->yL,subscriptTail->OP,boot_range->Oz,Subscript_->Oy,callWith_builtin1->B99,assign_Tuple->C49,tail_any->XJ,envOfC->D08
open PySem renaming wpAny_bind->B5,wpAny_pure->C4,starEach->D0,Spec->E2,NameKind->F7,mainGlobals->J2,compareOp->K2,wpAny_field->K8,binaryOp->L8,wpAny_seqItems->L9,wpAny_holding->M0,wpAny_Call_Name_kw->M8,attributeBase->N3,wpAny_callSpecial?_slot->N5,wpAny_call_entry->O5,keywordEach->O7,wpAny_setField_rec->P9,wpAny_truthy_bool->Q3,sysModules->Q4,bootBuiltins->Q5,wpAny_mono->Q6,mem_of_lookup->Q7,assignEach->R7,wpAny_newObj_type->U1,wpAny_passesOwn->V7,foldedSetIterable->W0,backToKw->W4,wpAny_pyIter_list->W5,swapsWith->X7,wpAny_pyIter_tuple->Y3,sliceBounds->Z6,wpAny_isInstance->LO,behindInMarks->DZ,wpAny_specialOf->LM,codeAny->sO,getattributeRaised->Ph,inplaceOp->yM,FuncData->wY,wpAny_typeOf->DX,ZipApart->wX,isSubtype_tuple_tuple->YU,builtinLookup_eq_fast->YT,wpAny_forIn_list->Pb,wpAny_rule->Ct,getMethod->Ak,call_meets->Cs,wpAny_updateSeq_pair->YQ,wpAny_execs_nil->OZ,letOwnedTupleGo->OY,codeAny_builtin->OX,standAt->wW,call_meetsIn->LG,wpAny_tupleItemsOf->YK,tupleKind_room_in1->YJ,wpAny_Call_method->YG,slot_list_getitem->YF,wpAny_standAt->OQ,wpAny_onRaise->OO,wpAny_attempt->ON,plainId_quiet->OM,tupleKind->DQ,PassesOwn->OL,noFill_tuple_add->YE,codeAny_mono->OE,valueAt->Aj,getItem->Ai,typeLookup->Ly,typeLookup_type->Yu,callWith->DP,wpAny_tryCatch->Yr,BindsTo->Cp,callerA->Co,rangeSize_one->Yp,seq_tuple_add->Yo,evalPart_none->Yn,nums_intItems->Ym,builtinsNs->OA,Within->Yl,unaryOp->DN,concat_meets->Yg,seqIndex_neg->Yf,eqIsQuiet->Ow,slicePick->Ov,sizeLine_eq->X_,seqIndex_of->XZ,wpAny_letGo->XY,call->XW,isInstance->XU,wpAny_Name->XT,bindArgs->Ot,typeIs_str->XR,typeIs_int->XQ,numAt_eq->Oq,getAttr?->Oo,storeName->XO,small_one->XN,DictEntry->C69,cellsFrom->XM,setItem->Om,storedH->Ol,compEnvC->XI,intItems->XG,Fin->D19
open PySem.Around renaming under_plainId->Z4,under->Yj
open PySem.AutoListH renaming list___mul___list_int_3->B83
open PySem.Builtin renaming bitNot->M9,bitAnd->P1,bitXor->LL,bitOr->LK
open PySem.Builtin.Dict renaming updateFrom->X5,pairItems->YZ,selfAndRest->B00
open PySem.Builtin.List renaming listTooLong->W9
open PySem.Builtin.Range renaming rangeSize->Zd
open PySem.Builtin.Slice renaming slicePlaces->V3,sliceAdjust->Zi,sliceApplied->A76,slicePartIndex->C19,sliceFields->C48
open PySem.Builtin.SmallTypes renaming nextOf->K1,ownedTupleIsFree->L0,ownedTupleHandOut->A09
open PySem.Builtin.Str renaming tooLong->Pn,glued->D17
open PySem.Builtin.Tuple renaming tupleExact->W7,tupleHashOf->Zj,tupleItemsOf->A72
open PySem.Calls renaming spliced_cons->P8,spliced_nil->T7,callWith_builtin->U5,evalArgs_plain->Z1,Name_function_global->A74
open PySem.Challenge renaming pw_nolitter_k77_whole_litter_at_the_start->A56
open PySem.Code renaming isFrame->Yi,frames->C85
open PySem.Data renaming fields->C84,cell->D20
open PySem.DictEntry renaming refKey->D21
open PySem.EqMixed renaming eq_bool_str->C41,eq_str_bool->C42,ne_bool_str->C46,ne_str_bool->C47,eq_int_str->C54,eq_str_int->C56,ne_int_str->C60,ne_str_int->C62
open PySem.EqNone renaming eq_none_none->C38,eq_none_bool->C39,eq_bool_none->C40,ne_none_none->C43,ne_none_bool->C44,ne_bool_none->C45,eq_none_int->C51,eq_none_str->C52,eq_int_none->C53,eq_str_none->C55,ne_none_int->C57,ne_none_str->C58,ne_int_none->C59,ne_str_none->C61
open PySem.F renaming plainAttrs_dict->X3,args_tuple_add_2->Ze,entry_tuple_add->Zc,slot_tuple_add->Y_,slot_dict_get->YW,slot_dict_getitem->A87,slot_dict_update->B01,slot_dict_values->B02,args_dict_get_3->B11,plainAttrs_list->B12,entry_dict_get->B21,slot_dict_pop->B47
open PySem.Heap renaming get?_push_of_some->B8,lt_size->D5,get?_push_size->E1,size_push->R8,SameBut->U4,get?_update_other->B23,get?_update_self->B48,IsTuple->Yh,IsList->Ya,ExtBut->C93
open PySem.Heap.DictOf renaming new->YC
open PySem.Heap.IsSliceOf renaming new->B74
open PySem.Heap.SameBut renaming update->B62,refl->D18
open PySem.IsL renaming update->D22
open PySem.IsRange renaming new->Yc
open PySem.NameKind renaming free->F0,cell->P3
open PySem.Obj renaming mapSeq->Lz,data_mapFields->B76
open PySem.Paired renaming length->OU,snoc->Yb
open PySem.PassesOwn renaming never->C20
open PySem.SeqAt renaming EqAt->Cu
open PySem.SeqAt.EqAt renaming of_refs->YN,same->YB,int_str->B68,str_int->B69,none_bool->C86,bool_none->C87,bool_bool->C88,none_int->C99,none_str->D00,bool_int->D01,bool_str->D02,int_none->D03,int_bool->D04,str_none->D05,str_bool->D06,int_int->D10,str_str->D11
open PySem.SeqAt.RcAt renaming lists_lengths->A97,tuples->B91,lists->C02
open PySem.SeqAt.RcNeAt renaming lists_lengths->C29,tuples->D07,lists->D13
open PySem.Shared renaming heap->DV
open PySem.Str renaming ofString->F6,empty->T6,length->DU,ofString_eq_toList->B27
open PySem.Value renaming ref->E7,none->W6,int->DS,str->DR,builtin->Yq,bool->OB,float->Yd,isStrOf->C50,isInt->C82,bytes->C83,type->D09
open PySem.W renaming OpenLaw->Oj
open PySem.W.WData renaming int->D23
open PySem.W.WShape renaming has->D12
open PySem.Within renaming cons->D14
open String renaming reduceEq->C7
open Sum renaming inl->M4,inr->X2
open Sum.inl renaming inj->LF
open True renaming intro->P7
local macro_rules | `(tactic| omega) => `(tactic| lia)
local macro_rules | `(()) => `(by omega)
local macro_rules | `(∅) => `(by decide)
set_option hygiene false in
local macro_rules | `(tactic| simp? [$xs,*]) => `(tactic| (simp! [$xs,*]; repeat (simp only [Go]; simp! [$xs,*])))
set_option hygiene false in
local macro_rules | `(tactic| simp?) => `(tactic| simp? [id]) | `(tactic| simp!) => `(tactic| simp! [id]) | `(tactic| dsimp!) => `(tactic| dsimp! [id])
set_option hygiene false in
local macro_rules | `($n <* $f <* $s) => `(Ok P w mg base $n $f $s)
set_option hygiene false in
local macro_rules | `(¬$n:num) => `(bL bJ (ev $n) aA)
local macro_rules | `(#[]) => `(⟨⟩) | `(#[$xs,*]) => `(⟨$xs,*⟩)
local macro_rules | `(tactic| apply $e) => `(tactic| refine $e)
local macro_rules | `(tactic| let $p:term := $e) => do
  let rec go : Nat → Lean.Term → Lean.MacroM (Lean.TSyntax `rcasesPat)
    | 0, _ => Lean.Macro.throwUnsupported
    | n+1, t => match t with
      | `(#[$xs,*]) => do let ys ← xs.getElems.mapM (go n); `(rcasesPat| ⟨$[$ys:rcasesPat],*⟩)
      | `(_) => `(rcasesPat| _)
      | `($i:ident) => `(rcasesPat| $i:ident)
      | _ => Lean.Macro.throwUnsupported
  `(tactic| obtain $(← go 9 p):rcasesPat := $e)
noncomputable section
local macro_rules(kind:=Lean.Parser.Command.declaration)|s=>do
 if (s[1].isOfKind ``Lean.Parser.Command.definition||s[1].isOfKind ``Lean.Parser.Command.abbrev)&&s[0][1].isNone then
  let q<-`(noncomputable def x:=0)
  let m:=s[0]
  for i in [0:m.getNumArgs] do if !q.raw[0][i].isNone && m[i].isNone then return s.setArg 0 (m.setArg i q.raw[0][i])
 Lean.Macro.throwUnsupported
namespace L2
open PySem PySem.Spec PyProof.Rows
abbrev Key:=Sum Int Str
def Cy:Key->Value->Bool
 | .inl k,v=>C82 k v| .inr x,v=>C50 x v
def VC(w:World):Key->Int
 | .inl k=>hashInt k| .inr x=>hashStr w x
def wu:∀{k:Key} {v:Value},Cy k v=true->(∃i t,k=M4 i/\v=DS i t)\/(∃x t,k=X2 x/\v=DR x t)
 | .inl i,v,h=>by let#[t,e]:=Value.isInt_shape (k:=i) (v:=v) h;exact .inl #[i,t,rfl,e]| .inr x,v,h=>by let#[t,e]:=Value.isStrOf_shape (x:=x) (v:=v) h;exact .inr #[x,t,rfl,e]
def vf4(i:Int)(t:Tok):Cy (.inl i) (.int i t)=true:=by simp[Cy,C82]
def vf3(x:Str)(t:Tok):Cy (.inr x) (.str x t)=true:=by simp[Cy,C50]
def x81(a b:Int):decide ((M4 a:Key)=M4 b)=(a==b):=by
 by_cases e:a=b
 .subst e;simp
 .have h:¬ (M4 a:Key)=M4 b:=λq=>e (LF q);rw[decide_eq_false h];exact(beq_eq_false_iff_ne.mpr e).symm
def x78(a b:Str):decide ((X2 a:Key)=X2 b)=decide (a=b):=by
 by_cases e:a=b
 .subst e;simp
 .have h:¬ (X2 a:Key)=X2 b:=λq=>e (X2.inj q);rw[decide_eq_false h,decide_eq_false e]
def x80(a:Int)(b:Str):decide ((M4 a:Key)=X2 b)=false:=decide_eq_false (λq=>nomatch q)
def x79(a:Str)(b:Int):decide ((X2 a:Key)=M4 b)=false:=decide_eq_false (λq=>nomatch q)
def d_(prog:Program)(w:World):PySem.KeyKind prog w Key where
 is:=Cy
 hash:=VC w
 inj:=λv a b o m=>by
  rcases wu o with⟨i,t,rfl,rfl⟩|⟨x,t,rfl,rfl⟩
  .rcases wu m with⟨j,u,rfl,e⟩|⟨y,u,rfl,e⟩
   .injection e with f _;rw[f]
   .exact nomatch e
  .rcases wu m with⟨j,u,rfl,e⟩|⟨y,u,rfl,e⟩
   .exact nomatch e
   .injection e with f _;rw[f]
 byValue:=λk v h=>by rcases wu h with⟨i,t,rfl,rfl⟩|⟨x,t,rfl,rfl⟩ <;> rfl
 pyHash:=λl h=>by
  rcases wu l with⟨i,t,rfl,rfl⟩|⟨x,t,rfl,rfl⟩
  .exact wpAny_pyHash_int h
  .exact wpAny_pyHash_str h
 eqBool:=λn l h=>by
  rcases wu n with⟨i,t,rfl,rfl⟩|⟨x,t,rfl,rfl⟩
  .rcases wu l with⟨j,u,rfl,rfl⟩|⟨y,u,rfl,rfl⟩
   .rw[x81] at h;exact wpAny_eqBool_int h
   .rw[x80] at h;exact B68 i t y u _ _ _ _ h
  .rcases wu l with⟨j,u,rfl,rfl⟩|⟨y,u,rfl,rfl⟩
   .rw[x79] at h;exact B69 x t j u _ _ _ _ h
   .rw[x78] at h;exact wpAny_eqBool_str h
 «strs»:=λk x t v h=>by
  rcases wu h with⟨i,u,rfl,e⟩|⟨y,u,rfl,e⟩
  .exact nomatch e
  .injection e with f _;subst f;cases v <;> rfl
def uv6(prog:Program)(w:World)(i:Int)(t:Tok):(d_ prog w).is (.inl i) (.int i t)=true:=vf4 i t
def uv5(prog:Program)(w:World)(x:Str)(t:Tok):(d_ prog w).is (.inr x) (.str x t)=true:=vf3 x t
inductive V where
 | non|bl (b:Bool)|int (i:Int)|str (x:Str)|tu (b:Array UInt8)|wM (b:UInt64)|ref (a:Addr)|ty (n:String)
 deriving DecidableEq
def RelV:V->Value->Prop
 | .non,u=>u=W6| .bl b,u=>u=OB b| .int i,u=>∃t,u=DS i t| .str x,u=>∃t,u=DR x t| .tu b,u=>∃t,u=C83 b t| .wM b,u=>∃t,u=Yd b t| .ref a,u=>u=E7 a| .ty n,u=>u=D09 n
abbrev Vals:List V->List Value->Prop:=Paired RelV
theorem Vals.length{xs:List V}{us:List Value}(r:Vals xs us):xs.length=us.length:=OU r
theorem Vals.get:∀{xs:List V} {us:List Value} {i:Nat} {x:V},Vals xs us->xs[i]?=some x->∃u,us[i]?=some u/\RelV x u
 | _,_,_,_,.nil,e=>by simp at e| _,_,0,_,.cons r _,e=>by simp at e;subst e;exact#[_,rfl,r]| _,_,i+1,x,.cons _ t,e=>by let#[u,g,f]:=Vals.get (i:=i) (x:=x) t (by simpa using e);exact#[u,by simpa using g,f]
theorem Vals.set(r:RelV x u):∀{xs:List V} {us:List Value} (i:Nat),Vals xs us->Vals (xs.set i x) (us.set i u)
 | _,_,_,.nil=>.nil| _,_,0,.cons _ t=>.cons r t| _,_,i+1,.cons q t=>.cons q (Vals.set r i t)
theorem Vals.append:∀{xs ys:List V} {us f:List Value},Vals xs us->Vals ys f->Vals (xs++ys) (us++f)
 | _,_,_,_,.nil,s=>s| _,_,_,_,.cons r t,s=>.cons r (Vals.append t s)
theorem Vals.take:∀{xs:List V} {us:List Value} (n:Nat),Vals xs us->Vals (xs.take n) (us.take n)
 | _,_,0,_=>.nil| _,_,_+1,.nil=>.nil| _,_,n+1,.cons r t=>.cons r (Vals.take n t)
theorem Vals.drop:∀{xs:List V} {us:List Value} (n:Nat),Vals xs us->Vals (xs.drop n) (us.drop n)
 | _,_,0,r=>r| _,_,_+1,.nil=>.nil| _,_,n+1,.cons _ t=>Vals.drop n t
def Vals.none_of:∀{xs:List V} {us:List Value} {i:Nat},Vals xs us->xs[i]?=none->us[i]?=none:=λ{xs us i} r e=>by have g:=r.length;have f:xs.length<=i:=A86.mp e;exact A86.mpr ()
def dz:Option V->Option Value->Prop
 | some v,some u=>RelV v u| none,none=>True| _,_=>False
def KV{κ:Type}:List (κ×V)->List (κ×Value)->Prop:=Paired λ(p:κ×V) (q:κ×Value)=>p.1=q.1/\RelV p.2 q.2
def kV:Key->V
 | .inl i=>.int i| .inr x=>.str x
section
variable{prog:Program}{w:World}{K:Type}[DecidableEq K](knd:KeyKind prog w K)
def cb(h:Heap)(q:List K×List K)(a:Addr):Prop:=∃o items n b f,h.get? a=some o/\o.cls=.type "tuple" /\ o.data=.seq items n/\items.toList=E7 b::f/\IsTupleKey knd h q.1 b/\ItemsAre knd q.2 f
def TV(q:List K×List K):Int:=reduceHash (Zj (tupleKeyHash knd q.1::q.2.map knd.hash))
variable{knd}
def cb.typeIs{s:Shared}{q:List K×List K}{a:Addr}(x:cb knd s.heap q a):s.TypeIs (.ref a) "tuple" := let ⟨o,_,_,_,_,f,g,_⟩:=x;#[o,f,g]
theorem cb.inj{h:Heap}{a:Addr}{x y:List K×List K}(q:cb knd h x a)(p:cb knd h y a):x=y:=by let#[o,items,n,b,C,r,_,u,t,B,A]:=q;let#[l,G,E,b',j,m,_,g,f,k,i]:=p;obtain rfl:o=l:=D8 (r.symm.trans m);rw[u] at g;injection g with e _;subst e;rw[t] at f;cases f;exact Lx (B.inj k) (A.inj i)
theorem cb.keeps{A ep}(x:cb knd h q a)(k:h.get? d=some o)(l:o.data=.dict A ep)(j:U4 d h h'):cb knd h' q a:=by
 let#[g,items,n,b,m,i,r,f,p,u,t]:=x;have y:a≠d:=by rintro rfl;obtain rfl:g=o:=D8 (i.symm.trans k);rw[l] at f;exact nomatch f
 exact#[g,items,n,b,m,(j.2 a y).trans i,r,f,p,u.keeps k l j,t]
variable{A:Around}{E:Value->Shared->Prop}{s:Shared}
def ue1(y:A.units+1<cLine)(B:cb knd s.heap q a)(h:Q (TV knd q) { s with toks:=s.toks+(q.1.length+1+q.2.length+1)}): wpAny (model prog w) A (pyHash (.ref a)) Q E s:=by
 have l:=B.typeIs;let#[m,p]:=q;let#[o,items,n,b,C,G,_,I,g,H,hi]:=B;unfold pyHash;first|unfold pyHashByItsType|skip
 first|apply B5 (wpAny_cRoomFor_or (.inr (B85 y)) ?_)|skip
 apply B5 (LM l F.slot_tuple_hash.lookup ?_);show wpAny _ _ (if(some (Yq "tuple.__hash__")==some W6)=true then _ else _) Q E s;rw[if_neg (by rw[beq_builtin_none];exact C8)];apply B5 (LM l F.slot_tuple_hash.lookup ?_);show wpAny _ _ (callSpecialIfBoundUnlessNone? (.ref a) "__hash__" _ >>= _) Q E s;apply B5 (wpAny_callSpecialIfBoundUnlessNone?_slot l F.slot_tuple_hash (O5 F.slot_tuple_hash l F.entry_tuple_hash ?_ (F.args_tuple_hash_1 _)));show wpAny _ _ (A72 (.ref a) >>= _) _ _ s;apply B5 (YK G I ?_);apply B5 ?_;rw[<- X9];apply Pb _
  (λrest (r:Array Int) i=>(rest=E7 b::C/\r.toList=[]/\i=s)\/∃done left,p=done++left/\ItemsAre knd left rest/\r.toList=tupleKeyHash knd m::done.map knd.hash/\i={ s with toks:=s.toks+(m.length+1)+done.length})
  _ ?_ ?_ _ _ (.inl ⟨g,rfl,rfl⟩)
 .rintro x rest r i (⟨e,f,rfl⟩|⟨done,left,rfl,g,j,rfl⟩)
  .cases e;apply B5 (wpAny_pyHash_tuple (knd:=knd) y H ?_);first
    | exact C4 (.inr ⟨[],p,rfl,hi,by simp[f],rfl⟩)
    | exact B5 (C4 (C4 (.inr ⟨[],p,rfl,hi,by simp[f],rfl⟩)))
  .cases g with
   | @cons k _ t _ L u =>
    apply B5 (knd.pyHash L ?_);first
     | exact C4 (.inr ⟨done++[k],t,by simp,u,by simp[j],by simp[L7]⟩)
     | exact B5 (C4 (C4 (.inr ⟨done++[k],t,by simp,u,by simp[j],by simp[L7]⟩)))
 .rintro r i (⟨e,_,_⟩|⟨done,left,rfl,g,j,rfl⟩)
  .cases e
  .cases g;rw[E5] at h;show wpAny _ _ (retInt (Zj r.toList)) _ _ _;rw[j];apply wpAny_ret_mkInt ?_;generalize J:Zj (tupleKeyHash knd m::done.map knd.hash)=N;show wpAny _ _ (if(decide (-(2:Int)^63<=N)&&decide (N<2^63))=true then _ else _) Q E _;unfold TV reduceHash at h;rw[J] at h;by_cases f:(decide (-(2:Int)^63<=N)&&decide (N<2^63))=true
   .rw[if_pos f];rw[if_pos f] at h;exact C4 (by simpa[L7] using h)
   .rw[if_neg f];rw[if_neg f] at h;exact B5 (Ct (C4 (by simpa[L7] using h)))
def us4{P:D19->Shared->Prop}(hu:A.units<cLine)(hx:cb knd s.heap x a)(hy:cb knd s.heap y b)(h:P (.done (.ret (.bool (decide (x=y))))) s): wpAny (model prog w) A (Builtin.«tuple.__eq__» #[[.ref a,.ref b],[]]) P E s:=by
 have hTb:=hy.typeIs;let#[m,k]:=x;let#[t,j]:=y;let#[oa,xs,na,ba,p,U,_,hda,C,Y,hia]:=hx;let#[ob,i,nb,bb,o,S,_,iy,B,X,Z]:=hy;show wpAny _ _ (XU (.ref b) (.type "tuple") >>= _) _ _ s;apply B5 (LO hTb YU ?_);simp only[U7,K6,if_false];apply B5 (YK U hda ?_);apply B5 (YK S iy ?_);apply B5 ?_;have O:Ou xs.toList i.toList=(E7 ba,E7 bb)::Ou p o:=by rw[C,B];rfl
 have Q:(xs.size==i.size)=(p.length==o.length):=by
  have e1:xs.size=p.length+1:=by rw[<- K3,C];rfl
  have e2:i.size=o.length+1:=by rw[<- K3,B];rfl
  rw[e1,e2];simp
 apply Pb _
  (λrest r L=>r.1=none/\L=s/\(rest=(E7 ba,E7 bb)::Ou p o\/∃J I q n,rest=Ou q n/\ItemsAre knd J q/\ItemsAre knd I n/\decide (J=I)=decide ((m,k)=(t,j))/\(q.length==n.length)=(xs.size==i.size)))
  _ ?_ ?_ _ _ #[rfl,rfl,.inl O]
 .rintro⟨u,v⟩ rest r L ⟨R,rfl,e|⟨J,I,q,n,l,N,M,H,f⟩⟩
  .cases e;apply B5 (wpAny_eqBool_tuple (knd:=knd) hu Y X ?_);by_cases g:m=t
   .subst g;rw[decide_eq_true rfl];simp only[U7,K6,if_false];apply C4 #[rfl,rfl,.inr #[k,j,p,o,rfl,hia,Z,?_,Q.symm]];by_cases G:k=j
    .simp[G]
    .simp[G]
   .rw[decide_eq_false g];simp only[YO,if_true];have hf:decide ((m,k)=(t,j))=false:=by simp[g]
    rw[hf] at h;exact B5 (C4 (C4 (C4 h)))
  .cases N with
   | nil=>simp at l| @cons k1 u' ZN PV h1 VR =>
    cases M with
    | nil=>simp at l| @cons k2 v' Zk PC h2 VQ =>
     simp only[N6,Y4,Prod.mk.injEq] at l;let#[#[rfl,rfl],rfl]:=l;apply B5 (knd.eqBool (a:=k1) (b:=k2) h1 h2 ?_);by_cases g:k1=k2
     .subst g;rw[decide_eq_true rfl];simp only[U7,K6,if_false];apply C4 #[rfl,rfl,.inr #[ZN,Zk,PV,PC,rfl,VR,VQ,?_,by simpa using f]];rw[<- H];by_cases G:ZN=Zk
      .simp[G]
      .simp[G]
     .rw[decide_eq_false g];simp only[YO,if_true];have hf:decide ((m,k)=(t,j))=false:=by rw[<- H];simp[g]
      rw[hf] at h;exact B5 (C4 (C4 (C4 h)))
 .rintro⟨r1,r2⟩ L ⟨R,rfl,e|⟨J,I,q,n,l,N,M,H,f⟩⟩
  .cases e
  .simp only at R;subst R;apply C4 ?_;have sy:(xs.size==i.size)=decide ((m,k)=(t,j)):=by
    rw[<- H,<- f];cases N with
    | nil =>
     cases M with
     | nil=>simp| cons _ _=>simp
    | cons _ _ =>
     cases M with
     | nil=>simp| cons _ _=>simp at l
   show P (.done (.ret (.bool (xs.size==i.size)))) L;rw[sy];exact h
def ue2(j:A.units+1<cLine)(f:cb knd s.heap x a)(i:cb knd s.heap y b)(h:Q (decide (x=y)) s): wpAny (model prog w) A (eqBool (.ref a) (.ref b)) Q E s:=by
 unfold eqBool;try with_reducible apply M0 ?_
 show wpAny _ _ (if(E7 a==E7 b)=true then _ else _) Q E s;by_cases g:(E7 a==E7 b)=true
 .rw[if_pos g];have e:a=b:=by have:=eq_of_beq g;injection this
  subst e;obtain rfl:=f.inj i;exact B5 (Ct (C4 (by simpa using h)))
 .rw[if_neg g];exact B5 (wpAny_richCompare_same_room (op:=.Eq) f.typeIs i.typeIs F.slot_tuple_eq
   (O5 F.slot_tuple_eq f.typeIs F.entry_tuple_eq (us4 j f i #[_,rfl,(λe=>nomatch e),Q3 h]) (F.args_tuple_eq_2 _ _)) (B85 j))
def ue0(j:IsTupleKey knd s.heap ks a)(h:Q true s):wpAny (model prog w) A (Ow (n+1) (.ref a)) Q E s:=by
 have k:=j.typeIs;let#[o,items,n,l,_,m,hi]:=j;unfold Ow;apply B5 (LM k F.slot_tuple_eq.lookup ?_);show wpAny _ _ (XU (.ref a) (.type "tuple") >>= _) _ _ s;apply B5 (LO k YU ?_);simp only[U7,K6,if_false];apply B5 (L9 l m ?_);apply B5 ?_;show wpAny _ _ (forIn items _ _) _ _ s;rw[<- X9];apply Pb _ (λrest r f=>r.1=none/\f=s/\∀v∈rest,carriedByValue v=true) _ ?_ ?_ _ _ #[rfl,rfl,hi.byValue]
 .rintro v rest r f ⟨g,rfl,i⟩;rw[eqIsQuiet_byValue _ (i v C6)];apply B5 (C4 ?_);simp only[U7,K6,if_false];exact C4 #[rfl,rfl,λu p=>i u (C2 _ p)]
 .rintro⟨t,q⟩ f ⟨g,rfl,_⟩;simp only at g;subst g;exact C4 h
def uf9(i:cb knd s.heap q a)(h:Q true s):wpAny (model prog w) A (Ow 8 (.ref a)) Q E s:=by
 have j:=i.typeIs;let#[o,items,n,b,k,l,_,t,p,m,hi]:=i;unfold Ow;apply B5 (LM j F.slot_tuple_eq.lookup ?_);show wpAny _ _ (XU (.ref a) (.type "tuple") >>= _) _ _ s;apply B5 (LO j YU ?_);simp only[U7,K6,if_false];apply B5 (L9 l t ?_);apply B5 ?_;show wpAny _ _ (forIn items _ _) _ _ s;rw[<- X9];apply Pb _ (λrest r f=>r.1=none/\f=s/\(rest=E7 b::k\/∀v∈rest,carriedByValue v=true)) _ ?_ ?_ _ _ #[rfl,rfl,.inl p]
 .rintro v rest r f ⟨g,rfl,e|qf⟩
  .cases e;apply B5 (ue0 (knd:=knd) m ?_);simp only[U7,K6,if_false];exact C4 #[rfl,rfl,.inr hi.byValue]
  .rw[eqIsQuiet_byValue _ (qf v C6)];apply B5 (C4 ?_);simp only[U7,K6,if_false];exact C4 #[rfl,rfl,.inr λu x=>qf u (C2 _ x)]
 .rintro⟨B,y⟩ f ⟨g,rfl,_⟩;simp only at g;subst g;exact C4 h
end
def AO{prog:Program}{w:World}{K:Type}[DecidableEq K](knd:KeyKind prog w K):HeapKind prog w (List K×List K) where
 is:=cb knd
 hash:=TV knd
 draws:=λq=>q.1.length+1+q.2.length+1
 room:=λA=>A.units+1<cLine
 inj:=λi g=>i.inj g
 keeps:=λx n o m=>x.keeps n o m
 pyHash:=λj k h=>ue1 j k h
 eqBool:=λj i g h=>ue2 j i g h
 quiet:=λk h=>uf9 k h
inductive HO where
 | lst (xs:List V)
 | tup (xs:List V)
 | dK (kvs:List (Key×V))|dT (kvs:List (List Key×V))
 | dN (K:W.Frag) (kvs:List ((List Key×List Key)×V))
 | set (S:Int->Bool) (n:Nat)
 | ins (C i:Addr) (g:List (Str×V))
 | own (x:Addr)
 | xd (g:List (Str×V))
 | met (f x:Addr)
 | Dg (lo hi:Int)
 | dj (o:Obj) (u:HO)
 | za (ps:Array Value)
 | ext (h:Heap->Prop)
abbrev Hp:=Addr->Option HO
def upd(H:Hp)(a:Addr)(o:HO):Hp:=λb=>if b=a then some o else H b
def hJ:upd H a o a=some o:=by unfold upd;rw[if_pos rfl]
def cU(h:b≠a):upd H a o b=H b:=by unfold upd;rw[if_neg h]
def Qr{H:Hp}{a b:Addr}{o u:HO}(h:H a=some o)(h':H b=some u)(d:o≠u):a≠b:=by intro e;subst e;rw[h] at h';exact d (D8 h')
def xC{H:Hp}{a b:Addr}{o:HO}(h:H a=some o)(h':H b=none):a≠b:=by intro e;subst e;rw[h] at h';cases h'
def wQ(K:W.Frag)(H:Hp)(a:Addr)(xs:List V):Prop:=H a=some (.tup xs)\/(∃o,H a=some (.dj o (.tup xs))) \/
 ∃(o:Obj) (its:Array Value) (n:Nat),K.lookup a=some o/\o.cls=.type "tuple" /\ o.data=.seq its n/\its.size<=sizeLine/\Vals xs its.toList/\o.dict=none
def zE(K:W.Frag)(H:Hp)(a:Addr)(q:List Key×List Key):Prop:=∃b,wQ K H a (.ref b::q.2.map kV)/\wQ K H b (q.1.map kV)
def wQ.fZ{K:W.Frag}{H f:Hp}{a:Addr}{xs:List V}(x:wQ K H a xs)(g:∀b xs,H b=some (.tup xs)->f b=some (.tup xs))(h:∀b o xs,H b=some (.dj o (.tup xs))->f b=some (.dj o (.tup xs))):wQ K f a xs:=by
 rcases x with x|⟨o,x⟩|x
 .exact .inl (g _ _ x)
 .exact .inr (.inl ⟨o,h _ _ _ x⟩)
 .exact .inr (.inr x)
section
variable(P:Program)(w:World)
def oi(h:Heap)(a:Addr)(its:Array Value):Prop:=∃o,h.get? a=some o/\o.cls=.type "tuple" /\ (∃n,o.data=.seq its n)/\o.dict=none
def oi.tup{h:Heap}{a:Addr}{its:Array Value}(x:oi h a its):IsTup h a its:=let ⟨o,e,c,d,_⟩:=x;#[o,e,c,d]
def oi.new(h:Heap)(its:Array Value):oi (h.push { cls:=.type "tuple",data:=.seq its}) h.objs.size its:=#[_,E1 _ rfl,rfl,#[_,rfl],rfl]
def bg(H:Hp)(h:Heap)(a:Addr):HO->Prop
 | .lst xs=>xs.length<=sizeLine/\∃(its:List Value) (n:Nat),Vals xs its/\h.get? a=some { cls:=.type "list",data:=.seq its.toArray n}| .tup xs=>xs.length<=sizeLine/\∃its:List Value,Vals xs its/\oi h a its.toArray| .dK kvs=>kvs.length<=sizeLine/\(a==Q4)=false/\∃y,KV kvs y/\h.DictOf (d_ P w) a y| .dT kvs=>kvs.length<=sizeLine/\(a==Q4)=false/\∃xs:List (List Key×Addr×Value),
   Paired (λ(p:List Key×V) (q:List Key×Addr×Value)=>p.1=q.1/\H q.2.1=some (.tup (p.1.map kV))/\RelV p.2 q.2.2) kvs xs /\
   ∃o j r,h.get? a=some o/\o.ExactDict/\o.data=.dict j r/\j.toList=xs.map (entryOfKey (DQ (d_ P w)))/\(xs.map (·.1)).Nodup
 | .dN K kvs=>kvs.length<=sizeLine/\(a==Q4)=false/\∃xs:List ((List Key×List Key)×Addr×Value),
   Paired (λ(p:(List Key×List Key)×V) (q:(List Key×List Key)×Addr×Value)=>p.1=q.1/\zE K H q.2.1 p.1/\RelV p.2 q.2.2) kvs xs /\
   ∃o j r,h.get? a=some o/\o.ExactDict/\o.data=.dict j r/\j.toList=xs.map (entryOfKey (AO (d_ P w)))/\(xs.map (·.1)).Nodup
 | .set S n=>h.SetOf (intKind P w) a S n| .ins C l i=>H l=some (.own a)/\i.length<=1000/\l≠a/\h.get? a=some (W.instObj C l) /\
   ∃g,h.Ns1 l g/\(∀f,dz (i.lookup f) (g f))/\Yl g (i.map (·.1))
 | .own _=>∃o,h.get? a=some o| .xd i=>∃g,h.Ns1 a g/\∀f,dz (i.lookup f) (g f)| .Dg lo hi=>∃t u v,h.get? a=some { cls:=.type "range",data:=.fields [.int lo t,.int hi u,.int 1 v].toArray}| .dj o u=>h.get? a=some o/\bg H h a u| .za E=>h.get? a=some { cls:=.none,data:=.fields E}| .met f x=>h.get? a=some (W.methodObj (.ref f) (.ref x))| .ext m=>m h/\(∃o,h.get? a=some o)/\∀B A:Heap,m B->(∀o,B.get? a=some o->A.get? a=some o)->m A
def gm(H:Hp)(h:Heap):Prop:=∀a o,H a=some o->bg P w H h a o
end
section
variable{P:Program}{w:World}{H H':Hp}{h h':Heap}{a:Addr}{o:HO}
theorem bg.lt(x:bg P w H h a o):a<h.objs.size:=by
 cases o with
 | lst xs=>let#[_,_,_,_,e]:=x;exact D5 e| tup xs=>let#[_,_,_,p]:=x;exact p.tup.lt| dK kvs=>let#[_,_,_,_,o,_,_,e,_]:=x;exact D5 e| dT kvs=>let#[_,_,_,_,o,_,_,e,_]:=x;exact D5 e| dN K kvs=>let#[_,_,_,_,o,_,_,e,_]:=x;exact D5 e| set S n=>let#[o,_,_,_,e,_]:=x;exact D5 e| ins C k fs=>let#[_,_,_,e,_]:=x;exact D5 e| own y=>let#[_,e]:=x;exact D5 e| xd fs=>let#[_,#[_,_,_,e,_],_]:=x;exact D5 e| Dg lo hi=>let#[_,_,_,e]:=x;exact D5 e| dj j u=>let#[e,_]:=x;exact D5 e| za i=>exact D5 (show h.get? a=some _ from x)| met f y=>exact D5 (show h.get? a=some _ from x)| ext g=>let#[_,#[_,e],_]:=x;exact D5 e
theorem Paired.tZ{j i:Type}{F G:j->i->Prop}:∀{l₁:List j} {g:List i},Paired F l₁ g->(∀a b,F a b->G a b)->Paired G l₁ g
 | _,_,.nil,_=>.nil| _,_,.cons r t,f=>.cons (f _ _ r) (Paired.tZ t f)
theorem bg.fZ(x:bg P w H h a o)(k:∀b u,(b=a\/H b=some (.own a))->h.get? b=some u->h'.get? b=some u) (J:∀b,H b=some (.own a)->H' b=some (.own a)) (m:∀b xs,H b=some (.tup xs)->H' b=some (.tup xs)) (E:∀b o xs,H b=some (.dj o (.tup xs))->H' b=some (.dj o (.tup xs)):=by first|exact λ_ _ _ q=>q|exact λ_ _ _ q=>by rw[cU (xC q (by assumption))];exact q):bg P w H' h' a o:=by
 induction o with
 | lst xs=>let#[z,its,n,r,e]:=x;exact#[z,its,n,r,k _ _ (.inl rfl) e]| tup xs=>let#[z,its,r,g,e,c]:=x;exact#[z,its,r,g,k _ _ (.inl rfl) e,c]| dK kvs=>let#[z,y,G,r,g,i,j,e,c]:=x;exact#[z,y,G,r,g,i,j,k _ _ (.inl rfl) e,c]| dT kvs =>let#[z,y,xs,r,g,i,j,e,c]:=x;exact#[z,y,xs,Paired.tZ r λp q z=>#[z.1,m _ _ z.2.1,z.2.2],g,i,j,k _ _ (.inl rfl) e,c]| dN K kvs =>let#[z,y,xs,r,g,i,j,e,c]:=x;exact#[z,y,xs,Paired.tZ r λp q z=>#[z.1,let ⟨b,M,L⟩:=z.2.1;#[b,M.fZ m E,L.fZ m E],z.2.2],g,i,j,k _ _ (.inl rfl) e,c]| set S n=>let#[g,i,j,t,e,c]:=x;exact#[g,i,j,t,k _ _ (.inl rfl) e,c]| ins C Q fs =>let#[d,z,ne,e,l,#[od,i,j,N,c],r]:=x;exact#[J _ d,z,ne,k _ _ (.inl rfl) e,l,#[od,i,j,k _ _ (.inr d) N,c],r]| own y=>let#[g,e]:=x;exact#[g,k _ _ (.inl rfl) e]| xd fs=>let#[l,#[od,i,j,e,c],r]:=x;exact#[l,#[od,i,j,k _ _ (.inl rfl) e,c],r]| Dg lo hi=>let#[t,u,v,e]:=x;exact#[t,u,v,k _ _ (.inl rfl) e]| dj g u I=>let#[e,q]:=x;exact#[k _ _ (.inl rfl) e,I q]| za B =>have e:h.get? a=some { cls:=.none,data:=.fields B}:=x;show h'.get? a=some { cls:=.none,data:=.fields B};exact k a _ (.inl rfl) e| met f y =>have e:h.get? a=some (W.methodObj (.ref f) (.ref y)):=x;show h'.get? a=some (W.methodObj (.ref f) (.ref y));exact k a _ (.inl rfl) e| ext O=>let#[p,#[o,e],st]:=x;exact#[st _ _ p λo q=>k _ _ (.inl rfl) q,#[o,k _ _ (.inl rfl) e],st]
theorem gm.lt(x:gm P w H h)(e:H a=some o):a<h.objs.size:=(x a o e).lt
def gm.fresh(x:gm P w H h)(e:h.objs.size<=a):H a=none:=by
 cases q:H a with
 | none=>rfl| some u=>exact absurd (C5 (x.lt q) e) (D' _)
def gm.kept(x:gm P w H h)(k:∀b u,h.get? b=some u->h'.get? b=some u):gm P w H h':=λa o e =>
 (x a o e).fZ (λb u _ q=>k b u q) (λ_ q=>q) λ_ _ q=>q
def gm.laid(x:gm P w H h)(k:∀b u,h.get? b=some u->h'.get? b=some u)(i:h.objs.size<=a)(new:bg P w (upd H a o) h' a o):gm P w (upd H a o) h':=λb u e=>by
 have f:=x.fresh i;by_cases g:b=a
 .subst g;rw[hJ] at e;cases e;exact new
 .rw[cU g] at e;exact(x b u e).fZ (λc v _ q=>k c v q) (λc q=>by rw[cU (xC q f)];exact q) λc xs q=>by rw[cU (xC q f)];exact q
end
def Rd(H:Hp)(a:Addr)(u:HO):Prop:=H a=some u\/∃o,H a=some (.dj o u)
def Rd.of{H:Hp}{a:Addr}{u:HO}(h:H a=some u):Rd H a u:=.inl h
def Rd.ok{P:Program}{w:World}(r:Rd H a u)(x:gm P w H h):bg P w H h a u:=by
 rcases r with r|⟨o,r⟩
 .exact x a u r
 .let#[_,q]:=x a _ r;exact q
def JB:Option HO->Prop
 | some (.lst _)=>True| some (.dK _)=>True| some (.dT _)=>True| some (.dN _ _)=>True| some (.set _ _)=>True| some (.ins _ _ _)=>True| some (.ext _)=>True| _=>False
section
variable{P:Program}{w:World}{H:Hp}{h h':Heap}{x e:Addr}{o':HO}
def gm.write(ok:gm P w H h)(f:JB (H x))(l:e=x\/H e=some (.own x))(k:∀b u,b≠e->h.get? b=some u->h'.get? b=some u)(t:∃u,h'.get? e=some u) (new:bg P w (upd H x o') h' x o'):gm P w (upd H x o') h':=λb u q=>by
 have m:∀c y,H c=some (.own y)->c≠x:=λc y r z=>by subst z;rw[r] at f;exact f
 have p:∀c xs,H c=some (.tup xs)->c≠x:=λc xs r z=>by subst z;rw[r] at f;exact f
 by_cases g:b=x
 .subst g;rw[hJ] at q;cases q;exact new
 .rw[cU g] at q;by_cases i:b=e
  .have j:H b=some (.own x):=by
    rcases l with z|z
    .exact absurd (i.trans z) g
    .rw[i];exact z
   rw[q] at j;cases j;let#[v,n]:=t;exact#[v,by rw[i];exact n]
  .apply(ok b u q).fZ (λc v hc r=>k c v ?_ r) (λc r=>by rw[cU (m c b r)];exact r) (λc xs r=>by rw[cU (p c xs r)];exact r) λc o xs r=>by rw[cU (λz=>by rw[z] at r;rw[r] at f;exact f)];exact r
   rcases hc with rfl|hc
   .exact i
   .rintro rfl;rcases l with z|z
    .exact m c b hc z
    .rw[hc] at z;cases z;exact g rfl
end
def NK:={ u:HO // ∀f,u≠.dK f}
structure Un(fs ex:List Addr)(H H':Hp)(h h':Heap):Prop where
 keep:∀b o,h.get? b=some o->H b=none->b∉fs->b∉ex->h'.get? b=some o
 slot:∀b o,h.get? b=some o->H b=none->b∈fs->b∉ex->∃sl,h'.get? b=some { o with slots:=sl}
 free:∀b o,h.get? b=some o->H b=none->b∉ex->H' b=none
 there:∀b o,h.get? b=some o->b∉ex->∃o',h'.get? b=some o'
 fJ:∀b xs,H b=some (.tup xs)->H' b=some (.tup xs)
 dO:∀b o (u:NK),H b=some (.dj o u.1)->H' b=some (.dj o u.1)
 iK:∀b ps,H b=some (.za ps)->∃more,H' b=some (.za (ps++more))
section
variable{fs fe ex ex':List Addr}{H H1 H2:Hp}{h h1 h2 h':Heap}{a x e:Addr}{o:HO}
def Un.any(u:Un fs ex H H1 h h1){b:Addr}{ob:Obj}(q:h.get? b=some ob)(n:H b=none)(f:b∉ex):∃i,h1.get? b=some { ob with slots:=i}:=by
 by_cases g:b∈fs
 .exact u.slot b ob q n g f
 .exact⟨ob.slots,u.keep b ob q n g f⟩
def Un.trans(a:Un fs ex H H1 h h1)(b:Un fs ex H1 H2 h1 h2):Un fs ex H H2 h h2 where
 keep:=λc f q n j g=>b.keep c f (a.keep c f q n j g) (a.free c f q n g) j g
 slot:=λc f q n j g=>by let#[u,i]:=a.slot c f q n j g;let#[t,l]:=b.slot c _ i (a.free c f q n g) j g;exact#[t,l]
 free:=λc f q n g=>by let#[k,i]:=a.there c f q g;exact b.free c k i (a.free c f q n g) g
 there:=λc f q g=>by let#[k,i]:=a.there c f q g;exact b.there c k i g
 fJ:=λc xs q=>b.fJ c xs (a.fJ c xs q)
 dO:=λc f xs q=>b.dO c f xs (a.dO c f xs q)
 iK:=λc m q=>by let#[r,i]:=a.iK c m q;let#[p,l]:=b.iK c _ i;exact#[r++p,by rw[l,B71]]
def Un.kept(k:∀b u,h.get? b=some u->h'.get? b=some u):Un fs ex H H h h':=#[λb f q _ _ _=>k b f q,λb f q _ _ _=>#[f.slots,k b f q],λ_ _ _ n _=>n,λb f q _=>#[f,k b f q],λ_ _ q=>q,λ_ _ _ q=>q,λ_ g q=>#[[].toArray,by rw[q];simp]]
def Un.refl:Un fs ex H H h h:=Un.kept λ_ _ q=>q
def Un.laid(k:∀b u,h.get? b=some u->h'.get? b=some u)(g:h.objs.size<=a)(f:H a=none):Un fs ex H (upd H a o) h h' where
 keep:=λb u q _ _ _=>k b u q
 slot:=λb u q _ _ _=>#[u.slots,k b u q]
 free:=λb u q n _=>by rw[cU (J0 (C5 (D5 q) g))];exact n
 there:=λb u q _=>#[u,k b u q]
 fJ:=λb xs q=>by rw[cU (xC q f)];exact q
 dO:=λb u xs q=>by rw[cU (xC q f)];exact q
 iK:=λb i q=>#[[].toArray,by rw[cU (xC q f),q];simp]
def Un.write(f:JB (H x))(p:e=x\/H e=some (.own x))(k:∀b u,b≠e->h.get? b=some u->h'.get? b=some u)(t:∃u,h'.get? e=some u):Un fs ex H (upd H x o) h h':=by
 have i:∀b,H b=none->b≠x:=λb n z=>by subst z;rw[n] at f;exact f
 have j:∀b,H b=none->b≠e:=λb n z=>by
  subst z;rcases p with r|r
  .exact i b n r
  .rw[n] at r;cases r
 have g:∀b u,H b=some u->¬ JB (some u)->b≠x:=λb u q m z=>by subst z;rw[q] at f;exact m f
 apply#[λb u q n _ _=>k b u (j b n) q,λb u q n _ _=>#[u.slots,k b u (j b n) q],λb u q n _=>by rw[cU (i b n)];exact n,λb u q _=>?_,
  λb xs q=>by rw[cU (g b _ q λz=>z)];exact q,λb u xs q=>by rw[cU (g b _ q λz=>z)];exact q,λb y q=>#[[].toArray,by rw[cU (g b _ q λz=>z),q];simp]]
 by_cases l:b=e
 .subst l;exact t
 .exact#[u,k b u l q]
def Un.mono(u:Un fs ex H H1 h h1)(j:∀b∈fs,b∈fe)(i:∀b∈ex,b∈ex'):Un fe ex' H H1 h h1:=#[λb g q n k f=>u.keep b g q n (λz=>k (j b z)) λz=>f (i b z),λ_ _ q n _ f=>u.any q n λz=>f (i _ z),λb g q n f=>u.free b g q n λz=>f (i b z),λb g q f=>u.there b g q λz=>f (i b z),u.fJ,u.dO,u.iK]
end
def Nj(h:Heap)(H:Hp):List Addr:=(F3 h.objs.size).filter λa=>(H a).isSome
def lG(h:Heap)(H:Hp):Heap:=W.hideAll h (Nj h H)
def vg4(h:Heap)(H:Hp):(lG h H).objs.size=h.objs.size:=W.hideAll_size _ _
def vt0{h:Heap}(e:h.get? b=some o)(n:H b=none):(lG h H).get? b=some o:=W.hideAll_get _ e λf=>by have q:(H b).isSome=true:=(Y5.mp f).2;rw[n] at q;simp at q
def wh8(e:(lG h H).get? b=some o):h.get? b=some o/\H b=none:=by
 have f:h.get? b=some o:=W.of_hideAll (Nj h H) e;apply#[f,?_];cases q:H b with
 | none=>rfl| some x =>have g:b∈Nj h H:=Y5.mpr #[N7.mpr (D5 f),by simp[q]];have z:(lG h H).get? b=none:=W.hideAll_none (Nj h H) g;rw[z] at e;cases e
def wp0(g h:Heap)(L:Addr):List (Addr×Obj):=(F3 h.objs.size).filterMap λa=>if a=L\/(g.get? a).isSome=true then none else(h.get? a).map λo=>(a,o)
def rest(g h:Heap)(L d:Addr):List (Addr×Obj):=(wp0 g h L).filter λp=>decide (p.1≠d)
structure Mod(K:W.Frag)(mg:Str->Option Value)(base:Heap):Prop where
 HV:K.In base
 glob:base.Ns J2 mg
 blt:∃mb,base.Ns OA mb/\∀x:Str,x ≠ "__name__" -> mb x=Q5 x
 nolimit:base.NoLimit
structure Cx where
 prog:Program
 w:World
 K:W.Frag
 mg:Str->Option Value
 base:Heap
 A:Around
 N:List Str
 s₀:Shared
 H₀:Hp
 env:Env
 outer:List Env
 stack:List Env
 ex:List Addr
 fn:Str->Bool
 calm:Bool
 pn:List (Addr×Obj)
 xe:Value->Shared->Prop
def sD(l:List Env):List Addr:=l.filterMap (·.frame)
abbrev Cx.fs(X:Cx):List Addr:=sD X.outer
def Jw(f:Scope)(x:Str):Prop:=f.names.lookup x=some .local\/f.names.lookup x=some .cell\/f.names.lookup x=some .free
def Loc(f:Scope)(x:Str):Prop:=f.names.lookup x=some .local\/f.names.lookup x=some .cell
def Look(env:Env)(h:Heap)(m:Str->Option Value)(x:Str)(u:Value):Prop:=(env.kindOf x=some .local/\m x=some u)\/((env.kindOf x=some .cell\/env.kindOf x=some .free)/\∃c,env.cells.lookup x=some c/\h.IsCell c (some u))
structure Cx.Ok(X:Cx):Prop where
 mod:Mod X.K X.mg X.base
 kind:X.env.scope.kind=.function
 glob:X.env.globals=J2
 blt:X.env.builtins=OA
 above:X.s₀.heap.objs.size<=X.env.locals
 inj:∀x y c,X.env.cells.lookup x=some c->X.env.cells.lookup y=some c->x=y
 has:∀x,(X.env.kindOf x=some .cell\/X.env.kindOf x=some .free)->∃c,X.env.cells.lookup x=some c
 Jq:∀x c,X.fn x=true->X.env.cells.lookup x=some c->X.s₀.heap.objs.size<=c
 hd:X.calm=true->X.A.handled=none
 frames:X.A.frames=some X.stack
 Dd:X.stack=X.outer\/(X.stack=X.env::X.outer/\X.env.frame=some X.env.locals)
 W':∀b∈X.ex,b≠X.env.locals/\∀x c,X.env.cells.lookup x=some c->c≠b
 bs:∀b o,X.base.get? b=some o->X.s₀.heap.get? b=some o/\X.H₀ b=none
 uB:X.base.objs.size<=X.s₀.heap.objs.size
 tV:∀b o,X.base.get? b=some o->b∉X.ex
 uv:∀b∈X.ex,b∉X.fs
 iz:X.s₀.heap.FunFrames X.base X.outer
 zw:∀b∈X.fs,X.H₀ b=none
structure Inv(X:Cx)(pins:List (Addr×Obj))(σ:List (Option V))(H:Hp)(s:Shared):Prop where
 ok:X.Ok
 os:s.os=X.s₀.os
 bare:yL s.gens
 base:Un X.fs X.ex X.H₀ H X.s₀.heap s.heap
 loc:∃m,s.heap.Ns X.env.locals m/\∀(i:Nat) (x:Str) (v:V),X.N[i]?=some x->σ[i]?=some (some v)->Jw X.env.scope x->∃u,RelV v u/\Look X.env s.heap m x u
 cell:∀x c,X.env.cells.lookup x=some c->∃v,s.heap.IsCell c v
 free:H X.env.locals=none
 fQ:∀x c,X.env.cells.lookup x=some c->H c=none
 pin:∀p∈X.pn++pins,s.heap.get? p.1=some p.2/\H p.1=none/\p.1≠X.env.locals/\p.1∉X.fs/\∀v,p.2.data≠.cell v
 aE:gm X.prog X.w H s.heap
 len:σ.length=X.N.length
section
variable{X:Cx}{pins:List (Addr×Obj)}{σ:List (Option V)}{H H':Hp}{s:Shared}{h':Heap}
def Cx.Ok.Vt(ok:X.Ok)(e:X.base.get? b=some o):b∉X.fs:=λf=>by have:=(ok.iz.mem f).1;rw[e] at this;cases this
theorem Inv.bs(I:Inv X pins σ H s):∀b o,X.base.get? b=some o->s.heap.get? b=some o/\H b=none:=λb o e =>
 #[I.base.keep b o (I.ok.bs b o e).1 (I.ok.bs b o e).2 (I.ok.Vt e) (I.ok.tV b o e),I.base.free b o (I.ok.bs b o e).1 (I.ok.bs b o e).2 (I.ok.tV b o e)]
def Inv.bk(I:Inv X pins σ H s):∀b o,X.base.get? b=some o->s.heap.get? b=some o:=λb o e=>(I.bs b o e).1
theorem Inv.mod(I:Inv X pins σ H s):Mod X.K X.mg X.base:=I.ok.mod
def Inv.iN(I:Inv X pins σ H s):X.K.In s.heap:=I.ok.mod.HV.keeps I.bk
theorem Inv.nolimit(I:Inv X pins σ H s):s.heap.NoLimit:=I.ok.mod.nolimit.keeps I.bk
def Inv.fr(I:Inv X pins σ H s):∃m,Fr X.base X.env.locals s.heap m:=
 let ⟨m,f,_⟩:=I.loc
 #[m,f,I.bk,D3 I.ok.uB I.ok.above]
theorem Inv.lt(I:Inv X pins σ H s):X.env.locals<s.heap.objs.size:=let ⟨_,f,_⟩:=I.loc;f.lt
def Inv.sz(I:Inv X pins σ H s):X.s₀.heap.objs.size<=s.heap.objs.size:=D3 I.ok.above (P4 I.lt)
def Inv.Vs(I:Inv X pins σ H s)(h:s.heap.objs.size<=a):a∉X.fs:=λg=>by let#[_,o,f,_]:=I.ok.iz.mem g;exact absurd (C5 (D5 f) (D3 I.sz h)) (D' _)
def Inv.Cd(I:Inv X pins σ H s):∀x c,X.env.cells.lookup x=some c->c≠X.env.locals:=λx c e z=>by let#[v,o,f,g]:=I.cell x c e;let#[m,#[j,k,l,i,h,_],_]:=I.loc;rw[z,i] at f;cases f;rw[h] at g;cases g
theorem Inv.iz(I:Inv X pins σ H s):s.heap.FunFrames X.base X.outer:=by
 have all:∀(l:List Env),(∀b∈sD l,b∈X.fs)->X.s₀.heap.FunFrames X.base l->s.heap.FunFrames X.base l:=by
  intro l;induction l with
  | nil=>intro _ _;trivial| cons env r j =>intro i p;let#[q,#[L,o,f,n,m,t],k]:=p;have h:L∈X.fs:=i L (by unfold sD;rw[Po,f];exact C6);let#[u,e]:=I.base.slot L o m (I.ok.zw L h) h λz=>I.ok.uv L z h;exact#[q,#[L,_,f,n,e,t],j (λb g=>i b (by unfold sD;rw[Po,f];exact C2 _ g)) k]
 exact all X.outer (λ_ g=>g) I.ok.iz
theorem Inv.stack(I:Inv X pins σ H s):s.heap.FunFrames X.base X.stack:=by
 rcases I.ok.Dd with e|⟨e,g⟩
 .rw[e];exact I.iz
 .rw[e];let#[m,f,_]:=I.loc;apply .cons (by rw[I.ok.kind];decide) g f ?_ I.iz;exact Heap.get?_none_of_le (D3 I.ok.uB I.ok.above)
def Inv.pj(I:Inv X pins σ H s):∀b∈sD X.stack,b∈X.env.locals::X.fs:=λb f=>by
 rcases I.ok.Dd with e|⟨e,g⟩
 .rw[e] at f;exact C2 _ f
 .rw[e] at f;unfold sD at f;rw[Po,g] at f;exact f
def Inv.qG(I:Inv X pins σ H s):∀b∈sD X.stack,H b=none:=λb hb=>by
 rcases D4.mp (I.pj b hb) with e|hb
 .rw[e];exact I.free
 .let#[_,o,f,_]:=I.ok.iz.mem hb;exact I.base.free b o f (I.ok.zw b hb) λz=>I.ok.uv b z hb
def Inv.step{g':Array GenState}{t':Nat}{d':Drawn}{ch:List Addr}(I:Inv X pins σ H s) (A:∀b∈ch,(b∈X.ex\/X.s₀.heap.objs.size<=b)/\b≠X.env.locals/\(∀x c,X.env.cells.lookup x=some c->c≠b)/\∀p∈X.pn++pins,p.1≠b) (keep:∀b o,b≠X.env.locals->b∉X.fs->b∉ch->s.heap.get? b=some o->H b=none->h'.get? b=some o) (slot:∀b o,b≠X.env.locals->b∈X.fs->b∉ch->s.heap.get? b=some o->H b=none->∃J,h'.get? b=some { o with slots:=J}) (free:∀b o,b∉ch->s.heap.get? b=some o->H b=none->H' b=none) (there:∀b o,b∉ch->s.heap.get? b=some o->∃B,h'.get? b=some B) (fJ:∀b xs,H b=some (.tup xs)->H' b=some (.tup xs)) (dO:∀b o (u:NK),H b=some (.dj o u.1)->H' b=some (.dj o u.1)) (iK:∀b ps,H b=some (.za ps)->∃more,H' b=some (.za (ps++more))) (ns:∀m,s.heap.Ns X.env.locals m->h'.Ns X.env.locals m) (aE:gm X.prog X.w H' h') (Z:yL g'): Inv X pins σ H' { s with heap:=h',gens:=g',drawn:=d',toks:=t'}:=by
 have C:∀b o,X.s₀.heap.get? b=some o->b≠X.env.locals:=λb o e=>J0 (C5 (D5 e) I.ok.above);have G:∀b o,X.s₀.heap.get? b=some o->b∉X.ex->b∉ch:=λb o e f j=>by
  rcases(A b j).1 with z|z
  .exact f z
  .exact absurd (C5 (D5 e) z) (D' _)
 have g:∀x c,X.env.cells.lookup x=some c->∀v,s.heap.IsCell c v->h'.IsCell c v:=λx c e v ⟨o,t,L⟩=>by
  have y:c∉ch:=λz=>(A c z).2.2.1 x c e rfl;by_cases O:c∈X.fs
  .let#[J,q]:=slot c o (I.Cd x c e) O y t (I.fQ x c e);exact#[_,q,L]
  .exact#[o,keep c o (I.Cd x c e) O y t (I.fQ x c e),L]
 apply#[I.ok,I.os,Z,#[λb o e n j f=>?_,λb o e n j f=>?_,λb o e n f=>?_,λb o e f=>?_,λb xs e=>fJ b xs (I.base.fJ b xs e),λb o xs e=>dO b o xs (I.base.dO b o xs e),λb ps e=>?_],?_,λx c e=>?_,?_,λx c e=>?_,λp N=>?_,aE,I.len]
 .exact keep b o (C b o e) j (G b o e f) (I.base.keep b o e n j f) (I.base.free b o e n f)
 .let#[J,h]:=I.base.slot b o e n j f;let#[S,E]:=slot b _ (C b o e) j (G b o e f) h (I.base.free b o e n f);exact#[S,E]
 .let#[B,h]:=I.base.there b o e f;exact free b B (G b o e f) h (I.base.free b o e n f)
 .let#[B,h]:=I.base.there b o e f;exact there b B (G b o e f) h
 .let#[R,h]:=I.base.iK b ps e;let#[Q,E]:=iK b _ h;exact#[R++Q,by rw[E,B71]]
 .let#[m,U,Y]:=I.loc;apply#[m,ns m U,λi x v h E e3=>?_];let#[u,r,l]:=Y i x v h E e3;apply#[u,r,?_];rcases l with l|⟨k,c,e,z⟩
  .exact .inl l
  .exact .inr ⟨k,c,e,g x c e _ z⟩
 .let#[v,z]:=I.cell x c e;exact#[v,g x c e v z]
 .let#[m,#[o,_,_,t,_],_]:=I.loc;exact free _ o (λz=>(A _ z).2.1 rfl) t I.free
 .let#[v,o,t,L]:=I.cell x c e;exact free c o (λz=>(A c z).2.2.1 x c e rfl) t (I.fQ x c e)
 .let#[e,n,ne,M,d]:=I.pin p N;have y:p.1∉ch:=λz=>(A p.1 z).2.2.2 p N rfl;exact#[keep p.1 p.2 ne M y e n,free p.1 p.2 y e n,ne,M,d]
def Inv.un{t':Nat}(I:Inv X pins σ H s)(u:Un X.fs [] H H' s.heap h')(p:gm X.prog X.w H' h'):Inv X pins σ H' { s with heap:=h',toks:=t'}:=by let#[m,#[o,B,C,h,r],_]:=id I.loc;let#[t,l]:=u.any h I.free (by simp);exact I.step (g':=s.gens) (d':=s.drawn) (ch:=[]) (λ_ z=>nomatch z) (λb o _ f _ e n=>u.keep b o e n f (by simp)) (λb o _ f _ e n=>u.slot b o e n f (by simp)) (λb o _ e n=>u.free b o e n (by simp)) (λb o _ e=>u.there b o e (by simp)) u.fJ u.dO u.iK (λy k=>by let#[x,i,q,g,j]:=k;rw[h] at g;cases g;exact#[_,i,q,l,j]) p I.bare
def Inv.call{g':Array GenState}{t':Nat}{d':Drawn}{ch:List Addr}(I:Inv X pins σ H s)(u:Un (sD X.stack) ch H H' s.heap h')(A:gm X.prog X.w H' h')(t:yL g') (h:∀b∈ch,(b∈X.ex\/X.s₀.heap.objs.size<=b)/\b≠X.env.locals/\(∀x c,X.env.cells.lookup x=some c->c≠b)/\∀p∈X.pn++pins,p.1≠b): Inv X pins σ H' { s with heap:=h',gens:=g',drawn:=d',toks:=t'}:=by
 let#[m,#[o,J,L,j,r],_]:=id I.loc;let#[C,g]:=u.any j I.free λz=>(h _ z).2.1 rfl;exact I.step (ch:=ch) h (λb o g y f e n=>u.keep b o e n (λz=>(D4.mp (I.pj b z)).elim g y) f) (λb o _ _ f e n=>u.any e n f) (λb o f e n=>u.free b o e n f) (λb o f e=>u.there b o e f) u.fJ u.dO u.iK (λG q=>by let#[E,k,B,i,l]:=q;rw[j] at i;cases i;exact#[_,k,B,g,l]) A t
def Inv.turned{t':Nat}{it:Addr}(I:Inv X pins σ H s)(k:∀b o,b≠it->s.heap.get? b=some o->h'.get? b=some o)(j:H it=none)(g:it≠X.env.locals) (h1:it∈X.ex\/X.s₀.heap.objs.size<=it) (A:∀x c,X.env.cells.lookup x=some c->c≠it) (y:∀p∈X.pn++pins,p.1≠it):Inv X pins σ H { s with heap:=h',toks:=t'}:=by
 have h:∀b u,H b=some u->b≠it:=λb u e z=>by rw[z,j] at e;cases e
 apply I.step (g':=s.gens) (d':=s.drawn) (ch:=[it]) (λb t=>?_) (λb o _ _ f e _=>k b o (λz=>f (by simp[z])) e) (λb o _ _ f e _=>#[o.slots,k b o (λz=>f (by simp[z])) e]) (λ_ _ _ _ n=>n)
  (λb o f e=>#[o,k b o (λz=>f (by simp[z])) e]) (λ_ _ e=>e) (λ_ _ _ e=>e) (λb E e=>#[[].toArray,by rw[e];simp]) (λm l=>?_) (λb u e=>?_) I.bare
 .have e:b=it:=by simpa using t
  subst e;exact#[h1,g,A,y]
 .let#[o,B,C,i,r]:=l;exact#[o,B,C,k _ o (D2 g) i,r]
 .apply(I.aE b u e).fZ (λc v f q=>k c v ?_ q) (λ_ q=>q) λ_ _ q=>q;rcases f with z|z
  .rw[z];exact h b u e
  .exact h c _ z
def Inv.tok(I:Inv X pins σ H s)(t:Nat):Inv X pins σ H { s with toks:=t}:=I.un (h':=s.heap) (t':=t) Un.refl I.aE
theorem Inv.kept{t':Nat}(I:Inv X pins σ H s)(k:∀b u,s.heap.get? b=some u->h'.get? b=some u):Inv X pins σ H { s with heap:=h',toks:=t'}:=I.un (Un.kept k) (I.aE.kept k)
theorem Inv.laid{a:Addr}{o:HO}{t':Nat}(I:Inv X pins σ H s)(k:∀b u,s.heap.get? b=some u->h'.get? b=some u)(f:s.heap.objs.size<=a)(new:bg X.prog X.w (upd H a o) h' a o): Inv X pins σ (upd H a o) { s with heap:=h',toks:=t'}:=I.un (Un.laid k f (I.aE.fresh f)) (I.aE.laid k f new)
theorem Inv.write(I:Inv X pins σ H s)(f:JB (H x))(g:e=x\/H e=some (.own x))(k:∀b u,b≠e->s.heap.get? b=some u->h'.get? b=some u)(h:∃u,h'.get? e=some u) (new:bg X.prog X.w (upd H x o) h' x o):Inv X pins σ (upd H x o) { s with heap:=h',toks:=t'}:=I.un (Un.write f g k h) (I.aE.write f g k h new)
def Inv.qJ(I:Inv X pins σ H s)(h:∀p∈g,s.heap.get? p.1=some p.2/\H p.1=none/\p.1≠X.env.locals/\p.1∉X.fs/\∀v,p.2.data≠.cell v):Inv X g σ H s:=⟨I.ok,I.os,I.bare,I.base,I.loc,I.cell,I.free,I.fQ,λp f=>(E9.mp f).elim (λz=>I.pin p (B49 _ z)) (h p),I.aE,I.len⟩
def v05{N:List Str}(f:N.Nodup){i j:Nat}{x:Str}(a:N[i]?=some x)(b:N[j]?=some x):i=j:=by let#[l,h]:=K7.mp a;let#[k,g]:=K7.mp b;exact(List.getElem_inj f).mp (h.trans g.symm)
def ur2{M:Model}{A:Around}{E:Value->Shared->Prop}{i:Nat}{x:Str}{v:V}{u:Value}{Q:Unit->Shared->Prop}(I:Inv X pins σ H s)(hN:X.N.Nodup)(hi:X.N[i]?=some x)(t:Loc X.env.scope x)(r:RelV v u) (h:∀Z,Inv X pins (σ.set i (some v)) H Z->(∃a,U4 a s.heap Z.heap/\(a=X.env.locals\/X.env.cells.lookup x=some a))->Q #[] Z) (hf:X.fn x=true\/X.env.scope.names.lookup x=some .local:=by first|exact .inl rfl|exact .inr rfl|assumption):wpAny M A (XO X.env x u) Q E s:=by
 let#[m,hn,hl]:=id I.loc;have WB:(X.env.scope.kind == .class||(X.env.scope.kind == .module&&X.env.locals != X.env.globals))=false:=by rw[I.ok.kind];rfl
 have C:i<σ.length:=by rw[I.len];exact(K7.mp hi).1
 have Cd:=I.Cd;have g:∀{a:Addr} {h':Heap},(∃o,s.heap.get? a=some o/\H a=none)->U4 a s.heap h'->gm X.prog X.w H h':=λ{a h'} ha f b ob e=>by
  let#[_,_,jh]:=ha;apply(I.aE b ob e).fZ (λc O hc q=>(f.2 c ?_).trans q) (λ_ q=>q) λ_ _ q=>q;rintro rfl;rcases hc with rfl|hc
  .rw[jh] at e;cases e
  .rw[jh] at hc;cases hc
 rcases t with hk|hk
 .apply wpAny_storeName_local hk hn (λh' su f=>?_) WB;let#[oL,_,_,BH,_]:=id hn;apply h _ #[I.ok,I.os,I.bare,#[λb o e n J t=>?_,λb o e n J t=>?_,I.base.free,λb o e t=>?_,I.base.fJ,I.base.dO,I.base.iK],#[_,su,λj y S l B e3=>?_],λy c e=>?_,I.free,I.fQ,λp hp=>?_,g #[oL,BH,I.free] f,by simpa using I.len] #[_,f,.inl rfl]
  .exact(f.2 b (J0 (C5 (D5 e) I.ok.above))).trans (I.base.keep b o e n J t)
  .let#[Y,l]:=I.base.slot b o e n J t;exact#[Y,(f.2 b (J0 (C5 (D5 e) I.ok.above))).trans l]
  .let#[o',l]:=I.base.there b o e t;exact#[o',(f.2 b (J0 (C5 (D5 e) I.ok.above))).trans l]
  .by_cases G:j=i
   .subst G;rw[hi] at l;cases l;rw[Y' C] at B;cases B;exact#[u,r,.inl #[hk,by simp]]
   .rw[YR (D2 G)] at B;let#[U,r',q]:=hl j y S l B e3;apply#[U,r',?_];rcases q with⟨k,e⟩|⟨k,c,e,z⟩
    .apply .inl ⟨k,?_⟩;have:y≠x:=λe=>G (v05 hN l (e▸hi));simp[this,e]
    .exact .inr #[k,c,e,z.sameBut f (Cd y c e)]
  .let#[O,z]:=I.cell y c e;exact#[O,z.sameBut f (Cd y c e)]
  .let#[e,n,ne,nf,d]:=I.pin p hp;exact#[(f.2 p.1 ne).trans e,n,ne,nf,d]
 .have Wy:X.fn x=true:=by
   rcases hf with z|z
   .exact z
   .rw[z] at hk;cases hk
  let#[c,hc]:=I.ok.has x (.inl hk);let#[O,z]:=I.cell x c hc;apply wpAny_storeName_cell I.ok.kind hk hc z (λh' L f=>?_);let#[oc,Dv,Wg]:=id z;apply h { s with heap:=h'} #[I.ok,I.os,I.bare,#[λb o e n J t=>?_,λb o e n J t=>?_,I.base.free,λb o e t=>?_,I.base.fJ,I.base.dO,I.base.iK],#[m,hn.sameBut f (D2 (Cd x c hc)),λj y S l B e3=>?_],λy R e=>?_,I.free,I.fQ,λp hp=>?_,g #[oc,Dv,I.fQ x c hc] f,by simpa using I.len] #[c,f,.inr hc]
  .exact(f.2 b (J0 (C5 (D5 e) (I.ok.Jq x c Wy hc)))).trans (I.base.keep b o e n J t)
  .let#[Y,l]:=I.base.slot b o e n J t;exact#[Y,(f.2 b (J0 (C5 (D5 e) (I.ok.Jq x c Wy hc)))).trans l]
  .let#[o',l]:=I.base.there b o e t;exact#[o',(f.2 b (J0 (C5 (D5 e) (I.ok.Jq x c Wy hc)))).trans l]
  .by_cases G:j=i
   .subst G;rw[hi] at l;cases l;rw[Y' C] at B;cases B;exact#[u,r,.inr #[.inl hk,c,hc,L]]
   .rw[YR (D2 G)] at B;let#[U,r',q]:=hl j y S l B e3;apply#[U,r',?_];rcases q with q|⟨k,R,e,z'⟩
    .exact .inl q
    .apply .inr ⟨k,R,e,z'.sameBut f ?_⟩;rintro rfl;exact G (v05 hN l (I.ok.inj _ _ _ e hc▸hi))
  .by_cases WG:R=c
   .subst WG;exact#[_,L]
   .let#[w2,z2]:=I.cell y R e;exact#[w2,z2.sameBut f WG]
  .let#[e,n,ne,nf,d]:=I.pin p hp;apply#[(f.2 p.1 ?_).trans e,n,ne,nf,d];intro q;rw[q,Dv] at e;have q':oc=p.2:=D8 e;exact d O (by rw[<- q'];exact Wg)
def Uc{M:Model}{A:Around}{E:Value->Shared->Prop}{i:Nat}{x:Str}{v:V}{u:Value}{Q:Unit->Shared->Prop}(I:Inv X pins σ H s)(k:X.N.Nodup)(hi:X.N[i]?=some x)(g:Loc X.env.scope x)(r:RelV v u) (h:∀f,Inv X pins (σ.set i (some v)) H f->Q #[] f) (j:X.fn x=true\/X.env.scope.names.lookup x=some .local:=by first|exact .inl rfl|exact .inr rfl|assumption):wpAny M A (XO X.env x u) Q E s:=ur2 I k hi g r (λf l _=>h f l) j
def Inv.Jp{f:Shared}(I:Inv X pins σ H s)(l:f.os=s.os)(u:Un (sD X.stack) ch H H' s.heap f.heap)(n:gm X.prog X.w H' f.heap)(m:yL f.gens) (j:∀b∈ch,(b∈X.ex\/X.s₀.heap.objs.size<=b)/\b≠X.env.locals/\(∀x c,X.env.cells.lookup x=some c->c≠b)/\∀p∈X.pn++pins,p.1≠b):Inv X pins σ H' f:=by
 let#[h',h,i,g,k]:=f;have e:k=s.os:=l;subst e;exact I.call (g':=h) (t':=g) (d':=i) u n m j
end
abbrev XK:=Value->Option Addr->Hp->Prop
abbrev St:=List (Option V)
abbrev VK:=V->Hp->Prop
abbrev TE:=St->Hp->VK->Prop
abbrev TT:=St->Hp->(Bool->Hp->Prop)->Prop
abbrev TA:=St->Hp->(List V->Hp->Prop)->Prop
structure Ends where
 nx:St->Hp->Prop
 rt:VK
 bk:St->Hp->Prop:=λ_ _=>False
 ct:St->Hp->Prop:=λ_ _=>False
abbrev TS:=Ends->St->Hp->Prop
def EP(X:Cx)(pins:List (Addr×Obj))(g:St)(Q:VK)(u:Value)(h:Shared):Prop:=∃v f,Inv X pins g f h/\RelV v u/\Q v f
def TP(X:Cx)(pins:List (Addr×Obj))(g:St)(Q:Bool->Hp->Prop)(b:Bool)(h:Shared):Prop:=∃f,Inv X pins g f h/\Q b f
def AP(X:Cx)(pins:List (Addr×Obj))(h:St)(Q:List V->Hp->Prop)(us:List Value)(i:Shared):Prop:=∃f g,Inv X pins h g i/\Vals f us/\Q f g
def SP(X:Cx)(pins:List (Addr×Obj))(D:Ends)(f:Flow)(i:Shared):Prop:=
 match f with
 | .next=>∃g h,Inv X pins g h i/\D.nx g h| .brk=>∃g h,Inv X pins g h i/\D.bk g h| .cont=>∃g h,Inv X pins g h i/\D.ct g h| .ret u=>∃v g h,Inv X pins g h i/\RelV v u/\D.rt v h
def PE(X:Cx)(e:Expr)(t:TE):Prop:=∀(pins:List (Addr×Obj)) (s:Shared) (f:St) (H:Hp) (Q:VK),Inv X pins f H s->t f H Q->wpAny (model X.prog X.w) X.A (eval e X.env) (EP X pins f Q) X.xe s
def PT(X:Cx)(e:Expr)(t:TT):Prop:=∀(pins:List (Addr×Obj)) (s:Shared) (f:St) (H:Hp) (Q:Bool->Hp->Prop),Inv X pins f H s->t f H Q->wpAny (model X.prog X.w) X.A (isTrue e X.env (eval e X.env)) (TP X pins f Q) X.xe s
def PW(X:Cx)(e:Expr)(t:TT):Prop:=∀(f:Sem Value) (pins:List (Addr×Obj)) (s:Shared) (g:St) (H:Hp) (Q:Bool->Hp->Prop),Inv X pins g H s->t g H Q->wpAny (model X.prog X.w) X.A (isTrue e X.env f) (TP X pins g Q) X.xe s
def PW.pt{X:Cx}{e:Expr}{t:TT}(h:PW X e t):PT X e t:=h _
def PA(X:Cx)(g:List Expr)(t:TA):Prop:=∀(pos:Pos) (pins:List (Addr×Obj)) (s:Shared) (f:St) (H:Hp) (Q:List V->Hp->Prop),Inv X pins f H s->t f H Q->wpAny (model X.prog X.w) X.A (spliced (backTo pos (D0 g X.env))) (AP X pins f Q) X.xe s
def PS(X:Cx)(st:Stmt)(t:TS):Prop:=∀(pins:List (Addr×Obj)) (s:Shared) (f:St) (H:Hp) (D:Ends),Inv X pins f H s->t D f H->wpAny (model X.prog X.w) X.A (exec st X.env) (SP X pins D) X.xe s
def oS(X:Cx)(st:List Stmt)(t:TS):Prop:=∀(pins:List (Addr×Obj)) (s:Shared) (f:St) (H:Hp) (D:Ends),Inv X pins f H s->t D f H->wpAny (model X.prog X.w) X.A (execs st X.env) (SP X pins D) X.xe s
def aZ{f:Type}{t:Sem f}{Q g:f->Shared->Prop}{M:Model}{A:Around}{E:Value->Shared->Prop}{s:Shared}(h:wpAny M A t Q E s)(i:∀a s,Q a s->g a s):wpAny M A t g E s:=Q6 h i λ_ _ x=>x
section
variable{X:Cx}
def AS(i:Nat):TE:=λf H Q=>∃v,f[i]?=some (some v)/\Q v H
def tC(v:V):TE:=λ_ H Q=>Q v H
def w03(y:X.N[i]?=some x)(o:Jw X.env.scope x)(f:(x==("__debug__" :Str))=false:=by decide)(n:(x==("__classdict__" :Str))=false:=by decide):PE X (.Name x pos) (AS i):=by
 intro pins s k H Q I h;let#[v,e,h]:=h;let#[m,p,t]:=I.loc;let#[u,r,l]:=t i x v y e o;have fin:EP X pins k Q u s:=#[v,H,I,r,h];rcases l with⟨hk,q⟩|⟨hk,c,j,g⟩
 .exact XT (wpAny_loadName_local I.ok.kind hk p q fin) f
 .rcases hk with hk|hk
  .exact XT (wpAny_loadName_cell I.ok.kind hk j g fin) f
  .exact XT (wpAny_loadName_free I.ok.kind hk j g fin n) f
def ww7{i j pos}:PE X (.Constant (.int i) j pos) (tC (.int i)):=λ_ _ _ H _ I h=>wpAny_Constant_int #[.int i,H,I.tok _,#[_,rfl],h]
def xi3{b j pos}:PE X (.Constant (.bool b) j pos) (tC (.bl b)):=λ_ _ _ H _ I h=>Constant_bool #[.bl b,H,I,rfl,h]
def ww3{x j pos}:PE X (.Constant (.str x) j pos) (tC (.str x)):=λ_ _ _ H _ I h=>Calls.Constant_str #[.str x,H,I.tok _,#[_,rfl],h]
def Gl(X:Cx)(x:Str):Prop:=X.env.kindOf x=some .globalImplicit
def Tn{E:Value->Shared->Prop}{pins:List (Addr×Obj)}{s:Shared}{f:St}{H:Hp}{x:Str}{u:Value}{pos:Pos}{Q:Value->Shared->Prop}(I:Inv X pins f H s)(i:Gl X x)(g:X.mg x=some u)(h:Q u s) (j:(x==("__debug__" :Str))=false:=by decide):wpAny (model X.prog X.w) X.A (eval (.Name x pos) X.env) Q E s:=A74 I.ok.kind i (Calls.loadGlobal_global (by rw[I.ok.glob];exact I.mod.glob.keeps I.bk) g h) j
def rX{E:Value->Shared->Prop}{pins:List (Addr×Obj)}{s:Shared}{f:St}{H:Hp}{x:Str}{u:Value}{pos:Pos}{Q:Value->Shared->Prop}(I:Inv X pins f H s)(k:Gl X x)(j:X.mg x=none)(g:Q5 x=some u)(h:Q u s) (i:x ≠ "__name__" := by decide) (l:(x==("__debug__" :Str))=false:=by decide):wpAny (model X.prog X.w) X.A (eval (.Name x pos) X.env) Q E s:=by
 let#[o,n,m]:=I.mod.blt;exact A74 I.ok.kind k (Calls.loadGlobal_builtin (by rw[I.ok.glob];exact I.mod.glob.keeps I.bk) j (by rw[I.ok.blt];exact n.keeps I.bk) ((m x i).trans g) h) l
def wg5(g:Gl X x)(f:X.mg x=some u)(r:RelV v u)(i:(x==("__debug__" :Str))=false:=by decide):PE X (.Name x pos) (tC v):=λ_ _ _ H _ I h=>Tn I g f #[v,H,I,r,h] i
def wh1(j:Gl X x)(i:X.mg x=none)(f:Q5 x=some u)(r:RelV v u)(g:x ≠ "__name__" := by decide)(k:(x==("__debug__" :Str))=false:=by decide):PE X (.Name x pos) (tC v):=λ_ _ _ H _ I h=>rX I j i f #[v,H,I,r,h] g k
variable{a b:Expr}{ta tb:TE}{pos:Pos}
def tB(t:TE):TT:=λf H Q=>t f H λx g=>∃c,x=.bl c/\Q c g
def wu9{e:Expr}{t:TE}(h:PE X e t)(k:∀f,isTrue e X.env f=(do let v <- f;wW e.pos;holding [v] (truthy v)):=by intro _;rfl):PT X e (tB t):=by
 intro pins s g H Q I hw
 (apply isTrue_plain (aZ (h pins s g H _ I hw) ?_) (k _);rintro v n ⟨x,m,l,i,j⟩)
 let#[d,rfl,q]:=j;cases i;exact Q3 #[m,l,q]
variable{tA Nk:TT}{rest:List Expr}
def Fx(t u:TT):TT:=λf H Q=>t f H λc g=>if c=true then u f g Q else Q false g
def tOr(t u:TT):TT:=λf H Q=>t f H λc g=>if c=true then Q true g else u f g Q
def Fq(t:TT):TT:=λf H Q=>t f H λc g=>Q (!c) g
def we7(g:PT X a tA):PW X (.BoolOp .And [a] pos) tA:=by
 intro i pins s f H Q I h;apply isTrue_and (aZ (g pins s f H Q I h) λc j e=>?_);cases c with
 | true=>exact isTrue_and_nil e| false=>exact e
def wu7(g:PT X a tA):PW X (.BoolOp .Or [a] pos) tA:=by
 intro i pins s f H Q I h;apply isTrue_or (aZ (g pins s f H Q I h) λc j e=>?_);cases c with
 | false=>exact isTrue_or_nil e| true=>exact e
def wu8(n:PT X a tA)(m:PW X (.BoolOp .And (b::rest) pos) Nk):PW X (.BoolOp .And (a::b::rest) pos) (Fx tA Nk):=by
 intro k pins s f H Q I h
 (apply isTrue_and (aZ (n pins s f H _ I h) ?_);rintro c l ⟨j,i,g⟩)
 cases c with
 | true=>exact m k pins l f j Q i g| false=>exact#[j,i,g]
def xh5(n:PT X a tA)(m:PW X (.BoolOp .Or (b::rest) pos) Nk):PW X (.BoolOp .Or (a::b::rest) pos) (tOr tA Nk):=by
 intro k pins s f H Q I h
 (apply isTrue_or (aZ (n pins s f H _ I h) ?_);rintro c l ⟨j,i,g⟩)
 cases c with
 | true=>exact#[j,i,g]| false=>exact m k pins l f j Q i g
def wv0(g:PT X a tA):PT X (.UnaryOp .Not a pos) (Fq tA):=by intro pins s f H Q I h;exact isTrue_not (g pins s f H (λc i=>Q (!c) i) I h)
def ZS(ta tb:TE):TE:=λf H Q=>ta f H λx g=>∃c,x=.bl c/\if c=true then tb f g Q else Q (.bl false) g
def Fo(ta tb:TE):TE:=λf H Q=>ta f H λx g=>∃c,x=.bl c/\if c=true then Q (.bl true) g else tb f g Q
def ZZ(ta:TE):TE:=λf H Q=>ta f H λx g=>∃c,x=.bl c/\Q (.bl (!c)) g
def ww4{op}(h:PE X a t):PE X (.BoolOp op [a] pos) t:=λpins s f H Q I hw=>BoolOp_one (h pins s f H Q I hw)
def ww9(n:PE X a ta)(m:PE X (.BoolOp .And (b::rest) pos) tb):PE X (.BoolOp .And (a::b::rest) pos) (ZS ta tb):=by
 intro pins s g H Q I h
 (apply BoolOp_and (aZ (n pins s g H _ I h) ?_);rintro v k ⟨x,j,i,l,f⟩)
 let#[c,rfl,f]:=f;cases l;apply Q3 ?_;cases c with
 | true=>exact m pins k g j Q i f| false=>exact#[.bl false,j,i,rfl,f]
def xi0(n:PE X a ta)(m:PE X (.BoolOp .Or (b::rest) pos) tb):PE X (.BoolOp .Or (a::b::rest) pos) (Fo ta tb):=by
 intro pins s g H Q I h
 (apply BoolOp_or (aZ (n pins s g H _ I h) ?_);rintro v k ⟨x,j,i,l,f⟩)
 let#[c,rfl,f]:=f;cases l;apply Q3 ?_;cases c with
 | false=>exact m pins k g j Q i f| true=>exact#[.bl true,j,i,rfl,f]
def ww5(j:PE X a ta):PE X (.UnaryOp .Not a pos) (ZZ ta):=by
 intro pins s g H Q I h
 (apply UnaryOp_ (aZ (j pins s g H _ I h) ?_);rintro v m ⟨x,l,k,i,f⟩)
 let#[c,rfl,f]:=f;cases i;exact not_of (Q3 #[.bl (!c),l,k,rfl,f])
def tIf(t:TT)(ta tb:TE):TE:=λf H Q=>t f H λc g=>if c=true then ta f g Q else tb f g Q
def vp1{c:Expr}(l:PT X c tA)(n:PE X a ta)(m:PE X b tb):PE X (.IfExp c a b pos) (tIf tA ta tb):=by
 intro pins s f H Q I h
 (apply wpAny_IfExp (aZ (l pins s f H _ I h) ?_);rintro d g ⟨k,j,i⟩)
 cases d with
 | true=>exact n pins g f k Q j i| false=>exact m pins g f k Q j i
end
def eP(K:W.Frag)(H:Hp)(a:Addr)(xs:List V):Prop:=
 Rd H a (.lst xs) \/
  ∃(o:Obj) (its:Array Value) (n:Nat),K.lookup a=some o/\o.cls=.type "list" /\ o.dict=none/\o.data=.seq its n/\its.size<=sizeLine/\Vals xs its.toList
def eC(K:W.Frag)(H:Hp)(a:Addr)(xs:List V):Prop:=
 Rd H a (.tup xs) \/
  ∃(o:Obj) (its:Array Value) (n:Nat),K.lookup a=some o/\o.cls=.type "tuple" /\ o.data=.seq its n/\its.size<=sizeLine/\Vals xs its.toList/\o.dict=none
def Xl:Value->Option V
 | .none=>some .non| .bool b=>some (.bl b)| .int i _=>some (.int i)| .str x _=>some (.str x)| .bytes b _=>some (.tu b)| .float b _=>some (.wM b)| .ref a=>some (.ref a)| .type n=>some (.ty n)| _=>none
def RelV.abs(r:RelV x u):Xl u=some x:=by
 cases x with
 | non=>cases r;rfl
 | bl _=>cases r;rfl
 | int _=>let#[t,rfl]:=r;rfl| str _=>let#[t,rfl]:=r;rfl| tu _=>let#[t,rfl]:=r;rfl| wM _=>let#[t,rfl]:=r;rfl| ref _=>cases r;rfl
 | ty _=>cases r;rfl
def RelV.inj{x y:V}{u:Value}(r:RelV x u)(q:RelV y u):x=y:=D8 (r.abs.symm.trans q.abs)
theorem Vals.inj:∀{xs ys:List V} {us:List Value},Vals xs us->Vals ys us->xs=ys
 | _,_,_,.nil,.nil=>rfl| _,_,_,.cons r t,.cons g f=>by rw[r.inj g,Vals.inj t f]
section
variable{X:Cx}{pins:List (Addr×Obj)}{σ:St}{H:Hp}{s:Shared}{a:Addr}{xs ys:List V}
def eP.of{K:W.Frag}(h:H a=some (.lst xs)):eP K H a xs:=.inl (.inl h)
def eC.of{K:W.Frag}(h:H a=some (.tup xs)):eC K H a xs:=.inl (.inl h)
def Inv.list(I:Inv X pins σ H s)(h:eP X.K H a xs):∃its:List Value,Vals xs its/\PlainL s.heap a its.toArray/\xs.length<=sizeLine:=by
 rcases h with h|⟨o,its,n,g,j,i,f,k,r⟩
 .let#[z,its,n,r,e]:=h.ok I.aE;exact#[its,r,#[_,n,e,rfl,rfl,rfl],z]
 .apply#[its.toList,r,#[o,n,I.iN a o g,j,i,by simpa using f],?_];have e:=r.length;simp only[K3] at e;omega
def Inv.tuple(I:Inv X pins σ H s)(h:eC X.K H a xs):∃its:List Value,Vals xs its/\IsTup s.heap a its.toArray/\xs.length<=sizeLine:=by
 rcases h with h|⟨o,its,n,g,i,f,j,r,_⟩
 .let#[z,its,r,p]:=h.ok I.aE;exact#[its,r,p.tup,z]
 .apply#[its.toList,r,#[o,I.iN a o g,i,n,by simpa using f],?_];have e:=r.length;simp only[K3] at e;omega
def Inv.jg(I:Inv X pins σ H s)(h:eP X.K H a xs)(h':eP X.K H a ys):xs=ys:=by
 let#[its,r,#[o,n,e,_,_,d],_]:=I.list h;let#[j,i,#[l,m,f,_,_,g],_]:=I.list h';rw[e] at f;cases f;rw[d] at g;injection g with k _;have:its=j:=by simpa using congrArg Yk k
 subst this;exact r.inj i
def Inv.j7(I:Inv X pins σ H s)(h:eC X.K H a xs)(h':eC X.K H a ys):xs=ys:=by
 let#[its,r,#[o,e,_,n,d],_]:=I.tuple h;let#[j,i,#[l,f,_,m,g],_]:=I.tuple h';rw[e] at f;cases f;rw[d] at g;injection g with k _;have:its=j:=by simpa using congrArg Yk k
 subst this;exact r.inj i
end
abbrev Cx.iJ(X:Cx)(E:Value->Shared->Prop):Cx:={ X with xe:=E}
abbrev Cx.xU(X:Cx):Cx:=X.iJ λ_ _=>False
theorem Cx.Ok.iJ{X:Cx}(ok:X.Ok)(E:Value->Shared->Prop):(X.iJ E).Ok:=#[ok.mod,ok.kind,ok.glob,ok.blt,ok.above,ok.inj,ok.has,ok.Jq,ok.hd,ok.frames,ok.Dd,ok.W',ok.bs,ok.uB,ok.tV,ok.uv,ok.iz,ok.zw]
def Cx.Ok.dq{X:Cx}(ok:(X.iJ E).Ok):X.Ok:=#[ok.mod,ok.kind,ok.glob,ok.blt,ok.above,ok.inj,ok.has,ok.Jq,ok.hd,ok.frames,ok.Dd,ok.W',ok.bs,ok.uB,ok.tV,ok.uv,ok.iz,ok.zw]
section
variable{X:Cx}{pins:List (Addr×Obj)}{σ:St}{H:Hp}{s:Shared}{E:Value->Shared->Prop}
theorem Inv.iJ(I:Inv X pins σ H s)(E:Value->Shared->Prop):Inv (X.iJ E) pins σ H s:=#[I.ok.iJ E,I.os,I.bare,I.base,I.loc,I.cell,I.free,I.fQ,I.pin,I.aE,I.len]
theorem Inv.dq(I:Inv (X.iJ E) pins σ H s):Inv X pins σ H s:=#[I.ok.dq,I.os,I.bare,I.base,I.loc,I.cell,I.free,I.fQ,I.pin,I.aE,I.len]
theorem SP.dq(h:SP (X.iJ E) pins D f j):SP X pins D f j:=by
 cases f with
 | next=>let#[g,i,I,q]:=h;exact#[g,i,I.dq,q]| brk=>let#[g,i,I,q]:=h;exact#[g,i,I.dq,q]| cont=>let#[g,i,I,q]:=h;exact#[g,i,I.dq,q]| ret u=>let#[v,g,i,I,r,q]:=h;exact#[v,g,i,I.dq,r,q]
theorem PE.xU(h:PE X.xU e t):PE X e t:=λpins s σ H Q I hw =>
 Q6 (h pins s σ H Q (I.iJ _) hw) (λ_ _ ⟨v,g,f,r,q⟩=>#[v,g,f.dq,r,q]) λ_ _ z=>P6 z
theorem PT.xU(h:PT X.xU e t):PT X e t:=λpins s σ H Q I hw =>
 Q6 (h pins s σ H Q (I.iJ _) hw) (λ_ _ ⟨g,f,q⟩=>#[g,f.dq,q]) λ_ _ z=>P6 z
theorem oS.xU{st:List Stmt}{t:TS}(h:oS X.xU st t):oS X st t:=λpins s σ H D I hw =>
 Q6 (h pins s σ H D (I.iJ _) hw) (λ_ _ q=>q.dq) λ_ _ z=>P6 z
end
section
variable{X:Cx}{st:Stmt}{rest:List Stmt}{t u:TS}{e:Expr}{te:TE}{pos:Pos}
def ZY:TS:=λD f H=>D.nx f H
def Fl(t u:TS):TS:=λD f H=>t { D with nx:=u D} f H
def wf1:oS X [] ZY:=λ_ _ f H _ I h=>OZ #[f,H,I,h]
def vn9(h1:PS X st t)(k:oS X rest u):oS X (st::rest) (Fl t u):=by
 intro pins s i H D I h;apply wpAny_execs_cons (aZ (h1 pins s i H { D with nx:=u D} I h) λf j q=>?_);cases f with
 | next =>let#[g,m,l,q]:=q;exact k pins j g m D l q| ret v=>exact q| brk=>exact q| cont=>exact q
def wf0(h1:PS X st t):oS X [st] t:=by
 intro pins s g H D I h;apply wpAny_execs_cons (aZ (h1 pins s g H D I h) λf i q=>?_);cases f with
 | next=>exact OZ q| ret v=>exact q| brk=>exact q| cont=>exact q
def Inv.quiet{pins:List (Addr×Obj)}{f:St}{H:Hp}{s:Shared}(I:Inv X pins f H s):interactive X.env=false:=by simp[interactive,I.ok.kind]
def ZW(te:TE):TS:=λD f H=>te f H λ_ g=>D.nx f g
def wf4(j:PE X e te)(i:X7 e none pos.line X.env=pure false:=by rfl):PS X (.Expr e pos) (ZW te):=by
 intro pins s f H D I h
 (apply wpAny_Expr_any (aZ (j pins s f H _ I h) ?_) I.quiet i;rintro v m ⟨x,l,k,n,g⟩;exact#[f,l,k,g])
def Fm(te:TE):TS:=λD f H=>te f H D.rt
def wv3(j:PE X e te):PS X (.Return (some e) pos) (Fm te):=by
 intro pins s f H D I h
 (apply wpAny_Return_some (aZ (j pins s f H _ I h) ?_);rintro v m ⟨x,l,k,g,i⟩;exact#[x,f,l,k,g,i])
def Z':TS:=λD _ H=>D.rt .non H
def wf3:PS X (.Return none pos) Z':=λ_ _ f H _ I h=>wpAny_Return_none #[.non,f,H,I,rfl,h]
def Ft(c:TT)(t u:TS):TS:=λD f H=>c f H λb g=>if b=true then t D f g else u D f g
def xh6{c:Expr}{a b:List Stmt}{tc:TT}(l:PT X c tc)(n:oS X a t)(m:oS X b u):PS X (.If c a b pos) (Ft tc t u):=by
 intro pins s f H D I h
 (apply wpAny_If (aZ (l pins s f H _ I h) ?_);rintro d g ⟨k,j,i⟩)
 cases d with
 | true=>exact n pins g f k D j i| false=>exact m pins g f k D j i
def ws5:TS:=λ_ _ _=>False
def vo1:PS X st ws5:=λ_ _ _ _ _ _ h=>h.elim
end
abbrev TG:=V->St->Hp->(St->Hp->Prop)->Prop
abbrev zC:=List V->St->Hp->(St->Hp->Prop)->Prop
def PG(X:Cx)(target:Expr)(t:TG):Prop:=
 ∀(pins:List (Addr×Obj)) (s:Shared) (g:St) (H:Hp) (v:V) (u:Value) (Q:St->Hp->Prop),Inv X pins g H s->RelV v u->t v g H Q ->
  wpAny (model X.prog X.w) X.A (assign target X.env u) (λ_ i=>∃f h,Inv X pins f h i/\Q f h) X.xe s
def zD(X:Cx)(k:List Expr)(t:zC):Prop:=
 ∀(pins:List (Addr×Obj)) (s:Shared) (g:St) (H:Hp) (h:List V) (i:List Value) (Q:St->Hp->Prop),Inv X pins g H s->Vals h i->t h g H Q ->
  wpAny (model X.prog X.w) X.A (assignInOrder ((R7 k X.env).map (·.2)) i) (λ_ l=>∃f j,Inv X pins f j l/\Q f j) X.xe s
abbrev yD:=V->V->V->Hp->(Hp->Prop)->Prop
def sJ(X:Cx)(t:yD):Prop:=
 ∀(pins:List (Addr×Obj)) (s:Shared) (f:St) (H:Hp) (o i v:V) (g h u:Value) (Q:Hp->Prop),Inv X pins f H s->RelV o g->RelV i h->RelV v u->t o i v H Q ->
  wpAny (model X.prog X.w) X.A (Om g h u) (λ_ k=>∃j,Inv X pins f j k/\Q j) X.xe s
abbrev Xu:=V->V->Hp->VK->Prop
def PIp(X:Cx)(op:Operator)(t:Xu):Prop:=
 ∀(pins:List (Addr×Obj)) (s:Shared) (f:St) (H:Hp) (x y:V) (v u:Value) (Q:VK),Inv X pins f H s->RelV x v->RelV y u->t x y H Q ->
  wpAny (model X.prog X.w) X.A (yM op v u) (EP X pins f Q) X.xe s
section
variable{X:Cx}{pos:Pos}
def Qo(i:Nat):TG:=λv f H Q=>Q (f.set i (some v)) H
def wg1(j:X.N.Nodup)(hi:X.N[i]?=some x)(f:Loc X.env.scope x)(g:X.fn x=true\/X.env.scope.names.lookup x=some .local:=by first|exact .inl rfl|exact .inr rfl|assumption):PG X (.Name x pos) (Qo i):=by intro pins s l H v u Q I r h;exact wpAny_assign_Name (Uc I j hi f r (λm k=>#[_,H,k,h]) g)
def Je:zC:=λg f H Q=>g=[]/\Q f H
def ZH(t:TG)(u:zC):zC:=λh g H Q=>∃v r,h=v::r/\t v g H λf i=>u r f i Q
def wg0:zD X [] Je:=by intro pins s f H g i Q I r h;let#[e,h]:=h;subst e;cases r;exact assignInOrder_nil #[f,H,I,h]
def vo8{e:Expr}{f:List Expr}{t:TG}{u:zC}(h1:PG X e t)(n:zD X f u) (m:(R7 (e::f) X.env).map (·.2)=assign e X.env::(R7 f X.env).map (·.2):=by rfl):zD X (e::f) (ZH t u):=by
 intro pins s i H x A Q I r h;let#[v,y,o,h]:=h;subst o;cases r with
 | cons r k =>
  rw[m]
  (apply assignInOrder_cons (aZ (h1 pins s i H _ _ _ I r h) ?_);rintro _ j ⟨g,q,p,l⟩)
  exact n pins j g q _ _ Q p k l
def WX(K:W.Frag)(n:Nat)(t:zC):TG:=λv f H Q=>∃a xs,v=.ref a/\eC K H a xs/\xs.length=n/\t xs f H Q
def ww0(y:X.calm=true)(h:zD X f t) (q:(R7 f X.env).length=n:=by rfl) (j:(R7 f X.env).findIdx? (·.1)=none:=by rfl):PG X (.Tuple f k pos) (WX X.K n t):=by
 intro pins s g H v u Q I r hw;let#[a,xs,B,p,x,hw]:=hw;subst B;cases r;let#[its,i,m,G]:=I.tuple p;apply assign_Tuple_tuple (I.ok.hd y) m (by simp[q,<- x,i.length]) j λA l=>?_;have C:Inv X pins g H { s with heap:=A}:=I.kept (t':=s.toks) λb o e=>l b o (J0 (D5 e)) e;exact h pins _ g H xs _ Q C (by simpa using i) hw
def Jd(to g:TE)(t:yD):TG:=λv f H Q=>to f H λo k=>g f k λi j=>t o i v j λh=>Q f h
def ww1{o i:Expr}{to k:TE}{t:yD}(E:PE X o to)(hi:PE X i k)(C:sJ X t)
  (G:∀v,assign (.Subscript o i pos) X.env v=(do
   let f <- holding [v] (eval o X.env);let g <- holding [v,f] (eval i X.env)
   wW pos
   holding [v,f,g] (Om f g v)
   release [v,f,g] []):=by intro _;rfl):PG X (.Subscript o i pos) (Jd to k t):=by
 intro pins s j H v u Q I r h;rw[G]
 (apply B5 (M0 (aZ (E pins s j H _ I h) ?_));rintro f m ⟨x,O,L,p,B⟩)
 (apply B5 (M0 (aZ (hi pins m j O _ L B) ?_));rintro g l ⟨y,N,J,n,A⟩)
 (apply B5 (OQ (B5 (M0 (aZ (C pins l j N x y v f g u _ J p n r A) ?_))));rintro _ R ⟨M,I3,q⟩)
 exact wpAny_release #[j,M,I3,q]
def AU(te:TE)(g:TG):TS:=λD f H=>te f H λx h=>g x f h D.nx
def wv7{tg e:Expr}{te:TE}{g:TG}(n:PE X e te)(m:PG X tg g)(l:swapsWithSole [tg] e pos.line X.env=pure false:=by rfl)(hw:swappedStores [tg] e X.env=pure none:=by rfl)
  (h1:(R7 [tg] X.env).map (·.2)=[assign tg X.env]:=by rfl):PS X (.Assign [tg] e pos) (AU te g):=by
 intro pins s f H D I h
 (apply wpAny_Assign_stores (aZ (n pins s f H _ I h) ?_) l hw;rintro v i ⟨x,p,o,j,k⟩)
 rw[h1];exact aZ (m pins i f p x v _ o j k) λ_ r q=>q
def wv2{i:Nat}{x:Str}{e:Expr}{te:TE}{f:Pos}(p:X.N.Nodup)(hi:X.N[i]?=some x)(l:Loc X.env.scope x)(o:PE X e te)(m:X7 e (some (.Name x f)) pos.line X.env=pure false:=by rfl)(n:X.fn x=true\/X.env.scope.names.lookup x=some .local:=by first|exact .inl rfl|exact .inr rfl|assumption):
  PS X (.Assign [.Name x f] e pos) (AU te (Qo i)):=by
 intro pins s g H D I h
 (apply wpAny_Assign_Name (aZ (o pins s g H _ I h) ?_) m;rintro v A ⟨y,t,r,j,k⟩)
 exact Uc r p hi l j (λu q=>#[_,t,q,k]) n
def Fw(i:Nat)(te:TE)(g:Xu):TS:=λD f H=>∃x,f[i]?=some (some x)/\te f H λy j=>g x y j λz h=>D.nx (f.set i (some z)) h
def wv6{i:Nat}{x:Str}{e:Expr}{te:TE}{op:Operator}{q:Xu}{j:Pos}(Y:X.N.Nodup)(hi:X.N[i]?=some x)(o:Loc X.env.scope x)(S:PE X e te)(L:PIp X op q)(R:X.fn x=true\/X.env.scope.names.lookup x=some .local:=by first|exact .inl rfl|exact .inr rfl|assumption):
  PS X (.AugAssign (.Name x j) op e pos) (Fw i te q):=by
 intro pins s p H D I h;let#[v,Z,h]:=h;let#[m,M,Q]:=I.loc;have n:Jw X.env.scope x:=by rcases o with k|k;exact .inl k;exact .inr (.inl k)
 let#[u,r,l]:=Q i x v hi Z n;apply wpAny_AugAssign_Name ?_;have go:wpAny (model X.prog X.w) X.A (eval e X.env) (λw g=>wpAny (model X.prog X.w) X.A (yM op u w) (λr f=>wpAny (model X.prog X.w) X.A (XO X.env x r) (λ_=>SP X pins D .next) X.xe f) X.xe g) X.xe s:=by
  (apply aZ (S pins s p H _ I h) ?_;rintro w t ⟨y,H1,I1,C,J⟩)
  (apply aZ (L pins t p H1 v y u w _ I1 r C J) ?_;rintro z s2 ⟨zv,H2,I2,B,G⟩)
  exact Uc I2 Y hi o B (λs3 I3=>#[_,H2,I3,G]) R
 rcases l with⟨hk,O⟩|⟨hk,c,U,E⟩
 .exact wpAny_loadName_local I.ok.kind hk M O go
 .rcases hk with hk|hk
  .exact wpAny_loadName_cell I.ok.kind hk U E go
  .rcases o with k|k
   .have:X.env.scope.names.lookup x=some .free:=hk;rw[k] at this;cases this
   .have:X.env.scope.names.lookup x=some .free:=hk;rw[k] at this;cases this
end
section
variable{X:Cx}{pos:Pos}
def vv9(c:TT)(tb:TS):TS:=λD f H=>∃W:Nat->St->Hp->Prop,(∃m,W m f H)/\∀m f H,W m f H ->
 c f H λb i=>if b=true then∃N:St->Hp->Prop,(∀g j,N g j->∃h,h<m/\W h g j)/\tb { D with nx:=N,ct:=N,bk:=D.nx} f i else D.nx f i
def vo0{c:Expr}{body:List Stmt}{tc:TT}{tb:TS}(t:OL (model X.prog X.w) X.A X.env X.xe)(R:PT X c tc)(S:oS X body tb):PS X (.While c body [] pos) (vv9 tc tb):=by
 intro pins s E H D I h;let#[W,#[Q,J],turn]:=h;apply wpAny_While (codeAny_whileLoop (λn O=>∃j C,Inv X pins j C O/\W n j C) ?_ Q #[E,H,I,J]);rintro n M ⟨i,B,U,G⟩
 (apply V7 t (aZ (R pins M i B _ U (turn n i B G)) ?_);rintro b L ⟨y,x,m⟩)
 cases b with
 | true =>
  let#[N,u,m]:=m;rw[if_pos rfl];apply V7 t (aZ (S pins L i y _ x m) λf Y l=>?_);cases f with
  | next =>let#[g,k,I3,p]:=l;let#[q,r,o]:=u g k p;exact#[q,r,g,k,I3,o]| cont =>let#[g,k,I3,p]:=l;let#[q,r,o]:=u g k p;exact#[q,r,g,k,I3,o]| brk=>exact l| ret v=>exact l
 | false =>rw[if_neg C8];exact OZ #[i,y,x,m]
end
structure It where
 go:Nat->Hp->Prop
 qx:Nat->Hp->V->Hp->Prop
 stop:Nat->Hp->Prop
def iB(X:Cx)(pins:List (Addr×Obj))(H:Hp)(b:Addr):Prop:=H b=none/\b≠X.env.locals/\b∉X.fs/\(b∈X.ex\/X.s₀.heap.objs.size<=b)/\(∀x c,X.env.cells.lookup x=some c->c≠b)/\∀p∈X.pn++pins,p.1≠b
def Inv.qh{X:Cx}{pins:List (Addr×Obj)}{h:St}{H g:Hp}{s:Shared}{b:Addr}(I:Inv X pins h H s)(f:s.heap.objs.size<=b)(j:g b=none):iB X pins g b:=by
 apply#[j,Y0 (C5 I.lt f),I.Vs f,.inr (D3 I.sz f),λx c e z=>?_,λp i z=>?_]
 .let#[v,q]:=I.cell x c e;exact absurd (C5 q.lt (by rw[z];exact f)) (D' _)
 .exact absurd (C5 (D5 (I.pin p i).1) (by rw[z];exact f)) (D' _)
structure Turn(P:Program)(w:World)(K:W.Frag)(tg:Expr)(J:It)(fp:List Addr)(it:Addr)(tn:Nat->Heap->Prop):Prop where
 mem:it∈fp
 obj:∀i h,tn i h->∀b∈fp,∃o,h.get? b=some o/\∀v,o.data≠.cell v
 keep:∀i h h',tn i h->(∀b∈fp,∀o,h.get? b=some o->h'.get? b=some o)->tn i h'
 item:∀(X:Cx),X.prog=P->X.w=w->X.K=K->X.calm=true->∀(i:Nat) (pins:List (Addr×Obj)) (s:Shared) (σ:St) (H:Hp) (E:Value->Shared->Prop),Inv X pins σ H s->(∀b∈fp,iB X pins H b)->tn i s.heap->J.go i H ->
  wpAny (model P w) X.A (pyNext (.ref it)) (λr s1=>∃u,r=some u /\
   wpAny (model P w) X.A (OY tg (.ref it) u) (λ_ s2=>∃x H',Inv X pins σ H' s2/\RelV x u/\J.qx i H x H'/\tn (i+1) s2.heap/\∀b∈fp,H' b=none) E s1) E s
 done:∀(X:Cx),X.prog=P->X.w=w->X.K=K->X.calm=true->∀(i:Nat) (pins:List (Addr×Obj)) (s:Shared) (σ:St) (H:Hp) (E:Value->Shared->Prop),Inv X pins σ H s->(∀b∈fp,iB X pins H b)->tn i s.heap->J.stop i H ->
  wpAny (model P w) X.A (pyNext (.ref it)) (λr s1=>r=none/\Inv X pins σ H s1) E s
 self:∀(A:Around) (i:Nat) (s:Shared) (Q:Value->Shared->Prop) (E:Value->Shared->Prop),tn i s.heap->Q (.ref it) s->wpAny (model P w) A (pyIter (.ref it)) Q E s
abbrev TI:=St->Hp->(It->Hp->Prop)->Prop
def PIE(X:Cx)(pins:List (Addr×Obj))(j:St)(tg:Expr)(R:It->Hp->Prop)(k:Value)(h:Shared):Prop:=∃(it:Addr) (i:List Addr) (g:Nat->Heap->Prop) (J:It) (f:Hp),k=.ref it/\Inv X pins j f h/\Turn X.prog X.w X.K tg J i it g/\g 0 h.heap/\(∀b∈i,iB X pins f b)/\R J f
def PI(X:Cx)(tg iter:Expr)(g:TI):Prop:=
 ∀(pins:List (Addr×Obj)) (s:Shared) (f:St) (H:Hp) (R:It->Hp->Prop),Inv X pins f H s->g f H R ->
  wpAny (model X.prog X.w) X.A (eval iter X.env) (λv h=>wpAny (model X.prog X.w) X.A (pyIter v) (PIE X pins f tg R) X.xe h) X.xe s
def Eo {s: Shared} (ho: s.heap.get? it = some o) (hc: o.cls = .type n) (hd: o.data = .fields vs) (hn:["enumerate", "zip", "dict_itemiterator", "dict_reverseitemiterator", "odict_iterator", "itertools.zip_longest", "itertools.pairwise"].contains n=false) (hQ:Q #[] s):wpAny M A (OY tg (.ref it) u) Q E s:=by
  unfold OY;cases tg <;> first
    | exact C4 hQ
    | (cases u <;> first
        | exact C4 hQ
        | (refine wpAny_bind (wpAny_load ho ?_)
           rw[hc,hd];show wpAny M A (if(["enumerate", "zip", "dict_itemiterator", "dict_reverseitemiterator", "odict_iterator", "itertools.zip_longest", "itertools.pairwise"].contains n&&vs[0]?==some (rawInt _))=true then _ else _) Q E s;rw[if_neg (by intro h;rw[hn,Bool.false_and] at h;cases h)];exact C4 hQ))
def Xy(K:W.Frag)(a:Addr):It:=⟨λi H=>∃xs x,eP K H a xs/\xs[i]?=some x,λi H x f=>f=H/\∀xs,eP K H a xs->xs[i]?=some x,λi H=>∃xs,eP K H a xs/\xs.length<=i⟩
def Xx(K:W.Frag)(a:Addr):It:=⟨λi H=>∃xs x,eC K H a xs/\xs[i]?=some x,λi H x f=>f=H/\∀xs,eC K H a xs->xs[i]?=some x,λi H=>∃xs,eC K H a xs/\xs.length<=i⟩
def JC(lo:Int)(n:Nat):It:=⟨λi _=>i<n,λi H x f=>f=H/\x=.int (lo+i),λi _=>n<=i⟩
def v83{P:Program}{w:World}{K:W.Frag}{tg:Expr}(a it:Addr):Turn P w K tg (Xy K a) [it] it (λi h=>h.IsListIter it a i) where
 mem:=by simp
 obj:=λi h st b f=>by
  have e:b=it:=by simpa using f
  subst e;let#[o,e,c,d]:=st;exact#[o,e,λv z=>by rw[d] at z;cases z]
 keep:=λi h l st k=>st.at λo e=>k it (by simp) o e
 item:=by intro X r hw t L i pins s G H E I j st q;subst r hw t;let#[xs,x,g,n]:=q;let#[its,m,p,R]:=I.list g;let#[u,U,O]:=m.get n;let#[C,f1,f2,B,A,y]:=j it (by simp);apply wpAny_pyNext_list_item st p.isList (x:=u) (by simpa using U) λl J N=>?_;have Z:Inv X pins G H { s with heap:=l}:=I.turned (t':=s.toks) (λb o f e=>(N.2 b f).trans e) C f1 B A y;let#[o,e,c,d]:=id J;exact#[u,rfl,Eo (s:={ s with heap:=l}) e c d ∅ #[x,H,Z,O,#[rfl,λys S=>by rw[I.jg S g];exact n],J,λb f=>(j b f).1]]
 done:=by intro X r hw t L i pins s G H E I j st q;subst r hw t;let#[xs,g,n]:=q;let#[its,m,p,R]:=I.list g;let#[C,f1,f2,B,A,y]:=j it (by simp);have hl:=m.length;exact wpAny_pyNext_list_end (I.ok.hd L) st p.isList (by simp;omega) λl Y=>#[rfl,I.turned (t':=s.toks) (λb o f e=>Y b o f e) C f1 B A y]
 self:=λ_ _ _ _ _ st h=>wpAny_pyIter_listiter st h
def v36{P:Program}{w:World}{K:W.Frag}{tg:Expr}(a it:Addr):Turn P w K tg (Xx K a) [it] it (λi h=>h.IsTupleIter it a i) where
 mem:=by simp
 obj:=λi h st b f=>by
  have e:b=it:=by simpa using f
  subst e;let#[o,e,c,d]:=st;exact#[o,e,λv z=>by rw[d] at z;cases z]
 keep:=λi h l st k=>st.at λo e=>k it (by simp) o e
 item:=by intro X r hw t L i pins s G H E I j st q;subst r hw t;let#[xs,x,g,n]:=q;let#[its,m,p,R]:=I.tuple g;let#[u,U,O]:=m.get n;let#[C,f1,f2,B,A,y]:=j it (by simp);apply wpAny_pyNext_tuple_item st (show s.heap.IsTuple a its.toArray from p) (x:=u) (by simpa using U) λl J N=>?_;have Z:Inv X pins G H { s with heap:=l}:=I.turned (t':=s.toks) (λb o f e=>(N.2 b f).trans e) C f1 B A y;let#[o,e,c,d]:=id J;exact#[u,rfl,Eo (s:={ s with heap:=l}) e c d ∅ #[x,H,Z,O,#[rfl,λys S=>by rw[I.j7 S g];exact n],J,λb f=>(j b f).1]]
 done:=by intro X r hw t L i pins s G H E I j st q;subst r hw t;let#[xs,g,n]:=q;let#[its,m,p,R]:=I.tuple g;let#[C,f1,f2,B,A,y]:=j it (by simp);have hl:=m.length;exact wpAny_pyNext_tuple_end (I.ok.hd L) st (show s.heap.IsTuple a its.toArray from p) (by simp;omega) λl Y=>#[rfl,I.turned (t':=s.toks) (λb o f e=>Y b o f e) C f1 B A y]
 self:=λ_ _ _ _ _ st h=>wpAny_pyIter_tupleiter st h
def v37{P:Program}{w:World}{K:PySem.W.Frag}{tg:Expr}(it:Addr)(lo:Int)(n:Nat):Turn P w K tg (JC lo n) [it] it (λi h=>IsRangeIter h it (lo+(i:Nat)*1) ((n:Int)-(i:Nat)) 1) where
 mem:=by simp
 obj:=λi h st b f=>by
  have e:b=it:=by simpa using f
  subst e;exact#[_,st,λv z=>by have L:C84 _=D20 v:=z;cases L]
 keep:=λi h l st k=>k it (by simp) _ st
 item:=by intro X q hw r p i pins s B H E I j st m;subst q hw r;let#[A,f1,f2,y,x,u]:=j it (by simp);have W:=Walks.range (prog:=X.prog) (w:=X.w) (I.ok.hd p) it lo 1 n;apply W.item i s _ _ m st λv l C O J N=>?_;let#[t,rfl]:=O;have R:Inv X pins B H { s with heap:=l,toks:=C}:=I.turned (λb o f e=>N b o (by simpa using f) e) A f1 y x u;apply#[_,rfl,Eo (s:={ s with heap:=l,toks:=C}) (n:= "range_iterator") J rfl rfl ∅ #[.int (lo+i),H,R,#[t,?_],#[rfl,rfl],J,λb f=>(j b f).1]];rw[OD]
 done:=by intro X q hw r p i pins s B H E I j st m;subst q hw r;let#[A,f1,f2,y,x,u]:=j it (by simp);exact wpAny_pyNext_range_end (I.ok.hd p) st (by have:n<=i:=m;omega) λl Q=>#[rfl,I.turned (t':=s.toks) (λb o f e=>Q b o f e) A f1 y x u]
 self:=λ_ _ _ _ _ st h=>wpAny_pyIter_rangeiter st h
section
variable{X:Cx}{tg:Expr}
def uz8{pins:List (Addr×Obj)}{f:St}{H:Hp}{s:Shared}{R:It->Hp->Prop}{E:Value->Shared->Prop}{lo hi:Int}{t u v:Tok}{tk:Nat}(I:Inv X pins f H s)(h1:-(2^62)<=lo)(k:lo<2^62)(j:-(2^62)<=hi)(i:hi<2^62) (q:R (JC lo (hi-lo).toNat) H):wpAny (model X.prog X.w) X.A (pyIter (.ref s.heap.objs.size)) (PIE X pins f tg R) E { s with heap:=s.heap.push { cls:=.type "range",data:=.fields [.int lo t,.int hi u,.int 1 v].toArray},toks:=tk}:=by
 apply wpAny_pyIter_range (Yc ..) (XN h1 k j i) ?_;have g:Inv X pins f H { s with heap:=s.heap.push { cls:=.type "range",data:=.fields [.int lo t,.int hi u,.int 1 v].toArray},toks:=tk}:=I.kept λb o e=>B8 _ e;apply#[(s.heap.push { cls:=.type "range",data:=.fields [.int lo t,.int hi u,.int 1 v].toArray}).objs.size,[(s.heap.push { cls:=.type "range",data:=.fields [.int lo t,.int hi u,.int 1 v].toArray}).objs.size],_,_,H,rfl,
  g.kept (t':=tk) λb o e=>B8 _ e,v37 _ lo (hi-lo).toNat,?_,λb h=>?_,q]
 .have m:lo+((0:Nat):Int)*1=lo:=by simp
  have l:(((hi-lo).toNat:Nat):Int)-((0:Nat):Int)=Zd lo hi 1:=by rw[Yp];split <;> omega
  show IsRangeIter _ _ (lo+((0:Nat):Int)*1) ((((hi-lo).toNat:Nat):Int)-((0:Nat):Int)) 1;rw[m,l];exact E1 _ rfl
 .have e:b=(s.heap.push { cls:=.type "range",data:=.fields [.int lo t,.int hi u,.int 1 v].toArray}).objs.size:=by simpa using h
  subst e;exact g.qh (B9 _) (g.aE.fresh (B9 _))
def ZJ(h:TA):TI:=λf H R=>h f H λg i=>∃j:Int,g=[.int j]/\-(2^62)<=j/\j<2^62/\R (JC 0 j.toNat) i
def ZK(h:TA):TI:=λf H R=>h f H λg k=>∃i j:Int,g=[.int i,.int j]/\(-(2^62)<=i/\i<2^62/\-(2^62)<=j/\j<2^62)/\R (JC i (j-i).toNat) k
def vb4{a:Expr}{g:TA}{p pos:Pos}(u:Gl X "range")(o:X.mg "range" = none)(x:PA X [a] g)(n:D0 [a] X.env=[(false,eval a X.env)]:=by rfl):PI X tg (.Call (.Name "range" p) [a] [] pos) (ZJ g):=by
 intro pins s i H R I h
 (apply Call_ (rX I u o Oz (J6 (aZ (x pos pins s i H _ I h) ?_) n rfl));rintro B C ⟨A,E,y,l,f⟩)
 let#[j,e,f,m,q]:=f;subst e;cases l with
 | cons r k =>cases k;let#[t,rfl]:=r;exact call_range_1 (uz8 y () () f m (by simpa using q))
def vb3{a b:Expr}{k:TA}{p pos:Pos}(C:Gl X "range")(B:X.mg "range" = none)(E:PA X [a,b] k)(A:D0 [a,b] X.env=[(false,eval a X.env),(false,eval b X.env)]:=by rfl)(l:D0 [b] X.env=[(false,eval b X.env)]:=by rfl):
  PI X tg (.Call (.Name "range" p) [a,b] [] pos) (ZK k):=by
 intro pins s m H R I h;apply Call_ (rX I C B Oz (J6 (aZ (E pos pins s m H _ I h) λL N ⟨J,O,G,n,g⟩=>?_) (by rw[A,l]) (by rw[l];rfl)));let#[i,j,e,#[g,y,x,u],q]:=g;subst e;cases n with
 | cons r f =>
  cases f with
  | cons o f =>cases f;let#[t,rfl]:=r;let#[M,rfl]:=o;exact call_range_2 (uz8 G g y x u q)
def Fu(n:TI)(g:TG)(tb:TS):TS:=λD f H=>n f H λJ p=>∃W:Nat->Nat->St->Hp->Prop,(∃m,W 0 m f p)/\∀i m f H,W i m f H ->
 (J.stop i H/\D.nx f H)\/(J.go i H/\∃N:St->Hp->Prop,(∀h j,N h j->∃l,l<m/\W (i+1) l h j)/\∀x j,J.qx i H x j->g x f j λk o=>tb { D with nx:=N,ct:=N,bk:=D.nx} k o)
def EC(f:List Addr)(h:Heap):List (Addr×Obj):=f.filterMap λb=>(h.get? b).map λo=>(b,o)
def Ng{f:List Addr}{h:Heap}{b:Addr}{o:Obj}(g:b∈f)(e:h.get? b=some o):(b,o)∈EC f h:=B72.mpr #[b,g,by rw[e];rfl]
def vc3(f:p∈EC i h):p.1∈i/\h.get? p.1=some p.2:=by
 let#[b,g,e]:=B72.mp f;cases q:h.get? b with
 | none=>rw[q] at e;cases e
 | some o =>rw[q] at e;have j:(b,o)=p:=D8 e;subst j;exact#[g,q]
def Inv.pinned{pins:List (Addr×Obj)}{g:St}{H:Hp}{s:Shared}{f:List Addr}(I:Inv X pins g H s)(l:∀b∈f,iB X pins H b)(k:∀b∈f,∃o,s.heap.get? b=some o/\∀v,o.data≠.cell v):Inv X (pins++EC f s.heap) g H s:=I.qJ λp j=>(E9.mp j).elim (λz=>I.pin p (L6 _ z)) λz=>by let#[h,e]:=vc3 z;let#[m,f1,f2,_]:=l p.1 h;let#[o,i,d]:=k p.1 h;rw[e] at i;cases i;exact#[e,m,f1,f2,d]
def Inv.gx{pins pl:List (Addr×Obj)}{f:St}{H:Hp}{s:Shared}(I:Inv X (pins++pl) f H s):Inv X pins f H s:=I.qJ λp g=>I.pin p (L6 _ (B49 _ g))
def wv4{iter:Expr}{body:List Stmt}{wi:TI}{g:TG}{tb:TS}{pos:Pos}(E:OL (model X.prog X.w) X.A X.env X.xe)(hc:X.calm=true)(hi:PI X tg iter wi)(hg:PG X tg g)(p:oS X body tb) (hs:∀x,W0 iter X.env x=pure x:=by intro _;rfl):PS X (.For tg iter body [] pos) (Fu wi g tb):=by
 intro pins s Z H D I h;apply wpAny_For (aZ (hi pins s Z H _ I h) λv s1 h1=>aZ h1 λND s2 h2=>?_) hs;let#[it,L,tn,J,H2,e,I2,T,lQ,f2,W,#[m0,w0],turn]:=h2;subst e;have R:∀{y:Hp},(∀b∈L,y b=none)->∀b∈L,iB X pins y b:=λhn b p=>#[hn b p,(f2 b p).2];apply codeAny_forLoop_any (λn s'=>∃i l y,Inv X pins l y s'/\tn i s'.heap/\(∀b∈L,y b=none)/\W i n l y) ?_ m0 #[0,Z,H2,I2,lQ,λb p=>(f2 b p).1,w0];rintro n s3 ⟨i,k,M,I3,Nl,G,w3⟩;rcases turn i n k M w3 with⟨stop,qn⟩|⟨go,N,hN,step⟩
 ·(apply V7 E (aZ (T.done X rfl rfl rfl hc i pins s3 k M X.xe I3 (R G) Nl stop) ?_);rintro r s4 ⟨S,I4⟩)
  subst S;exact OZ ⟨k,M,I4,qn⟩
 ·(apply V7 E (aZ (T.item X rfl rfl rfl hc i pins s3 k M X.xe I3 (R G) Nl go) ?_);rintro r s4 ⟨u,S,h4⟩)
  subst S
  (apply V7 E (aZ h4 ?_);rintro _ s5 ⟨x,H5,I5,r5,y5,Y,N_⟩)
  have U:=I5.pinned (R N_) (T.obj _ _ Y)
  (apply V7 E (aZ (hg _ s5 k H5 x u _ U r5 (step x H5 y5)) ?_);rintro _ s6 ⟨O,H6,I6,q6⟩)
  apply V7 E (aZ (p _ s6 O H6 _ I6 q6) λf Q B=>?_);have again:∀{j:St} {t:Hp},Inv X (pins++EC L s5.heap) j t Q->N j t->∃m,m<n/\∃i l y,Inv X pins l y Q/\tn i Q.heap/\(∀b∈L,y b=none)/\W i m l y:=λ{j t} q C=>by let#[m',hm,w7]:=hN j t C;apply#[m',hm,i+1,j,t,q.gx,T.keep _ _ _ Y λb p o e=>(q.pin (b,o) (L6 _ (L6 _ (Ng p e)))).1,λb p=>?_,w7];let#[o,e,d]:=T.obj _ _ Y b p;exact(q.pin (b,o) (L6 _ (L6 _ (Ng p e)))).2.1
  cases f with
  | next=>let#[j,t,q,C]:=B;exact again q C| cont=>let#[j,t,q,C]:=B;exact again q C| brk=>let#[j,t,q,B]:=B;exact#[j,t,q.gx,B]| ret v=>let#[x7,j,t,q,r7,B]:=B;exact#[x7,j,t,q.gx,r7,B]
end
abbrev R2:=V->V->Hp->VK->Prop
def cX(X:Cx)(f:Value->Value->Sem Value)(r:R2):Prop:=
 ∀(pins:List (Addr×Obj)) (s:Shared) (g:St) (H:Hp) (x y:V) (v u:Value) (Q:VK),Inv X pins g H s->RelV x v->RelV y u->r x y H Q ->
  wpAny (model X.prog X.w) X.A (f v u) (EP X pins g Q) X.xe s
def yC(X:Cx)(f:Value->Sem Value)(r:V->Hp->VK->Prop):Prop:=
 ∀(pins:List (Addr×Obj)) (s:Shared) (g:St) (H:Hp) (x:V) (v:Value) (Q:VK),Inv X pins g H s->RelV x v->r x H Q ->
  wpAny (model X.prog X.w) X.A (f v) (EP X pins g Q) X.xe s
def bG(X:Cx)(f:Value)(r:List V->Hp->VK->Prop):Prop:=
 ∀(pins:List (Addr×Obj)) (s:Shared) (g:St) (H:Hp) (xs:List V) (h:List Value) (Q:VK),Inv X pins g H s->Vals xs h->r xs H Q ->
  wpAny (model X.prog X.w) X.A (call f h) (EP X pins g Q) X.xe s
def Fp(r:R2)(g tb:TE):TE:=λf H Q=>g f H λx i=>tb f i λy h=>r x y h Q
def tUn(r:V->Hp->VK->Prop)(g:TE):TE:=λf H Q=>g f H λx h=>r x h Q
def rI(C:Int->Int->Prop)(g:Int->Int->V):R2:=λx y H Q=>∃i j,x=.int i/\y=.int j/\C i j/\Q (g i j) H
def pS(g:Int->Int->V):R2:=λx y H Q=>∃i j,x=.int i/\y=.int j/\Q (g i j) H
def rU(g:Int->V):V->Hp->VK->Prop:=λx H Q=>∃i,x=.int i/\Q (g i) H
section
variable{X:Cx}{a b c:Expr}{ta tb tc:TE}{pos:Pos}
def Cg(C:PE X a ta)(B:PE X b tb){pins:List (Addr×Obj)}{s:Shared}{g:St}{H:Hp}{R:V->V->Hp->Prop}(I:Inv X pins g H s) (h:ta g H λx m=>tb g m λy i=>R x y i) {Q:Value->Shared->Prop} {f:Value->Value->Sem Value} (t:∀v u l x y i,Inv X pins g i l->RelV x v->RelV y u->R x y i->wpAny (model X.prog X.w) X.A (f v u) Q X.xe l): wpAny (model X.prog X.w) X.A (eval a X.env) (λv k=>wpAny (model X.prog X.w) X.A (eval b X.env) (λu j=>wpAny (model X.prog X.w) X.A (f v u) Q X.xe j) X.xe k) X.xe s:=by
 (apply aZ (C pins s g H _ I h) ?_;rintro v n ⟨x,m,G,p,r⟩)
 (apply aZ (B pins n g m _ G r) ?_;rintro u l ⟨y,i,E,o,q⟩)
 exact t v u l x y i E p o q
def xi1{op:Operator}{r:R2}(k:cX X (L8 op) r)(m:PE X a ta)(l:PE X b tb):PE X (.BinOp a op b pos) (Fp r ta tb):=by intro pins s f H Q I h;exact wpAny_BinOp (Cg m l I h λv u g x y o n j i q=>k pins g f o x y v u Q n j i q)
def xh9{op:UnaryOp}{r:V->Hp->VK->Prop}(k:yC X (DN op) r)(l:PE X a ta):PE X (.UnaryOp op a pos) (tUn r ta):=by
 intro pins s f H Q I h
 (apply UnaryOp_ (aZ (l pins s f H _ I h) ?_);rintro v g ⟨x,n,m,i,j⟩;exact k pins g f n x v Q m i j)
def Dh{f:Value->Value->Sem Value}{C:Int->Int->Prop}{g:Int->Int->Int} (rule:∀(i j:Int) (t u:Tok) (s:Shared) (Q:Value->Shared->Prop) (E:Value->Shared->Prop),C i j->Q (.int (g i j) s.toks) { s with toks:=s.toks+1}->wpAny (model X.prog X.w) X.A (f (.int i t) (.int j u)) Q E s): cX X f (rI C λi j=>.int (g i j)):=by
 intro pins s o H x y v u Q I m l h;let#[i,j,rfl,rfl,n,q]:=h;let#[t,rfl]:=m;let#[k,rfl]:=l;exact rule i j t k s _ _ n #[.int (g i j),H,I.tok _,#[_,rfl],q]
def pU{f:Value->Value->Sem Value}{g:Int->Int->Int} (rule:∀(i j:Int) (t u:Tok) (s:Shared) (Q:Value->Shared->Prop) (E:Value->Shared->Prop),Q (.int (g i j) s.toks) { s with toks:=s.toks+1}->wpAny (model X.prog X.w) X.A (f (.int i t) (.int j u)) Q E s): cX X f (pS λi j=>.int (g i j)):=by
 intro pins s n H x y v u Q I m l h;let#[i,j,rfl,rfl,q]:=h;let#[t,rfl]:=m;let#[k,rfl]:=l;exact rule i j t k s _ _ #[.int (g i j),H,I.tok _,#[_,rfl],q]
def xR{f:Value->Value->Sem Value}{g:Int->Int->Bool} (rule:∀(i j:Int) (t u:Tok) (s:Shared) (Q:Value->Shared->Prop) (E:Value->Shared->Prop),Q (.bool (g i j)) s->wpAny (model X.prog X.w) X.A (f (.int i t) (.int j u)) Q E s): cX X f (pS λi j=>.bl (g i j)):=by
 intro pins s n H x y v u Q I m l h;let#[i,j,rfl,rfl,q]:=h;let#[t,rfl]:=m;let#[k,rfl]:=l;exact rule i j t k s _ _ #[.bl (g i j),H,I,rfl,q]
def yJ(i j:Int):Prop:=0<j/\j<1073741824
def jZ(i j:Int):Prop:=0<=j/\j<=1000000/\i.natAbs<2^64
def iV(i j:Int):Prop:=(-(2^64)<i/\i<2^64)\/(-(2^64)<j/\j<2^64)
def iV.ok(h:iV i j):IntMulOk i j:=by
 rcases h with⟨g,f⟩|⟨g,f⟩
 .exact .of_left (intBits_le_64 g f)
 .exact .of_right (intBits_le_64 g f)
def v35(k:Nat):(0:Int)<=2^k:=by rw[two_pow_cast];exact Pk _
def Bb:cX X (L8 .Add) (pS λi j=>.int (i+j)):=pU λ_ _ _ _ _ _ _ q=>add_int q
def wx4:cX X (L8 .Sub) (pS λi j=>.int (i-j)):=pU λ_ _ _ _ _ _ _ q=>sub_int q
def Ba:cX X (L8 .Mult) (rI iV λi j=>.int (i*j)):=Dh λ_ _ _ _ _ _ _ f q=>mul_int q f.ok
def wy0:cX X (L8 .Mod) (rI (λ_ j=>0<j) λi j=>.int (i%j)):=Dh λi j _ _ _ _ _ f q=>by have g:(0:Int)<j:=f;exact mod_int' () (by rw[A75 i ()];exact q)
def wx8:cX X (L8 .Pow) (rI jZ λi j=>.int (i^j.toNat)):=Dh λ_ _ _ _ _ _ _ f q=>pow_int_small f.1 f.2.1 f.2.2 q
def wx6:cX X (L8 .LShift) (rI jZ λi j=>.int (i*2^j.toNat)):=Dh λ_ _ _ _ _ _ _ f q=>lshift_int_small f.1 f.2.1 f.2.2 q
def wx5:cX X (L8 .RShift) (rI (λ_ j=>0<=j) λi j=>.int (i / 2^j.toNat)):=Dh λi j _ _ _ _ _ f q =>
 rshift_int f (by rw[Z0 i (v35 _)];exact q)
def wy3:cX X (L8 .BitAnd) (pS λi j=>.int (P1 i j)):=pU λ_ _ _ _ _ _ _ q=>and_int q
def xi4:cX X (L8 .BitOr) (pS λi j=>.int (LK i j)):=pU λ_ _ _ _ _ _ _ q=>or_int q
def wx3:cX X (L8 .BitXor) (pS λi j=>.int (LL i j)):=pU λ_ _ _ _ _ _ _ q=>xor_int q
def wk6:cX X (yM .Add) (pS λi j=>.int (i+j)):=pU λ_ _ _ _ _ _ _ q=>iadd_int q
def wk5:cX X (yM .Sub) (pS λi j=>.int (i-j)):=pU λ_ _ _ _ _ _ _ q=>isub_int q
def unI{f:Value->Sem Value}{g:Int->Int} (rule:∀(i:Int) (t:Tok) (s:Shared) (Q:Value->Shared->Prop) (E:Value->Shared->Prop),Q (.int (g i) s.toks) { s with toks:=s.toks+1}->wpAny (model X.prog X.w) X.A (f (.int i t)) Q E s): yC X f (rU λi=>.int (g i)):=by
 intro pins s k H x v Q I j h;let#[i,rfl,q]:=h;let#[t,rfl]:=j;exact rule i t s _ _ #[.int (g i),H,I.tok _,#[_,rfl],q]
def wr4:yC X (DN .USub) (rU λi=>.int (-i)):=unI λ_ _ _ _ _ q=>neg_int q
def wr5:yC X (DN .Invert) (rU λi=>.int (M9 i)):=unI λ_ _ _ _ _ q=>invert_int q
end
def AX:V->V->Bool
 | .non,.non=>true|.non,.int _=>true|.int _,.non=>true|.non,.bl _=>true|.bl _,.non=>true|.non,.str _=>true|.str _,.non=>true| .int _,.int _=>true|.bl _,.bl _=>true|.str _,.str _=>true|.tu _,.tu _=>true| .int _,.str _=>true|.str _,.int _=>true|.bl _,.str _=>true|.str _,.bl _=>true| _,_=>false
def rEq:R2:=λx y H Q=>AX x y=true/\Q (.bl (decide (x=y))) H
def rNe:R2:=λx y H Q=>AX x y=true/\Q (.bl (!decide (x=y))) H
def vi5:decide (V.int i=V.int j)=(i==j):=by rw[V4];simp
def w28:decide (V.bl i=V.bl j)=(i==j):=by rw[V4];simp
def vi4:decide (V.str i=V.str j)=(i==j):=by rw[V4];simp
def vi6:decide (V.tu i=V.tu j)=(i.toList==j.toList):=by rw[V4];cases i;cases j;simp
section
variable{X:Cx}{a b c:Expr}{ta tb tc:TE}{pos:Pos}
def fI(I:Inv X pins f H s)(q:Q (.bl k) H)(e:k=g):EP X pins f Q (.bool g) s:=by subst e;exact#[.bl k,H,I,rfl,q]
def HA:cX X (K2 .Eq) rEq:=by
 intro pins s m H x y v u Q I l f h;let#[k,q]:=h;cases x with
 | non =>
  cases l;cases y with
  | non=>cases f;exact C38 (fI I q (by simp))
  | bl j=>cases f;exact C39 (fI I q (by simp))
  | int j=>let#[g,rfl]:=f;exact C51 (fI I q (by simp))| str j=>let#[g,rfl]:=f;exact C52 (fI I q (by simp))| _=>exact absurd (show false=true from k) C8
 | bl i =>
  cases l;cases y with
  | non=>cases f;exact C40 (fI I q (by simp))
  | bl j=>cases f;exact eq_bool (fI I q w28)
  | str j=>let#[g,rfl]:=f;exact C41 (fI I q (by simp))| _=>exact absurd (show false=true from k) C8
 | int i =>
  let#[t,rfl]:=l;cases y with
  | non=>cases f;exact C53 (fI I q (by simp))
  | int j=>let#[g,rfl]:=f;exact eq_int (fI I q vi5)| str j=>let#[g,rfl]:=f;exact C54 (fI I q (by simp))| _=>exact absurd (show false=true from k) C8
 | str i =>
  let#[t,rfl]:=l;cases y with
  | non=>cases f;exact C55 (fI I q (by simp))
  | bl j=>cases f;exact C42 (fI I q (by simp))
  | int j=>let#[g,rfl]:=f;exact C56 (fI I q (by simp))| str j=>let#[g,rfl]:=f;exact eq_str (fI I q vi4)| _=>exact absurd (show false=true from k) C8
 | tu i =>
  let#[t,rfl]:=l;cases y with
  | tu j=>let#[g,rfl]:=f;exact W.eq_bytes (fI I q vi6)| _=>exact absurd (show false=true from k) C8
 | _=>cases y <;> exact absurd (show false=true from k) C8
def Hy:cX X (K2 .NotEq) rNe:=by
 intro pins s m H x y v u Q I l f h;let#[k,q]:=h;cases x with
 | non =>
  cases l;cases y with
  | non=>cases f;exact C43 (fI I q (by simp))
  | bl j=>cases f;exact C44 (fI I q (by simp))
  | int j=>let#[g,rfl]:=f;exact C57 (fI I q (by simp))| str j=>let#[g,rfl]:=f;exact C58 (fI I q (by simp))| _=>exact absurd (show false=true from k) C8
 | bl i =>
  cases l;cases y with
  | non=>cases f;exact C45 (fI I q (by simp))
  | bl j=>cases f;exact ne_bool (fI I q (congrArg not w28))
  | str j=>let#[g,rfl]:=f;exact C46 (fI I q (by simp))| _=>exact absurd (show false=true from k) C8
 | int i =>
  let#[t,rfl]:=l;cases y with
  | non=>cases f;exact C59 (fI I q (by simp))
  | int j=>let#[g,rfl]:=f;exact ne_int (fI I q (congrArg not vi5))| str j=>let#[g,rfl]:=f;exact C60 (fI I q (by simp))| _=>exact absurd (show false=true from k) C8
 | str i =>
  let#[t,rfl]:=l;cases y with
  | non=>cases f;exact C61 (fI I q (by simp))
  | bl j=>cases f;exact C47 (fI I q (by simp))
  | int j=>let#[g,rfl]:=f;exact C62 (fI I q (by simp))| str j=>let#[g,rfl]:=f;exact ne_str (fI I q (congrArg not vi4))| _=>exact absurd (show false=true from k) C8
 | tu i =>
  let#[t,rfl]:=l;cases y with
  | tu j=>let#[g,rfl]:=f;exact W.ne_bytes (fI I q (congrArg not vi6))| _=>exact absurd (show false=true from k) C8
 | _=>cases y <;> exact absurd (show false=true from k) C8
def Hz:cX X (K2 .Lt) (pS λi j=>.bl (decide (i<j))):=xR λ_ _ _ _ _ _ _ q=>lt_int q
def xi5:cX X (K2 .LtE) (pS λi j=>.bl (decide (i<=j))):=xR λ_ _ _ _ _ _ _ q=>le_int q
def xi6:cX X (K2 .Gt) (pS λi j=>.bl (decide (j<i))):=xR λ_ _ _ _ _ _ _ q=>gt_int q
def xi7:cX X (K2 .GtE) (pS λi j=>.bl (decide (j<=i))):=xR λ_ _ _ _ _ _ _ q=>ge_int q
def vb9:cX X (K2 .Lt) (λx y H Q=>∃i j,x=.str i/\y=.str j/\Q (.bl (decide (i.cps.toList<j.cps.toList))) H):=by intro pins s k H x y v u Q I g f h;let#[i,j,rfl,rfl,q]:=h;let#[t,rfl]:=g;let#[l,rfl]:=f;exact lt_str (fI I q rfl)
def xQ:cX X (K2 .IsNot) (λx y H Q=>y=.non/\Q (.bl (!decide (x=.non))) H):=by
 intro pins s i H x y v u Q I f g h;let#[rfl,q]:=h;cases g;apply isnot_none_gen (fI I q ?_);cases x <;> first
  | (cases f;rfl)
  | (let#[t,rfl]:=f;rfl)
def cX.or{f:Value->Value->Sem Value}{r r':R2}(h:cX X f r)(h':cX X f r'):cX X f (λx y H Q=>r x y H Q\/r' x y H Q):=by
 intro pins s g H x y v u Q I j i q;rcases q with q|q
 .exact h pins s g H x y v u Q I j i q
 .exact h' pins s g H x y v u Q I j i q
def ah(b:Expr)(h:op≠.In:=by decide)(f:op≠.NotIn:=by decide):DZ op b=false:=by
 have i:(op==CmpOp.In)=false:=by cases op <;> first|rfl|exact absurd rfl h
 have g:(op==CmpOp.NotIn)=false:=by cases op <;> first|rfl|exact absurd rfl f
 cases b <;> simp[DZ,i,g]
def wg8(k:cX X (K2 op) r)(n:PE X a ta)(m:PE X b tb)(l:DZ op b=false):PE X (.Compare a [op] [b] pos) (Fp r ta tb):=by intro pins s f H Q I h;exact wpAny_Compare1 (Cg n m I h λv u g x y p o j i q=>k pins g f p x y v u Q o j i q) l
def wr9(t:TE):TT:=λf H Q=>t f H λx g=>∃k,x=.bl k/\Q k g
def we8{op:CmpOp}{r:R2}(q:cX X (K2 op) r)(B:PE X a ta)(A:PE X b tb)(t:DZ op b=false):PT X (.Compare a [op] [b] pos) (wr9 (Fp r ta tb)):=by
 intro pins s f H Q I h;apply wpAny_isTrue_Compare1 (aZ (B pins s f H _ I h) λv i ⟨x,L,E,m,p⟩=>aZ (A pins i f L _ E p) λu g ⟨y,J,C,l,o⟩ =>
  aZ (q pins g f J x y v u _ C m l o) λc M ⟨z,G,I3,j,k,e,n⟩=>?_) t
 subst e;cases j;exact Q3 #[G,I3,n]
def vw3(r r':R2)(ta tb tc:TE):TE:=λf H Q=>ta f H λx l=>tb f l λy j=>r x y j λz g=>∃k,z=.bl k /\
 (if k=true then tc f g λh i=>r' y h i Q else Q (.bl false) g)
def vn7{op g:CmpOp}{r r':R2}(R:cX X (K2 op) r)(O:cX X (K2 g) r')(Z:PE X a ta)(Y:PE X b tb)(U:PE X c tc) (S:lastMarks [op,g] [b,c]=false:=by with_unfolding_all rfl):PT X (.Compare a [op,g] [b,c] pos) (wr9 (vw3 r r' ta tb tc)):=by
 intro pins s f H Q I h;apply isTrue_chain (aZ (Z pins s f H _ I h) λv t ⟨x,H1,I1,E,M⟩=>test_link (aZ (Y pins t f H1 _ I1 M) λu q ⟨y,H2,I2,i,L⟩ =>
  aZ (R pins q f H2 x y v u _ I2 E i L) λd p ⟨z,l,I3,C,k,e,j⟩=>?_)) S
 subst e;cases C;apply Q3 ?_;cases k with
 | false =>let#[k',e',N]:=j;cases e';exact ite_ff #[l,I3,N]
 | true =>
  (apply ite_tt (test_last (aZ (U pins p f l _ I3 j) ?_));rintro n o ⟨m,H4,I4,B,J⟩;apply aZ (O pins o f H4 y m u n _ I4 i B J) ?_;rintro d' s5 ⟨z2,H5,I5,A,k2,e2,G⟩)
  subst e2;cases A;exact Q3 #[H5,I5,G]
def il:(sizeLine:Nat)<2^63:=by rw[X_];decide
def pT:cX X (L8 .Add) (λx y H Q=>∃i j,x=.str i/\y=.str j/\i.length+j.length<=sizeLine/\Q (.str (i++j)) H):=by intro pins s m H x y v u Q I k g h;let#[i,j,rfl,rfl,l,q]:=h;let#[t,rfl]:=k;let#[f,rfl]:=g;exact add_str (λf n=>#[.str (i++j),H,I.tok _,#[_,rfl],q]) l
def vals1(r:Vals [x] us):∃u,us=[u]/\RelV x u:=by
 cases r with
 | cons g f=>cases f;exact#[_,rfl,g]
def vals2(r:Vals [x,y] us):∃u f,us=[u,f]/\RelV x u/\RelV y f:=by
 cases r with
 | cons j i =>
  cases i with
  | cons h g=>cases g;exact#[_,_,rfl,j,h]
def vu6:bG X (.builtin "abs") (λxs H Q=>∃i,xs=[.int i]/\Q (.int (if i<0 then -i else i)) H):=by intro pins s f H xs g Q I r h;let#[i,rfl,q]:=h;let#[u,rfl,t,rfl]:=vals1 r;exact call_abs_int λu j=>#[.int (if i<0 then -i else i),H,I.tok _,#[_,rfl],q]
def vj7(g:X.calm=true):bG X (.builtin "min") (λxs H Q=>∃i j,xs=[.int i,.int j]/\Q (.int (if j<i then j else i)) H):=by
 intro pins s l H xs n Q I r h;let#[i,j,rfl,q]:=h;let#[u,m,rfl,#[t,rfl],#[p,rfl]]:=vals2 r;apply min_two_ints (I.ok.hd g) λx o k=>#[_,H,I.kept k,?_,q];by_cases f:j<i
 .rw[if_pos f,if_pos f];exact#[_,rfl]
 .rw[if_neg f,if_neg f];exact#[_,rfl]
def vk0:bG X (.type "int") (λxs H Q=>(∃i,xs=[.int i]/\Q (.int i) H)\/∃k,xs=[.bl k]/\Q (.int (if k then 1 else 0)) H):=by
 intro pins s g H xs j Q I r h;rcases h with⟨i,rfl,q⟩|⟨k,rfl,q⟩
 .let#[u,rfl,t,rfl]:=vals1 r;exact call_int_int #[.int i,H,I,#[_,rfl],q]
 .let#[u,rfl,f]:=vals1 r;cases f;exact call_int_bool #[.int (if k then 1 else 0),H,I.tok _,#[_,rfl],q]
def ux6:bG X (.builtin "divmod") (λxs H Q=>∃i j,xs=[.int i,.int j]/\yJ i j/\∀p,H p=none->Q (.ref p) (upd H p (.tup [.int (i / j),.int (i%j)]))):=by intro pins s g H xs l Q I r h;let#[i,j,rfl,#[x,n],q]:=h;let#[u,k,rfl,#[t,rfl],#[m,rfl]]:=vals2 r;apply divmod_int () ?_ (.inl (PyProof.noPylong_small ()));rw[Z0 i (),A75 i ()];have f:H s.heap.objs.size=none:=I.aE.fresh (B9 _);apply#[.ref s.heap.objs.size,_,?_,rfl,q _ f];apply I.laid (λb o e=>B8 _ e) (B9 _) #[by simp only[C1,Pl];rw[X_];decide,[.int (i / j) s.toks,.int (i%j) (s.toks+1)],.cons #[_,rfl] (.cons #[_,rfl] .nil),?_];exact#[_,E1 s.heap rfl,rfl,#[0,rfl],rfl]
end
structure qv(h:Heap)(x dx C:Addr)(mA:Str->Option Value):Prop where
 obj:h.get? x=some (W.instObj C dx)
 ns:h.Ns1 dx mA
 ne:dx≠x
def ve9{h:Heap}(n:h.Ns1 p g):∃od,h.get? p=some od/\∀name,W.lookIn name od=some (g name):=by
 let#[o,f,x,j,m,l,_,k]:=n;apply#[o,j,λname=>?_];have e:=k name;unfold nsFind findBy at e;rw[<- Array.find?_toList] at e;unfold W.lookIn;rw[m];dsimp only;split
 .rename_i y q;rw[q] at e;exact congrArg some e
 .rename_i q;rw[q] at e;have a:f.toList.any (·.refKey)=false:=by rw[Pg];intro y i;let#[z,t,u]:=l y (Array.mem_toList_iff.mp i);simp[D21,u]
  have r:¬ f.toList.any (·.refKey)=true:=by rw[a];exact C8
  rw[if_neg r];exact congrArg some e
def qv.look(I:qv h x j C f):∃od,W.InstAt h x (W.instObj C j) C (some od)/\∀name,W.lookIn name od=some (f name):=
 let ⟨od,g,i⟩:=ve9 I.ns
 #[od,#[I.obj,rfl,rfl,g],i]
section
variable{prog:Program}{w:World}{A:Around}{E:Value->Shared->Prop}{s:Shared}{K:W.Frag}{x dx C f:Addr}{mA:Str->Option Value}{name:Str}{v:Value}
def wk8(X:K.In s.heap)(I:qv s.heap x dx C mA)(j:W.plainGet K C name=true)(hh:W.hasDictIn K C=true) (k:W.findIn K (.ref C) name=some none) (g:mA name=some v) (l:W.handedIn v=true) (h:Q v { s with toks:=s.toks+1}): wpAny (model prog w) A (getAttr (.ref x) name expr) Q E s:=by
 let#[od,J,i]:=I.look;exact W.get_value X J (W.plainGet_of j).1 (W.findObj_own hh k rfl (by rw[i,g])) l h
def vt2(X:K.In s.heap)(I:qv s.heap x dx C mA)(g:W.plainGet K C name=true) (l:W.findIn K (.ref C) name=some (some (.ref f))) (j:W.isFn K (.ref f)=true) (i:mA name=none) (h:Q (.ref f,[.ref x]) s): wpAny (model prog w) A (Ak (.ref x) name pl) Q E s:=by
 let#[od,J,k]:=I.look;exact W.method_fn X J (W.plainGet_of g).1 (W.plainGet_of g).2 l (beq_iff_eq.mp j) (by show(W.lookIn name od).map (·.isSome)=some false;rw[k,i];rfl) h
def w59(X:K.In s.heap)(I:qv s.heap x dx C mA) (o:W.findIn K (.ref C) "__setattr__" = some (some (.builtin "object.__setattr__"))) (p:W.plainOver K C=true) (n:W.takerIn K C name=some none) (hh:W.hasDictIn K C=true) (hw:Yl mA ns) (hsz:ns.length<=sizeLine) (h:∀h',qv h' x dx C (λy=>if y=name then some v else mA y)->U4 dx s.heap h'->Q #[] { s with heap:=h',toks:=s.toks+2}): wpAny (model prog w) A (setAttr (.ref x) name v) Q E s:=by
 let#[od,J,G]:=I.look;apply W.set_plain X J o (W.osa_open (s:={ s with toks:=s.toks+1}) (r:=none) X J p n λb=>?_);let#[cd,q,l]:=W.any_some hh;have m:s.heap.get? x=some #[.ref C,some dx,.plain,[].toArray]:=I.obj;apply B5 (C4 (B5 (B5 (wpAny_loadPart m (B5 (W.Looks.here (s:={ s with toks:=s.toks+1}) (W.looks_clsIn X q) ?_))))));rw[l];apply C4 (a:=some dx) (B5 (C4 (B5 ?_)));apply wpAny_nsSet1 (s:={ s with toks:=s.toks+1}) I.ns λh' j k=>?_;let#[B,t,u,g,hdD,i]:=j.count (D14 name v hw);apply B5 (wpAny_lookBehind g (by rw[hdD];exact pastItsLine_dict (D3 i (by rw[C1];omega))) ?_);exact C4 (h _ #[(k.2 _ (D2 I.ne)).trans I.obj,j,I.ne] k)
def vq3(X:K.In s.heap)(i:W.makesIn K C=true) (hi:W.findIn K (.ref C) "__init__" = some (some (.ref f))) (j:W.typeIn K (.ref f)=some (.type "function")) (h:sO (model prog w) (A.under (.builtin "type.__call__" #[.ref C::vs,kw])) (.call (.ref f) #[.ref (s.heap.objs.size+1)::vs,kw]) (W.InitBack (s.heap.objs.size+1) R) { s with heap:=(s.heap.push W.emptyDict).push (W.instObj C s.heap.objs.size)}): sO (model prog w) A (.call (.ref C) #[vs,kw]) R s:=by
 let#[k,g,d,t,os]:=s;exact W.make_core (W.makes_of X i) (W.looks_findIn X hi) (λself=>W.bind_fn X self j) (.inl rfl) h
end
def cO(f:Str)(v:V):List (Str×V)->List (Str×V)
 | []=>[(f,v)]| (g,x)::r=>if g=f then(g,v)::r else(g,x)::cO f v r
theorem ui3(f g:Str)(v:V):∀l:List (Str×V),(cO f v l).lookup g=if g=f then some v else l.lookup g
 | []=>by
  show J5 g [(f,v)]=_;by_cases h:g=f
  .have i:(g==f)=true:=beq_iff_eq.mpr h;simp only[J5,i,if_pos h]
  .have i:(g==f)=false:=beq_eq_false_iff_ne.mpr h;simp only[J5,i,if_neg h]
 | (k,x)::r=>by
  have m:=ui3 f g v r;rw[show cO f v ((k,x)::r)=(if k=f then(k,v)::r else(k,x)::cO f v r) from rfl];by_cases j:k=f
  .rw[if_pos j];by_cases h:g=k
   .have i:(g==k)=true:=beq_iff_eq.mpr h;simp only[J5,i,if_pos (h.trans j)]
   .have i:(g==k)=false:=beq_eq_false_iff_ne.mpr h;simp only[J5,i,if_neg (λe:g=f=>h (e.trans j.symm))]
  .rw[if_neg j];by_cases h:g=k
   .have i:(g==k)=true:=beq_iff_eq.mpr h;simp only[J5,i,if_neg (λe:g=f=>j (h.symm.trans e))]
   .have i:(g==k)=false:=beq_eq_false_iff_ne.mpr h;simp only[J5,i];exact m
theorem Uq(f:Str)(v:V):∀j:List (Str×V),f∈(cO f v j).map (·.1)/\∀g,g∈j.map (·.1)->g∈(cO f v j).map (·.1)
 | []=>#[by simp[cO],λg h=>by simp at h]| (k,x)::r=>by
  let#[m,l]:=Uq f v r;rw[show cO f v ((k,x)::r)=(if k=f then(k,v)::r else(k,x)::cO f v r) from rfl];by_cases i:k=f
  .rw[if_pos i];subst i;exact#[by simp,λg h=>by simpa using h]
  .rw[if_neg i];apply#[?_,λg h=>?_]
   .rw[C0];exact C2 _ m
   .rw[C0] at h⊢;rcases D4.mp h with e|e
    .exact D4.mpr (.inl e)
    .exact C2 _ (l g e)
theorem ui6(f:Str)(v:V):∀h:List (Str×V),(cO f v h).length<=h.length+1
 | []=>by simp[cO]| (k,x)::r=>by
  have i:=ui6 f v r;rw[show cO f v ((k,x)::r)=(if k=f then(k,v)::r else(k,x)::cO f v r) from rfl];by_cases g:k=f
  .rw[if_pos g,C1,C1];omega
  .rw[if_neg g,C1,C1];omega
def dz.some_of(r:dz (some v) o):∃u,o=some u/\RelV v u:=by
 cases o with
 | none=>exact(show False from r).elim| some u=>exact#[u,rfl,r]
def dz.none_of(r:dz none o):o=none:=by
 cases o with
 | none=>rfl| some u=>exact(show False from r).elim
def vg5(r:RelV v u):W.handedIn u=true:=by
 cases v with
 | non=>cases(show u=W6 from r);rfl
 | bl b=>cases(show u=OB b from r);rfl
 | int i=>let#[t,e]:=(show∃t,u=DS i t from r);cases e;rfl
 | str x=>let#[t,e]:=(show∃t,u=DR x t from r);cases e;rfl
 | tu b=>let#[t,e]:=(show∃t,u=C83 b t from r);cases e;rfl
 | wM b=>let#[t,e]:=(show∃t,u=Yd b t from r);cases e;rfl
 | ref a=>cases(show u=E7 a from r);rfl
 | ty n=>cases(show u=D09 n from r);rfl
section
variable{P:Program}{w:World}{H H':Hp}{h h':Heap}{a C dx:Addr}{fs fe:List (Str×V)}
def ME(j:gm P w H h)(e:H a=some (.ins C dx fs)):∃g,qv h a dx C g/\(∀f,dz (fs.lookup f) (g f))/\Yl g (fs.map (·.1))/\fs.length<=1000/\H dx=some (.own a):=by let#[d,z,ne,i,g,n,r,q]:=(show bg P w H h a (.ins C dx fs) from j a _ e);exact#[g,#[i,n,ne],r,q,z,d]
end
structure jB(K:W.Frag)(C:Addr):Prop where
 pg:W.plainGet K C T6=true
 hd:W.hasDictIn K C=true
 po:W.plainOver K C=true
 sa:W.findIn K (.ref C) "__setattr__" = some (some (.builtin "object.__setattr__"))
def jB.get{K:W.Frag}{C:Addr}(c:jB K C)(f:Str):W.plainGet K C f=true:=c.pg
def bD(K:W.Frag)(C:Addr)(f:Str):Prop:=W.findIn K (.ref C) f=some none
def bD.Fi{K:W.Frag}{C:Addr}{f:Str}(n:bD K C f):W.takerIn K C f=some none:=by unfold W.takerIn;rw[show W.findIn K (.ref C) f=some none from n];rfl
structure Meth(K:W.Frag)(C:Addr)(m:Str)(f:Addr):Prop where
 at_:W.findIn K (.ref C) m=some (some (.ref f))
 fn:W.isFn K (.ref f)=true
 kp:W.keepIn K (.ref f)=true
section
variable{X:Cx}{pins:List (Addr×Obj)}{σ:St}{H:Hp}{s:Shared}{a C dx:Addr}{fs:List (Str×V)}{f:Str}{v:V}{A:Around}{E:Value->Shared->Prop}
def ul3{b:Bool}{Q:Value->Shared->Prop}(I:Inv X pins σ H s)(e:H a=some (.ins C dx fs))(c:jB X.K C)(n:bD X.K C f)(l:fs.lookup f=some v) (h:∀u g,Inv X pins σ H g->RelV v u->Q u g):wpAny (model X.prog X.w) A (getAttr (.ref a) f b) Q E s:=by
 let#[j,O,r,_,_,_]:=ME I.aE e;let#[u,k,i]:=dz.some_of (v:=v) (o:=j f) (by rw[<- l];exact r f);exact wk8 I.iN O (c.get f) c.hd n k (vg5 i) (h u _ (I.tok _) i)
def ul2{m:Str}{g:Addr}{pl:Sem Bool}{Q:Value×List Value->Shared->Prop}(I:Inv X pins σ H s)(e:H a=some (.ins C dx fs))(c:jB X.K C)(k:Meth X.K C m g)(l:fs.lookup m=none) (h:Q (.ref g,[.ref a]) s):wpAny (model X.prog X.w) A (Ak (.ref a) m pl) Q E s:=by
 let#[i,O,r,_,_,_]:=ME I.aE e;have j:i m=none:=dz.none_of (by rw[<- l];exact r m);exact vt2 I.iN O (c.get m) k.at_ k.fn j h
def uk7{y:V}{u:Value}{Q:Unit->Shared->Prop}(I:Inv X pins σ H s)(e:H a=some (.ins C dx fs))(c:jB X.K C)(n:bD X.K C f)(R:fs.length<1000)(t:RelV y u) (h:∀k,Inv X pins σ (upd H a (.ins C dx (cO f y fs))) k->Q #[] k):wpAny (model X.prog X.w) A (setAttr (.ref a) f u) Q E s:=by
 let#[l,O,r,j,_,m]:=ME I.aE e;have B:(fs.map (·.1)).length<=sizeLine:=by rw[B0,X_];omega
 apply w59 I.iN O c.sa c.po n.Fi c.hd j B λM i p=>h _ ?_;have J:∃o,M.get? dx=some o:=let ⟨o,_,_,N,_⟩:=i.ns;#[o,N];apply I.write (x:=a) (e:=dx) (by rw[e];exact P7) (.inr m) (λb q L z=>(p.2 b L).trans z) J ?_;apply#[by rw[cU O.ne];exact m,?_,O.ne,i.obj,_,i.ns,λg=>?_,λg G=>?_]
 .have:=ui6 f y fs;omega
 .show dz ((cO f y fs).lookup g) (if g=f then some u else l g);rw[ui3];by_cases q:g=f
  .rw[if_pos q,if_pos q];exact t
  .rw[if_neg q,if_neg q];exact r g
 .by_cases q:g=f
  .rw[q];exact(Uq f y fs).1
  .apply(Uq f y fs).2 g (j g λz=>G ?_);show(if g=f then some u else l g)=none;rw[if_neg q];exact z
def Inv.made(I:Inv X pins σ H s):Inv X pins σ (upd (upd H s.heap.objs.size (.own (s.heap.objs.size+1))) (s.heap.objs.size+1) (.ins C s.heap.objs.size [])) { s with heap:=(s.heap.push W.emptyDict).push (W.instObj C s.heap.objs.size)}:=by
 have g:(s.heap.push W.emptyDict).get? s.heap.objs.size=some W.emptyDict:=E1 s.heap rfl;have l:((s.heap.push W.emptyDict).push (W.instObj C s.heap.objs.size)).get? (s.heap.objs.size+1)=some (W.instObj C s.heap.objs.size):=by have:=E1 (s.heap.push W.emptyDict) (o:=W.instObj C s.heap.objs.size) rfl;rwa[R8] at this
 have k:(s.heap.push W.emptyDict).Ns s.heap.objs.size (λ_=>none):=#[W.emptyDict,[].toArray,_,g,rfl,(λe j=>absurd j (by simp)),λ_=>rfl];have m:=I.laid (a:=s.heap.objs.size) (o:=.own (s.heap.objs.size+1)) (h':=s.heap.push W.emptyDict) (t':=s.toks) (λb u q=>B8 _ q) (B9 _) #[_,g];apply m.laid (a:=s.heap.objs.size+1) (o:=.ins C s.heap.objs.size []) (t':=s.toks) (λb u q=>B8 _ q) (C71 (R8 _ _)) ?_;have ne:s.heap.objs.size≠s.heap.objs.size+1:=J0 (R4 _);apply#[by rw[cU ne,hJ],J8 _,ne,l,λ_=>none,(Heap.Ns1.of_empty k).at λo q=>B8 _ q,λ_=>P7,λy i=>absurd rfl i]
def wo7{prog:Program}{w:World}{env:Env}{e:Expr}{f:Str}{pos:Pos}{s:Shared}{Q:Value->Shared->Prop}(i:N3 e f env (eval e env)=eval e env) (h:wpAny (model prog w) A (eval e env) (λo g=>wpAny (model prog w) A (getAttr o f true) Q E g) E s):wpAny (model prog w) A (eval (.Attribute e f pos) env) Q E s:=Attribute_any_ h (by rw[arm_eval_Attribute,i])
end
def Fv(K:W.Frag)(j:TE)(f:Str):TE:=λi H Q=>j i H λx h=>∃a C k g v,x=.ref a/\h a=some (.ins C k g)/\jB K C/\bD K C f/\g.lookup f=some v/\Q v h
def FF(K:W.Frag)(l k:TE)(f:Str):TS:=λD g H=>k g H λy m=>l g m λx j=>∃a C i h,x=.ref a/\j a=some (.ins C i h)/\jB K C/\bD K C f/\h.length<1000 /\
 D.nx g (upd j a (.ins C i (cO f y h)))
def XB(X:Cx)(op:Operator)(rd:V->V->Hp->VK->Prop):Prop:=∀(pins:List (Addr×Obj)) (s:Shared) (f:St) (H:Hp) (x y:V) (u v:Value) (Q:VK),Inv X pins f H s->RelV x u->RelV y v->rd x y H Q->wpAny (model X.prog X.w) X.A (yM op u v) (EP X pins f Q) X.xe s
def va2(K:W.Frag)(n m:TE)(rd:V->V->Hp->VK->Prop)(f:Str):TS:=λD g H=>n g H λx l=>∃a C o j v,x=.ref a/\l a=some (.ins C o j)/\jB K C/\bD K C f/\j.lookup f=some v /\
 m g l λy p=>rd v y p λz k=>∃i h,k a=some (.ins C i h)/\h.length<1000/\D.nx g (upd k a (.ins C i (cO f z h)))
section
variable{X:Cx}{o e value:Expr}{f:Str}{pos pos' pd:Pos}{ta tv:TE}
def ww8(k:PE X e ta)(m:N3 e f X.env (eval e X.env)=eval e X.env):PE X (.Attribute e f pos) (Fv X.K ta f):=by
 intro pins s g H Q I h
 (apply wo7 m (aZ (k pins s g H _ I h) ?_);rintro u E ⟨x,y,t,i,a,C,J,G,v,ex,p,c,n,l,q⟩)
 subst ex;obtain rfl:u=E7 a:=i;exact ul3 t p c n l λA B r j=>#[v,y,r,j,q]
def wv5(A:PE X o ta)(r:PE X value tv)(t:X7 value (some (.Attribute o f pos')) pos.line X.env=pure false):PS X (.Assign [.Attribute o f pos'] value pos) (FF X.K ta tv f):=by
 intro pins s g H D I h
 (apply plainObj_wpAny_Assign_Attribute (aZ (r pins s g H _ I h) ?_) t;rintro u i ⟨y,J,G,j,q⟩;apply aZ (A pins i g J _ G q) ?_;rintro p M ⟨x,Q,E,k,a,C,O,N,ex,B,c,n,l,m⟩)
 subst ex;obtain rfl:p=E7 a:=k;exact uk7 E B c n l j λL I3=>#[g,_,I3,m]
def va7{op:Operator}{rd:V->V->Hp->VK->Prop}(N:PE X o ta)(M:PE X value tv)(i:XB X op rd):PS X (.AugAssign (.Attribute o f pd) op value pos) (va2 X.K ta tv rd f):=by
 intro pins s g H D I h
 (apply wpAny_AugAssign_AttributeAny (aZ (N pins s g H _ I h) ?_);rintro J s1 ⟨x,Z,U,A,a,C,dx,fs,v,ex,O,c,n,l,q⟩)
 subst ex;obtain rfl:J=E7 a:=A;apply ul3 U O c n l λu p S B=>aZ (M pins p g Z _ S q) λk m ⟨y,Y,I3,t,G⟩=>aZ (i pins m g Y v y u k _ I3 B t G) λw4 s4 ⟨z,H3,R,r,uw,fe,j,L,E⟩=>?_;exact uk7 R j c n L r λs5 Q=>#[g,_,Q,E]
end
section
variable{X:Cx}{pins:List (Addr×Obj)}{σ:St}{H:Hp}{s:Shared}{A:Around}{E:Value->Shared->Prop}{Q:Value->Shared->Prop}{c:Value}{b:Bool}
inductive iT(K:W.Frag)(H:Hp):V->Value->Prop where
 | non:iT K H .non (.type "NoneType")
 | bl (x:Bool):iT K H (.bl x) (.type "bool")
 | int (i:Int):iT K H (.int i) (.type "int")
 | str (x:Str):iT K H (.str x) (.type "str")
 | wM (x:UInt64):iT K H (.wM x) (.type "float")
 | lst {a:Addr} {xs:List V} (e:H a=some (.lst xs)):iT K H (.ref a) (.type "list")
 | dj {a:Addr} {o:Obj} {xs:List V} (e:H a=some (.dj o (.lst xs))):iT K H (.ref a) (.type "list")
 | tup {a:Addr} {xs:List V} (e:H a=some (.tup xs)):iT K H (.ref a) (.type "tuple")
 | dK {a:Addr} {kvs:List (Key×V)} (e:H a=some (.dK kvs)):iT K H (.ref a) (.type "dict")
 | dT {a:Addr} {kvs:List (List Key×V)} (e:H a=some (.dT kvs)):iT K H (.ref a) (.type "dict")
 | ins {a C h:Addr} {g:List (Str×V)} (e:H a=some (.ins C h g)) (m:jB K C) (l:W.findIn K (.ref C) "__class__" = some (some (.builtin "object.__class__")))
   (j:W.specialIn K (.builtin "object.__class__") "__get__" = some (some (.builtin "getset_descriptor.__get__"))) (f:W.takesIn K (.builtin "object.__class__")=some true)
   (k:W.mroIn K C (.type "object")=some true):iT K H (.ref a) (.ref C)
def y_(I:Inv X pins σ H s)(f:RelV x u)(ty:iT X.K H x t)(e:W.kitOne X.K t c=some b)(h:∀tk,Q (.bool b) { s with toks:=tk}): wpAny (model X.prog X.w) A (call (.builtin "isinstance") [u,c]) Q E s:=by
 cases ty with
 | non=>cases(show u=W6 from f);exact W.kia_one W.kitx_none I.iN P7 e (λz=>nomatch z) h
 | bl y=>cases(show u=OB y from f);exact W.kia_one W.kitx_bool I.iN P7 e (λz=>nomatch z) h
 | int i=>let#[t,q]:=(show∃t,u=DS i t from f);cases q;exact W.kia_one W.kitx_int I.iN P7 e (λz=>nomatch z) h
 | str y=>let#[t,q]:=(show∃t,u=DR y t from f);cases q;exact W.kia_one W.kitx_str I.iN P7 e (λz=>nomatch z) h
 | wM y=>let#[t,q]:=(show∃t,u=Yd y t from f);cases q;exact W.kia_one W.kitx_float I.iN P7 e (λz=>nomatch z) h
 | @lst a xs g =>cases(show u=E7 a from f);let#[_,_,n,_,j]:=(show bg X.prog X.w H s.heap a (.lst xs) from I.aE a _ g);exact W.kia_one W.kitx_list I.iN #[_,j,rfl] e (λz=>nomatch z) h
 | @dj a r xs g =>cases(show u=E7 a from f);let#[_,_,_,n,_,j]:=(show bg X.prog X.w H s.heap a (.dj r (.lst xs)) from I.aE a _ g);exact W.kia_one W.kitx_list I.iN #[_,j,rfl] e (λz=>nomatch z) h
 | @tup a xs g =>cases(show u=E7 a from f);let#[_,_,_,p]:=(show bg X.prog X.w H s.heap a (.tup xs) from I.aE a _ g);let#[o,j,k,_]:=p;exact W.kia_one W.kitx_tuple I.iN #[o,j,k] e (λz=>nomatch z) h
 | @dK a kvs g =>cases(show u=E7 a from f);let#[_,_,R,_,p]:=(show bg X.prog X.w H s.heap a (.dK kvs) from I.aE a _ g);let#[o,M,N,j,k,_]:=p;exact W.kia_one W.kitx_dict I.iN #[o,j,k.1] e (λz=>nomatch z) h
 | @dT a kvs g =>cases(show u=E7 a from f);let#[_,_,xs,_,o,M,N,j,k,_]:=(show bg X.prog X.w H s.heap a (.dT kvs) from I.aE a _ g);exact W.kia_one W.kitx_dict I.iN #[o,j,k.1] e (λz=>nomatch z) h
 | @ins a C Y U g m L B l G =>cases(show u=E7 a from f);let#[S,O,_]:=ME I.aE g;let#[od,J,_]:=O.look;exact W.kia_one (W.kitx_own (m.get _) m.hd L B l G) I.iN J e (λz=>nomatch z) h
end
structure aQ(k:Nat)(A:Around):Prop where
 hd:A.handled=none
 dp:A.depth+3*k+5<recursionLimit
 un:A.units+16*k+200<cLine
def aQ.mono(r:aQ k A)(h:j<=k):aQ j A:=#[r.hd,by have:=r.dp;omega,by have:=r.un;omega]
theorem aQ.deeper(r:aQ (k+1) A)(env:Env):aQ k (A.deeper env):=#[r.hd,by have:=r.dp;show A.depth+1+3*k+5<_;omega,by have:=r.un;show A.units+3+16*k+200<_;omega]
theorem aQ.in1(r:aQ (k+1) A):aQ k A.in1:=#[r.hd,by have:=r.dp;show A.depth+3*k+5<_;omega,by have:=r.un;show A.units+1+16*k+200<_;omega]
def v48{A:Around}:(A.under (.builtin "type.__call__" #[.ref C::us,kw])).depth=A.depth+1:=by first|rfl|simp[Yj,Code.weight,Code.isCreation,Code.isGuard,Code.isCaller,C85,Yi,guardIds]
def v47{A:Around}:(A.under (.builtin "type.__call__" ⟨.ref C::us,kw⟩)).units=A.units+1:=by first|rfl|simp[Yj,Code.cUnits,C85,Yi]
def aQ.make(r:aQ (k+1) A)(C:Addr)(us:List Value)(kw:List (Str×Value)):aQ k (A.under (.builtin "type.__call__" ⟨.ref C::us,kw⟩)):=⟨r.hd,by have:=r.dp;rw[v48];omega,by have:=r.un;rw[v47];omega⟩
theorem aQ.depth(r:aQ k A):A.depth<recursionLimit:=by have:=r.dp;omega
theorem aQ.units(r:aQ k A):A.units+64<cLine:=by have:=r.un;omega
def xF:TA:=λ_ H Q=>Q [] H
def Sf(h:TE)(g:TA):TA:=λf H Q=>h f H λx j=>g f j λxs i=>Q (x::xs) i
section
variable{X:Cx}{e:Expr}{es:List Expr}{te:TE}{t:TA}{pos:Pos}
def w05:PA X [] xF:=λ_ _ _ _ H Q I h=>T7 #[[],H,I,.nil,h]
def vb6(o:PE X e te)(n:PA X es t)(m:D0 (e::es) X.env=(false,eval e X.env)::D0 es X.env:=by rfl):PA X (e::es) (Sf te t):=by
 intro pos pins s f H Q I h;rw[m];show wpAny _ _ (spliced ((false,eval e X.env)::backTo pos (D0 es X.env))) _ _ s
 (apply P8 (aZ (o pins s f H _ I h) ?_);rintro u g ⟨x,y,q,j,l⟩)
 (apply aZ (n pos pins g f y _ q l) ?_;rintro A B ⟨xs,r,p,i,k⟩;exact#[x::xs,r,p,.cons j i,k])
def Fj(t:TA):TE:=λg H Q=>t g H λxs f=>xs.length<=sizeLine/\∀p,f p=none->Q (.ref p) (upd f p (.tup xs))
def Fs(t:TA):TE:=λg H Q=>t g H λxs f=>xs.length<=sizeLine/\∀p,f p=none->Q (.ref p) (upd f p (.lst xs))
def ww2{k}(h:PA X es t):PE X (.Tuple es k pos) (Fj t):=by intro pins s j H Q I m;apply wpAny_Tuple_spliced (aZ (h pos pins s j H _ I m) λl f ⟨xs,i,g,r,z,q⟩=>#[by rw[<- r.length];exact z,?_]);have n:i f.heap.objs.size=none:=g.aE.fresh (B9 _);apply#[.ref f.heap.objs.size,upd i f.heap.objs.size (.tup xs),g.laid (t':=f.toks) (λb u e=>B8 _ e) (B9 _) ?_,rfl,q _ n];exact#[z,l,r,#[_,E1 _ rfl,rfl,#[_,rfl],rfl]]
def ww6(h:PA X es t):PE X (.List es pos) (Fs t):=by intro pins s j H Q I l;apply wpAny_List_spliced (aZ (h pos pins s j H _ I l) λk f ⟨xs,i,g,r,z,q⟩=>#[by rw[<- r.length];exact z,?_]);have m:i f.heap.objs.size=none:=g.aE.fresh (B9 _);apply#[.ref f.heap.objs.size,upd i f.heap.objs.size (.lst xs),g.laid (t':=f.toks) (λb u e=>B8 _ e) (B9 _) ?_,rfl,q _ m];exact#[z,k,0,r,E1 _ rfl]
end
abbrev Sp:=List V->Hp->VK->XK->Prop
abbrev wb:=List Env->Hp->Shared->XK->Value->Shared->Prop
structure jY(P:Program)(w:World)(K:W.Frag)(mg:Str->Option Value)(base:Heap)(A:Around)(outer:List Env)(s:Shared)(H:Hp):Prop where
 frames:A.frames=some outer
 mod:Mod K mg base
 bs:∀b o,base.get? b=some o->s.heap.get? b=some o/\H b=none
 uB:base.objs.size<=s.heap.objs.size
 iz:s.heap.FunFrames base outer
 zw:∀b∈sD outer,H b=none
 aE:gm P w H s.heap
 bare:yL s.gens
def CE(outer:List Env)(P:Program)(w:World)(H:Hp)(s:Shared)(Q:VK)(u:Value)(f:Shared):Prop:=∃v g,f.os=s.os/\yL f.gens/\Un (sD outer) [] H g s.heap f.heap/\gm P w g f.heap/\RelV v u/\Q v g
def CR(CX:wb)(outer:List Env)(P:Program)(w:World)(H:Hp)(s:Shared)(Q:VK)(E:XK)(r:Result)(f:Shared):Prop:=
 match r with
 | .ok (.ret u)=>CE outer P w H s Q u f| .ok _=>False| .error e=>CX outer H s E e f
structure bz(P:Program)(w:World)(K:W.Frag)(mg:Str->Option Value)(base:Heap)(CX:wb)(k:Nat)(f:Addr)(fd:wY)(ps:List Str)(sp:Sp):Prop where
 len:∀vs H Q E,sp vs H Q E->vs.length=ps.length
 run:∀(A:Around) (outer:List Env) (s:Shared) (H:Hp) (args:Args) (us:List Value) (vs:List V) (Q:VK) (E:XK),aQ k A->jY P w K mg base A outer s H->Cp s fd args (ps.zip us)->Vals vs us->sp vs H Q E ->
  sO (model P w) A (.call (.ref f) args) (CR CX outer P w H s Q E) s
theorem bz.mono{P:Program}{w:World}{K:W.Frag}{mg:Str->Option Value}{base:Heap}{CX:wb}{j k:Nat}{f:Addr}{i:wY}{ps:List Str}{sp:Sp}(F:bz P w K mg base CX j f i ps sp)(h:j<=k): bz P w K mg base CX k f i ps sp:=#[F.len,λA g s H args m l Q E n=>F.run A g s H args m l Q E (n.mono h)]
def bz.imp{P:Program}{w:World}{K:W.Frag}{mg:Str->Option Value}{base:Heap}{CX:wb}{k:Nat}{f:Addr}{j:wY}{ps:List Str}{sp i:Sp}(F:bz P w K mg base CX k f j ps sp) (h:∀vs H Q E,i vs H Q E->sp vs H Q E):bz P w K mg base CX k f j ps i:=#[λvs H Q E q=>F.len vs H Q E (h _ _ _ _ q),λA g s H args l vs Q E o p r m n=>F.run A g s H args l vs Q E o p r m (h _ _ _ _ n)]
def jY.make{P:Program}{w:World}{K:W.Frag}{mg:Str->Option Value}{base:Heap}{A:Around}{outer:List Env}{s:Shared}{H:Hp}(e:jY P w K mg base A outer s H)(C:Addr)(us:List Value)(kw:List (Str×Value)): jY P w K mg base (A.under (.builtin "type.__call__" #[.ref C::us,kw])) outer s H:=#[by first|exact e.frames|(simpa[Yj,Code.envs,Yi,pushEnvs] using e.frames),e.mod,e.bs,e.uB,e.iz,e.zw,e.aE,e.bare]
theorem jY.in1{P:Program}{w:World}{K:W.Frag}{mg:Str->Option Value}{base:Heap}{A:Around}{outer:List Env}{s:Shared}{H:Hp}(e:jY P w K mg base A outer s H): jY P w K mg base A.in1 outer s H:=#[e.frames,e.mod,e.bs,e.uB,e.iz,e.zw,e.aE,e.bare]
section
variable{X:Cx}{pins:List (Addr×Obj)}{σ:St}{H:Hp}{s s':Shared}
def Inv.Jf(I:Inv X pins σ H s):jY X.prog X.w X.K X.mg X.base X.A X.stack s H:=#[I.ok.frames,I.ok.mod,I.bs,D3 I.ok.uB I.sz,I.stack,I.qG,I.aE,I.bare]
def Inv.after(I:Inv X pins σ H s)(h:CE X.stack X.prog X.w H s Q u s'):EP X pins σ Q u s':=by let#[v,l,os,f,un,k,r,q]:=h;let#[j,g,d,t,i]:=s';obtain rfl:i=s.os:=os;exact#[v,l,I.call (h':=j) (g':=g) (d':=d) (t':=t) (ch:=[]) un k f (λb z=>absurd z (by simp)),r,q]
end
def ZU(sp:Sp)(eL:List V)(E:XK)(t:TA):TE:=λf H Q=>t f H λg h=>sp (g++eL) h Q E
def Sh(C:Addr)(m:Str)(sp:Sp)(eL:List V)(E:XK)(j:TE)(t:TA):TE:=λf H Q=>j f H λx h=>∃a k g,x=.ref a/\h a=some (.ins C k g)/\g.lookup m=none /\
 t f h λi l=>sp (x::(i++eL)) l Q E
def ZX(C:Addr)(sp:Sp)(eL:List V)(E:XK)(t:TA):TE:=λh H Q=>t h H λi g=>∀x f,g x=none->g f=none->f≠x ->
 sp (.ref x::(i++eL)) (upd (upd g f (.own x)) x (.ins C f [])) (λv j=>v=.non/\Q (.ref x) j) E
def Binds(K:W.Frag)(g:wY)(ps:List Str)(ds:List Value):Prop:=∀(s:Shared) (f:List Value),K.In s.heap->(f++ds).length=ps.length->Cp s g #[f,[]] (ps.zip (f++ds))
def Binds.all{K:W.Frag}{g:wY}{ps:List Str}(h:∀us:List Value,us.length=ps.length->Ot g #[us,[]]=pure (ps.zip us)):Binds K g ps []:=λs us _ f=>by rw[E5] at f⊢;exact .of_eq (h us f)
def Passes(CX:wb)(X:Cx)(E:XK):Prop:=∀(pins:List (Addr×Obj)) (g:St) (H:Hp) (s:Shared) (e:Value) (f:Shared),Inv X pins g H s->CX X.stack H s E e f->X.xe e f
section
variable{X:Cx}{CX:wb}{k:Nat}{f C:Addr}{fd:wY}{ps:List Str}{sp:Sp}{eL:List V}{ds:List Value}{E:XK}{x m:Str}{p pos apos:Pos}{e o:Expr}{es:List Expr}{ta:TE}{t:TA}
def SR{pins:List (Addr×Obj)}{i:St}{H:Hp}{s:Shared}{Q:VK}{us:List Value}{vs:List V}(F:bz X.prog X.w X.K X.mg X.base CX k f fd ps sp)(q:aQ k X.A)(G:Binds X.K fd ps ds)(B:Vals eL ds)(n:Passes CX X E) (I:Inv X pins i H s) (r:Vals vs us) (h:sp (vs++eL) H Q E):wpAny (model X.prog X.w) X.A (call (.ref f) us) (EP X pins i Q) X.xe s:=by
 have j:Vals (vs++eL) (us++ds):=r.append B;have y:(us++ds).length=ps.length:=by rw[<- j.length];exact F.len _ _ _ _ h
 apply wpAny_call (OE (F.run X.A X.stack s H #[us,[]] (us++ds) (vs++eL) Q E q I.Jf (G s us I.iN y) j h) λr l g=>?_);cases r with
 | error e=>exact n pins i H s e l I g| ok J =>
  cases J with
  | ret u=>exact I.after g| next=>exact P6 g| brk=>exact P6 g| cont=>exact P6 g
def wg9(F:bz X.prog X.w X.K X.mg X.base CX k f fd ps sp)(u:aQ k X.A)(G:Gl X x)(y:X.mg x=some (.ref f))(B:W.keepIn X.K (.ref f)=true)(M:Binds X.K fd ps ds)(L:Vals eL ds)(n:Passes CX X E) (N:PA X (e::es) t) (l:(x==("__debug__" :Str))=false:=by decide) (J:D0 (e::es) X.env=(false,eval e X.env)::D0 es X.env:=by rfl) (O:(backTo pos (D0 es X.env)).any (·.1)=false:=by rfl):
  PE X (.Call (.Name x p) (e::es) [] pos) (ZU sp eL E t):=by
 intro pins s j H Q I h;apply M8 (Tn I G y ?_ l)
 (apply W.callWith_K (h₀:=X.base) I.ok.mod.HV B (aZ (N pos pins s j H _ I h) ?_) J O;rintro S U ⟨R,Y,i,r,q⟩;apply#[i.iN,?_])
 exact SR F u M L n i r q
def wg3{pl:Sem Bool}(Y:PE X o ta)(c:jB X.K C)(B:Meth X.K C m f)(F:bz X.prog X.w X.K X.mg X.base CX k f fd ps sp)(U:aQ k X.A)(hb:Binds X.K fd ps ds)(Z:Vals eL ds)(R:Passes CX X E)(ha:PA X (e::es) t) (O:D0 (e::es) X.env=(false,eval e X.env)::D0 es X.env:=by rfl) (cw:(backTo pos (D0 es X.env)).any (·.1)=false:=by rfl)
  (S:eval (.Call (.Attribute o m apos) (e::es) [] pos) X.env=(do
   let n <- eval o X.env
   wW apos.atName
   let (f,first) <- holding [n] (Ak n m pl)
   DP pos f first (backTo pos (D0 (e::es) X.env)) (W4 pos (O7 [] X.env))):=by rfl):
  PE X (.Call (.Attribute o m apos) (e::es) [] pos) (Sh C m sp eL E ta t):=by
 intro pins s g H Q I h
 (apply W.methodCall_KW (pl:=pl) (aZ (Y pins s g H _ I h) ?_) S;rintro u L ⟨x,H1,J,M,a,dx,fs,ex,ea,l,q⟩)
 subst ex;obtain rfl:u=E7 a:=M;apply ul2 J ea c B l ?_
 (apply W.callWith_K (first:=[.ref a]) (h₀:=X.base) I.ok.mod.HV B.kp (aZ (ha pos pins L g H1 _ J q) ?_) O cw;rintro j s2 ⟨i,H2,G,r,N⟩;apply#[G.iN,?_])
 exact SR (us:=.ref a::j) (vs:=.ref a::i) F U hb Z R G (.cons rfl r) N
def vp0(J:PE X o ta)(c:jB X.K C)(j:Meth X.K C m f)(F:bz X.prog X.w X.K X.mg X.base CX k f fd ps sp)(G:aQ k X.A)(M:Binds X.K fd ps ds)(L:Vals eL ds)(y:Passes CX X E)
  (B:eval (.Call (.Attribute o m apos) [] [] pos) X.env=(do
   let i <- eval o X.env
   wW apos.atName
   let (f,first) <- holding [i] (Ak i m pl)
   DP pos f first (backTo pos (D0 [] X.env)) (W4 pos (O7 [] X.env))):=by rfl):
  PE X (.Call (.Attribute o m apos) [] [] pos) (Sh C m sp eL E ta xF):=by
 intro pins s n H Q I h
 (apply W.methodCall_KW (pl:=pl) (aZ (J pins s n H _ I h) ?_) B;rintro u S ⟨x,Z,g,r,a,Y,U,ex,N,l,q⟩)
 subst ex;obtain rfl:u=E7 a:=r;apply ul2 g N c j l ?_;exact W.callWith_K0 (first:=[.ref a]) g.iN j.kp (SR (us:=[.ref a]) (vs:=[.ref a]) F G M L y g (.cons rfl .nil) q)
structure Mk(K:W.Frag)(C f:Addr):Prop where
 makes:W.makesIn K C=true
 init:W.findIn K (.ref C) "__init__" = some (some (.ref f))
 fn:W.isFn K (.ref f)=true
 kp:W.keepIn K (.ref C)=true
def vn5(M:Mk X.K C f)(F:bz X.prog X.w X.K X.mg X.base CX k f fd ps sp)(L:aQ (k+1) X.A)(R:Binds X.K fd ps ds)(O:Vals eL ds) (J:Passes CX X E) (I:Inv X pins l H s) (r:Vals vs us) (h:∀x i,H x=none->H i=none->i≠x->sp (.ref x::(vs++eL)) (upd (upd H i (.own x)) x (.ins C i [])) (λv U=>v=.non/\Q (.ref x) U) E): wpAny (model X.prog X.w) X.A (call (.ref C) us) (EP X pins l Q) X.xe s:=by
 have q:=h (s.heap.objs.size+1) s.heap.objs.size (I.aE.fresh (U8 _)) (I.aE.fresh (B9 _)) (J0 (R4 _));have j:=Inv.made (C:=C) I;have n:Vals (V.ref (s.heap.objs.size+1)::(vs++eL)) (E7 (s.heap.objs.size+1)::(us++ds)):=.cons rfl (r.append O);have N:(E7 (s.heap.objs.size+1)::us++ds).length=ps.length:=by have e:=n.length;rw[F.len _ _ _ _ q] at e;exact e.symm
 apply wpAny_call (vq3 (f:=f) I.iN M.makes M.init (beq_iff_eq.mp M.fn) (OE (F.run _ X.stack _ _ #[E7 (s.heap.objs.size+1)::us,[]] (E7 (s.heap.objs.size+1)::(us++ds)) _ _ E (L.make C us [])
  (j.Jf.make C us []) (R _ (E7 (s.heap.objs.size+1)::us) j.iN N) n q) λr y g=>?_))
 cases r with
 | error e=>exact J pins l _ _ e y j g| ok S =>
  cases S with
  | ret u =>let#[v,Y,I3,B,ev,G]:=j.after g;subst ev;exact#[B,#[V.ref (s.heap.objs.size+1),Y,I3,rfl,G]]| next=>exact P6 g| brk=>exact P6 g| cont=>exact P6 g
def wg4(M:Mk X.K C f)(F:bz X.prog X.w X.K X.mg X.base CX k f fd ps sp)(u:aQ (k+1) X.A)(B:Gl X x)(y:X.mg x=some (.ref C))(L:Binds X.K fd ps ds)(J:Vals eL ds)(n:Passes CX X E) (N:PA X (e::es) t) (l:(x==("__debug__" :Str))=false:=by decide) (G:D0 (e::es) X.env=(false,eval e X.env)::D0 es X.env:=by rfl) (O:(backTo pos (D0 es X.env)).any (·.1)=false:=by rfl):
  PE X (.Call (.Name x p) (e::es) [] pos) (ZX C sp eL E t):=by
 intro pins s j H Q I h;apply M8 (Tn I B y ?_ l)
 (apply W.callWith_K (h₀:=X.base) I.ok.mod.HV M.kp (aZ (N pos pins s j H _ I h) ?_) G O;rintro S U ⟨R,Y,i,r,q⟩;apply#[i.iN,?_])
 exact vn5 M F u L J n i r q
end
structure af(N P:List Str)(sc:Scope):Prop where
 kind:sc.kind=.function
 co:sc.isCoroutine=false
 gen:sc.isGenerator=false
 nd:N.Nodup
 pre:N.take P.length=P
 par:∀x∈P,sc.names.lookup x=some .local\/sc.names.lookup x=some .cell
 Bf:∀y∈sc.names,y.2≠.free
theorem ut8{kindOf:Str->Option F7}{x:Str}:∀{binds:List (Str×Value)} {m:Str->Option Value},(∀v,(x,v)∉binds)->bindL kindOf binds m x=m x
 | [],_,_=>rfl| (n,v)::r,m,h=>by
  unfold bindL;rw[ut8 λw hw=>h w (C2 _ hw)];split
  .have:x≠n:=by rintro rfl;exact h v C6
   simp[this]
  .rfl
theorem uu0{kindOf:Str->Option F7}{x:Str}:∀{binds:List (Str×Value)} {m:Str->Option Value},(∀v,(x,v)∉binds)->bindC kindOf binds m x=m x
 | [],_,_=>rfl| (n,v)::r,m,h=>by
  unfold bindC;rw[uu0 λw hw=>h w (C2 _ hw)];split
  .rfl
  .have:x≠n:=by rintro rfl;exact h v C6
   simp[this]
theorem ut9{kindOf:Str->Option F7}{x:Str}{v:Value}:∀{P:List Str} {vs:List Value} {i:Nat} {m:Str->Option Value},P.Nodup->P[i]?=some x->vs[i]?=some v->kindOf x=some .local -> bindL kindOf (P.zip vs) m x=some v
 | [],_,_,_,_,h,_,_=>by simp at h| _::_,[],_,_,_,_,h,_=>by simp at h| p::P,w::vs,0,m,j,g,f,k=>by simp at g f;subst g;subst f;show bindL kindOf ((p,w)::P.zip vs) m p=_;unfold bindL;rw[ut8 λv l=>(N0.mp j).1 (YD l).1,if_pos k];simp| p::P,w::vs,i+1,m,j,g,f,k=>by show bindL kindOf ((p,w)::P.zip vs) m x=_;unfold bindL;exact ut9 (i:=i) (N0.mp j).2 (by simpa using g) (by simpa using f) k
theorem uu1{kindOf:Str->Option F7}{x:Str}{v:Value}:∀{P:List Str} {vs:List Value} {i:Nat} {m:Str->Option Value},P.Nodup->P[i]?=some x->vs[i]?=some v->kindOf x≠some .local -> bindC kindOf (P.zip vs) m x=some v
 | [],_,_,_,_,h,_,_=>by simp at h| _::_,[],_,_,_,_,h,_=>by simp at h| p::P,w::vs,0,m,j,g,f,k=>by simp at g f;subst g;subst f;show bindC kindOf ((p,w)::P.zip vs) m p=_;unfold bindC;rw[uu0 λv l=>(N0.mp j).1 (YD l).1,if_neg k];simp| p::P,w::vs,i+1,m,j,g,f,k=>by show bindC kindOf ((p,w)::P.zip vs) m x=_;unfold bindC;exact uu1 (i:=i) (N0.mp j).2 (by simpa using g) (by simpa using f) k
def start(N:List Str)(vs:List V):St:=vs.map some++D6 (N.length-vs.length) none
def qq(CX:wb)(P:Program)(w:World)(K:W.Frag)(mg:Str->Option Value)(base:Heap)(N:List Str)(g:Str)(scope:Scope)(f:Addr)(cd:Value)(A:Around)(outer:List Env)(s:Shared)(H:Hp)(E:XK):Cx where
 prog:=P
 w:=w
 K:=K
 mg:=mg
 base:=base
 A:=A.deeper (envOfC g scope s.heap.objs.size f cd)
 N:=N
 s₀:=s
 H₀:=H
 env:=envOfC g scope s.heap.objs.size f cd
 outer:=outer
 stack:=envOfC g scope s.heap.objs.size f cd::outer
 ex:=[]
 calm:=true
 fn:=λ_=>true
 pn:=[]
 xe:=λe m=>wpAny (model P w) (A.deeper (envOfC g scope s.heap.objs.size f cd)) (leaving (envOfC g scope s.heap.objs.size f cd) e) (λ_ h=>CX outer H s E e h) (λn h=>CX outer H s E n h) m
def v25{f:Scope}(h:f.names.lookup x=some .cell):∃c,(XM n f.names []).lookup x=some c:=by have q:=W.cellsFrom_some f.names n [] (.inl h);exact Option.isSome_iff_exists.mp q
def vg0{CX:wb}{P:Program}{w:World}{K:W.Frag}{mg:Str->Option Value}{base:Heap}{N ps:List Str}{g:Str}{scope:Scope}{f:Addr}{cd:Value}{A:Around}{outer:List Env}{s C:Shared}{H:Hp}{E:XK}{us:List Value}{vs:List V} (S:af N ps scope) (L:A.handled=none) (l:jY P w K mg base A outer s H) (Q:vs.length=ps.length) (r:Vals vs us) (x:InCallC s s.heap.objs.size (bindL (envOfC g scope s.heap.objs.size f cd).kindOf (ps.zip us) λ_=>none) (XM (s.heap.objs.size+1) scope.names []) (bindC (envOfC g scope s.heap.objs.size f cd).kindOf (ps.zip us) λ_=>none) C): Inv (qq CX P w K mg base N g scope f cd A outer s H E) [] (start N vs) H C:=by
 have U:ps.length<=N.length:=by have:=congrArg J1 S.pre;rw[Q0] at this;omega
 let#[t,O,rfl,I]:=x.done;have B:∀b:Addr,b∉(qq CX P w K mg base N g scope f cd A outer s H E).ex:=λb z=>absurd (show b∈([]:List Addr) from z) (by simp);apply#[#[l.mod,S.kind,rfl,rfl,B9 _,λy z c t j=>?_,λy hy=>?_,λy c _ h=>?_,λ_=>L,Around.frames_deeper l.frames,.inr #[rfl,rfl],λb z=>absurd z (B b),l.bs,l.uB,λb _ _=>B b,λb z=>absurd z (B b),l.iz,l.zw],
  rfl,l.bare,Un.kept I,#[_,x.toInCall.ns,λi y v t j R=>?_],λy c h=>#[_,x.cell y c h],l.aE.fresh (B9 _),λy c h=>?_,λp o=>absurd (show p∈([]:List (Addr×Obj)) from o) (by simp),l.aE.kept I,?_]
 .exact name_of_addr x.apart (Q7 t) (Q7 j)
 .have hy:scope.names.lookup y=some .cell\/scope.names.lookup y=some .free:=hy;rcases hy with hy|hy
  .exact v25 hy
  .exact absurd rfl (S.Bf _ (Q7 hy))
 .exact P4 (x.above y c (Q7 h))
 .have hi:i<vs.length:=by
   unfold start at j;by_cases hi:i<vs.length
   .exact hi
   .rw[E6 (by simpa using hi)] at j;rw[B10] at j;split at j <;> cases j
  have M:vs[i]?=some v:=by
   unfold start at j;rw[F9 (by simpa using hi),F8] at j;cases e:vs[i]? with
   | none=>rw[e] at j;cases j
   | some a=>rw[e] at j;cases j;rfl
  let#[u,G,J]:=r.get M;have o:ps[i]?=some y:=by rw[<- S.pre,List.getElem?_take_of_lt ()];exact t
  have m:ps.Nodup:=by rw[<- S.pre];exact S.nd.sublist (List.take_sublist _ _)
  apply#[u,J,?_];rcases S.par y (K9 o) with k|k
  .exact .inl ⟨k,ut9 m o G k⟩
  .let#[c,e]:=v25 (n:=s.heap.objs.size+1) k;apply .inr #[.inl k,c,e,?_];have q:=x.cell y c e;rw[uu1 m o G (by show scope.names.lookup y≠_;rw[k];decide)] at q;exact q
 .exact l.aE.fresh (P4 (x.above y c (Q7 h)))
 .unfold start;show _=N.length;rw[B4,B0,Y7];omega
def xj1{CX:wb}{P:Program}{w:World}{K:W.Frag}{mg:Str->Option Value}{base:Heap}{k:Nat}{f:Addr}{name g:Str}{params:Arguments}{body:List Stmt}{scope:Scope}{O kV doc M j ct oc:Value}{an od:Option Addr} {X:Array (Option Value)} {N ps:List Str} {sp:Sp} (lk:K.lookup f=some #[oc,od,.func (W.fnOf name g params body scope O kV doc M an j ct),X]) (Z:W.codeIn K j g=true) (S:af N ps scope) (len:∀vs H Q E,sp vs H Q E->vs.length=ps.length) (IZ:∀(A:Around) (outer:List Env) (s:Shared) (H:Hp) (vs:List V) (Q:VK) (E:XK),aQ k (A.deeper (envOfC g scope s.heap.objs.size f j))->sp vs H Q E -> ∃t,oS (qq CX P w K mg base N g scope f j A outer s H E) body t/\t { nx:=λ_ i=>Q .non i,rt:=Q} (start N vs) H): bz P w K mg base CX (k+1) f (W.fnOf name g params body scope O kV doc M an j ct) ps sp:=by
 apply#[len,λA outer s H args Y vs Q E G m hb r U=>?_];have hl:=len _ _ _ _ U;have R:K.In s.heap:=m.mod.HV.keeps λb o e=>(m.bs b o e).1;have C:s.heap.NoLimit:=m.mod.nolimit.keeps λb o e=>(m.bs b o e).1;have IL:∀y∈ps.zip Y,scope.names.lookup y.1=some .local\/(scope.names.lookup y.1=some .cell/\((XM (s.heap.objs.size+1) scope.names []).lookup y.1).isSome=true):=λ⟨n,v⟩ hy=>by
  rcases S.par n (YD hy).1 with q|q
  .exact .inl q
  .exact .inr ⟨q,W.cellsFrom_some _ _ _ (.inl q)⟩
 apply codeAny_call_function G.depth (R _ _ lk) rfl S.co S.gen rfl (W.codeRec_of R Z) (hb _ _ _ _ ?_);apply wpAny_newFunctionEnv_cells S.kind IL λenv he L x=>?_;subst he;apply#[C.keeps x.toInCall.keep,codeAny_func ?_];let#[t,ht,hq]:=IZ A outer s H vs Q E (G.deeper _) U;have I:Inv (qq CX P w K mg base N g scope f j A outer s H E) [] (start N vs) H L:=vg0 S G.hd m hl r x;apply Q6 (ht [] L (start N vs) H _ I hq) (λfl p l=>?_) λe p l=>l;have fin:∀{h:St} {i:Hp} {v:V} {u:Value},Inv (qq CX P w K mg base N g scope f j A outer s H E) [] h i p->RelV v u->Q v i->CE outer P w H s Q u p:=
  λ{h i v u} J B q=>#[v,i,J.os,J.bare,J.base,J.aE,B,q]
 cases fl with
 | ret u =>let#[v,h,i,J,B,q]:=l;exact fin J B q| next =>let#[h,i,J,q]:=l;exact fin (v:=V.non) (u:=W6) J rfl q| brk =>let#[_,_,_,q]:=l;exact P6 q| cont =>let#[_,_,_,q]:=l;exact P6 q
section
variable{X:Cx}{x:Str}{p pos:Pos}{e:Expr}{es:List Expr}{t:TA}{id T:String}{r:List V->Hp->VK->Prop}
def UE(r:List V->Hp->VK->Prop)(t:TA):TE:=λf H Q=>t f H λg h=>r g h Q
def vp8(A:bG X (.builtin id) r)(u:Gl X x)(q:X.mg x=none)(n:Q5 x=some (.builtin id))(B:PA X (e::es) t)(o:x ≠ "__name__" := by decide)(m:(x==("__debug__" :Str))=false:=by decide)
  (y:D0 (e::es) X.env=(false,eval e X.env)::D0 es X.env:=by rfl) (C:(backTo pos (D0 es X.env)).any (·.1)=false:=by rfl):PE X (.Call (.Name x p) (e::es) [] pos) (UE r t):=by
 intro pins s f H Q I h;apply M8 (rX I u q n ?_ o m)
 (apply B99 (aZ (B pos pins s f H _ I h) ?_) y C;rintro i j ⟨g,G,E,k,l⟩;exact A pins j f G g i Q E k l)
def us1(A:bG X (.type T) r)(u:Gl X x)(q:X.mg x=none)(n:Q5 x=some (.type T))(B:PA X (e::es) t)(o:x ≠ "__name__" := by decide)(m:(x==("__debug__" :Str))=false:=by decide)
  (y:D0 (e::es) X.env=(false,eval e X.env)::D0 es X.env:=by rfl) (C:(backTo pos (D0 es X.env)).any (·.1)=false:=by rfl):PE X (.Call (.Name x p) (e::es) [] pos) (UE r t):=by
 intro pins s f H Q I h;apply M8 (rX I u q n ?_ o m)
 (apply J6 (aZ (B pos pins s f H _ I h) ?_) y C;rintro i j ⟨g,G,E,k,l⟩;exact A pins j f G g i Q E k l)
end
section
variable{κ:Type}[DecidableEq κ]
def c8(kvs:List (κ×V))(k:κ):Option V:=(kvs.find? λf=>decide (f.1=k)).map (·.2)
def putK(kvs:List (κ×V))(k:κ)(v:V):List (κ×V):=if(kvs.any λf=>decide (f.1=k))=true then kvs.map (λf=>if f.1=k then(f.1,v) else f) else kvs++[(k,v)]
def yQ(kvs:List (κ×V))(k:κ):List (κ×V):=kvs.filter λf=>decide (f.1≠k)
def CZ{p:κ×V}{r:List (κ×V)}{k:κ}(e:p.1=k):c8 (p::r) k=some p.2:=by simp[c8,L4,e]
def CY{p:κ×V}{r:List (κ×V)}{k:κ}(e:¬ p.1=k):c8 (p::r) k=c8 r k:=by simp[c8,L4,e]
theorem Ug(k:κ):∀kvs:List (κ×V),(kvs.any λf=>decide (f.1=k))=(c8 kvs k).isSome
 | []=>rfl| p::r=>by
  rw[O0];by_cases e:p.1=k
  .simp only[CZ e,decide_eq_true e,OJ,Option.isSome_some]
  .rw[CY e,decide_eq_false e,D_];exact Ug k r
def AQ(kvs:List (κ×V))(k:κ)(v:V):(putK kvs k v).length<=kvs.length+1:=by
 unfold putK;split
 .rw[B0];omega
 .rw[B4,C1,Pl];omega
def dz.iq(r:dz o u):o.isSome=u.isSome:=by
 cases o with
 | none=>cases u with
  | none=>rfl| some _=>exact(show False from r).elim
 | some _=>cases u with
  | none=>exact(show False from r).elim| some _=>rfl
theorem dz.getD(r:dz o u)(rd:RelV d d'):RelV (o.getD d) (u.getD d'):=by
 cases o with
 | none=>cases u with
  | none=>exact rd| some _=>exact(show False from r).elim
 | some _=>cases u with
  | none=>exact(show False from r).elim| some _=>exact r
def KV.val{kvs:List (κ×V)}{vs:List (κ×Value)}(r:KV kvs vs)(k:κ):dz (c8 kvs k) (Aj vs k):=by
 unfold KV at r;induction r with
 | nil=>exact P7| @cons p q m f h t j =>
  let#[i,l]:=h;by_cases e:p.1=k
  .have g:q.1=k:=i.symm.trans e;have b:Aj (q::f) k=some q.2:=by simp[Aj,L4,g]
   rw[CZ e,b];exact l
  .have g:¬ q.1=k:=λz=>e (i.trans z);have b:Aj (q::f) k=Aj f k:=by simp[Aj,L4,g]
   rw[CY e,b];exact j
theorem KV.any{kvs:List (κ×V)}{vs:List (κ×Value)}(r:KV kvs vs)(k:κ):(kvs.any λf=>decide (f.1=k))=vs.any λf=>decide (f.1=k):=by
 unfold KV at r;induction r with
 | nil=>rfl| cons h t g=>rw[O0,O0,g,h.1]
def KV.tS(r:KV kvs vs)(k:κ)(i:RelV y u): KV (kvs.map λf=>if f.1=k then(f.1,y) else f) (vs.map λf=>if f.1=k then(f.1,u) else f):=by
 unfold KV at r⊢;induction r with
 | nil=>exact .nil| @cons p q n m h t j =>
  rw[C0,C0];apply .cons ?_ j;let#[g,l]:=h;by_cases e:p.1=k
  .rw[if_pos e,if_pos (g.symm.trans e)];exact#[g,i]
  .rw[if_neg e,if_neg (λz=>e (g.trans z))];exact#[g,l]
def KV.put(r:KV kvs vs)(k:κ)(f:RelV y u):KV (putK kvs k y) (stored vs k u):=by
 unfold putK stored;rw[r.any k];by_cases e:(vs.any λg=>decide (g.1=k))=true
 .rw[if_pos e,if_pos e];exact r.tS k f
 .rw[if_neg e,if_neg e];exact Yb r #[rfl,f]
def KV.drop(r:KV kvs vs)(k:κ):KV (yQ kvs k) (without vs k):=by
 unfold KV at r⊢;unfold yQ without;induction r with
 | nil=>exact .nil| @cons p q m l h t g =>
  let#[f,i]:=h;rw[Pe,Pe];by_cases e:p.1=k
  .have a:¬ decide (p.1≠k)=true:=by simp[e]
   have b:¬ decide (q.1≠k)=true:=by simp[f.symm.trans e]
   rw[if_neg a,if_neg b];exact g
  .have j:¬ q.1=k:=λz=>e (f.trans z);have a:decide (p.1≠k)=true:=by simp[e]
   have b:decide (q.1≠k)=true:=by simp[j]
   rw[if_pos a,if_pos b];exact .cons #[f,i] g
def KV.keys{kvs:List (κ×V)}{vs:List (κ×Value)}(r:KV kvs vs):kvs.map (·.1)=vs.map (·.1):=by
 unfold KV at r;induction r with
 | nil=>rfl| cons h t f=>rw[C0,C0,f,h.1]
theorem KV.length{kvs:List (κ×V)}{vs:List (κ×Value)}(r:KV kvs vs):kvs.length=vs.length:=OU r
def vt5(kvs:List (κ×V))(k:κ):(yQ kvs k).length<=kvs.length:=Y8 _ _
end
def AB{P:Program}{w:World}(r:RelV (kV k) u):(d_ P w).is k u=true:=by
 cases k with
 | inl i=>let#[t,e]:=(show∃t,u=DS i t from r);subst e;exact uv6 P w i t| inr x=>let#[t,e]:=(show∃t,u=DR x t from r);subst e;exact uv5 P w x t
theorem Na{P:Program}{w:World}:∀{ks:List Key} {us:List Value},Vals (ks.map kV) us->ItemsAre (d_ P w) ks us
 | [],_,r=>by rw[LJ] at r;cases r;exact .nil
 | k::ks,_,r=>by
  rw[C0] at r;cases r with
  | cons h t=>exact .cons (AB h) (Na t)
abbrev KT(H:Hp):List (List Key×V)->List (List Key×Addr×Value)->Prop:=Paired λp q=>p.1=q.1/\H q.2.1=some (.tup (p.1.map kV))/\RelV p.2 q.2.2
def KT.val{H:Hp}{kvs:List (List Key×V)}{xs:List (List Key×Addr×Value)}(r:KT H kvs xs)(k:List Key):dz (c8 kvs k) ((atKey xs k).map (·.2)):=by
 induction r with
 | nil=>exact P7| @cons p q m f h t j =>
  let#[i,_,l]:=h;by_cases e:p.1=k
  .have g:q.1=k:=i.symm.trans e;have b:atKey (q::f) k=some q.2:=by simp[atKey,L4,g]
   rw[CZ e,b];exact l
  .have g:¬ q.1=k:=λz=>e (i.trans z);have b:atKey (q::f) k=atKey f k:=by simp[atKey,L4,g]
   rw[CY e,b];exact j
def KT.tS(r:KT H kvs xs)(k:List Key)(j:RelV y u): KT H (kvs.map λg=>if g.1=k then(g.1,y) else g) (xs.map (putAt k u)):=by
 induction r with
 | nil=>exact .nil| @cons p q o n h t l =>
  rw[C0,C0];apply .cons ?_ l;let#[f,i,m]:=h;unfold putAt;by_cases e:p.1=k
  .rw[if_pos e,if_pos (f.symm.trans e)];exact#[f,i,j]
  .rw[if_neg e,if_neg (λz=>e (f.trans z))];exact#[f,i,m]
def KT.put(r:KT H kvs xs)(k:List Key)(h:H b=some (.tup (k.map kV)))(f:RelV y u): KT H (putK kvs k y) (Ol xs k b u):=by
 have e:(kvs.any λg=>decide (g.1=k))=(atKey xs k).isSome:=by rw[Ug,(r.val k).iq,YI]
 unfold putK Ol;rw[e];by_cases q:(atKey xs k).isSome=true
 .rw[if_pos q,if_pos q];exact r.tS k f
 .rw[if_neg q,if_neg q];exact Yb r #[rfl,h,f]
def KT.keeps(r:KT H kvs xs)(f:∀b ys,H b=some (.tup ys)->g b=some (.tup ys)):KT g kvs xs:=Paired.tZ r λ_ _ z=>#[z.1,f _ _ z.2.1,z.2.2]
section
variable{P:Program}{w:World}{H:Hp}{h:Heap}{a:Addr}
def qH(ok:gm P w H h)(e:Rd H a u):bg P w H h a u:=e.ok ok
def xj(ok:gm P w H h)(e:Rd H a (.dK kvs)):kvs.length<=sizeLine/\(a==Q4)=false/\∃vs,KV kvs vs/\h.DictOf (d_ P w) a vs:=show bg P w H h a (.dK kvs) from qH ok e
def El(ok:gm P w H h)(e:H a=some (.dK kvs)):kvs.length<=sizeLine/\(a==Q4)=false/\∃vs,KV kvs vs/\h.DictOf (d_ P w) a vs:=xj ok (.inl e)
def Mr{ks:List Key}(ok:gm P w H h)(e:H a=some (.tup (ks.map kV))):(DQ (d_ P w)).is h ks a:=by let#[_,its,r,o,i,g,#[n,f],_]:=(show bg P w H h a (.tup (ks.map kV)) from ok a _ e);exact#[o,its.toArray,n,i,g,f,by simpa using Na r]
def Em(ok:gm P w H h)(e:Rd H a (.dT kvs)):kvs.length<=sizeLine/\(a==Q4)=false /\ ∃xs,KT H kvs xs/\h.DictOfH (DQ (d_ P w)) a xs:=by
 let#[z,y,xs,r,o,A,B,u,n,k,j,i]:=(show bg P w H h a (.dT kvs) from qH ok e);apply#[z,y,xs,r,o,A,B,u,n,k,j,λx hx=>?_,i];have all:∀{l:List (List Key×V)} {m:List (List Key×Addr×Value)},KT H l m->∀x∈m,(DQ (d_ P w)).is h x.1 x.2.1:=by
  intro l m q;induction q with
  | nil=>intro x hx;exact nomatch hx| @cons p q E C f t g =>
   intro x hx;rcases D4.mp hx with e|hx
   .subst e;exact Mr ok (by rw[<- f.1];exact f.2.1)
   .exact g x hx
 exact all r x hx
def xj3(ok:gm P w H h)(e:H a=some (.dT kvs)):kvs.length<=sizeLine/\(a==Q4)=false /\ ∃xs,KT H kvs xs/\h.DictOfH (DQ (d_ P w)) a xs:=Em ok (.inl e)
end
def lP(H:Hp)(a:Addr)(y:V)(r:Option V):Prop:=(∃kvs k,Rd H a (.dK kvs)/\y=kV k/\r=c8 kvs k)\/∃kvs k b,Rd H a (.dT kvs)/\y=.ref b/\H b=some (.tup (k.map kV))/\r=c8 kvs k
def v_(H:Hp)(a:Addr)(y v:V)(f:Hp):Prop:=
 (∃kvs k,H a=some (.dK kvs)/\y=kV k/\kvs.length<sizeLine/\f=upd H a (.dK (putK kvs k v))) \/
 ∃kvs k b,H a=some (.dT kvs)/\y=.ref b/\H b=some (.tup (k.map kV))/\kvs.length<sizeLine/\f=upd H a (.dT (putK kvs k v))
theorem lP.k{H:Hp}{a:Addr}{kvs:List (Key×V)}{k:Key}(e:H a=some (.dK kvs)):lP H a (kV k) (c8 kvs k):=.inl ⟨kvs,k,.inl e,rfl,rfl⟩
theorem v_.k{H:Hp}{a:Addr}{kvs:List (Key×V)}{k:Key}{v:V}(e:H a=some (.dK kvs))(f:kvs.length<sizeLine):v_ H a (kV k) v (upd H a (.dK (putK kvs k v))):=.inl ⟨kvs,k,e,rfl,f,rfl⟩
section
variable{X:Cx}{pins:List (Addr×Obj)}{σ:St}{H:Hp}{s:Shared}{a:Addr}{y v:V}{u r:Value}{o:Option V}{A:Around}{E:Value->Shared->Prop}
def Inv.big(I:Inv X pins σ H s):Q4<s.heap.objs.size:=by have h:J2<s.heap.objs.size:=(I.mod.glob.keeps I.bk).lt;exact C72 ∅ h
def vi8(x:A.units+1<cLine)(I:Inv X pins σ H s)(g:lP H a y (some v))(q:RelV y u)(h:∀i n,Inv X pins σ H n->RelV v i->Q i n): wpAny (model X.prog X.w) A (Ai (.ref a) u) Q E s:=by
 rcases g with⟨kvs,k,e,m,l⟩|⟨kvs,k,b,e,m,G,l⟩
 .subst m;let#[z,C,t,f,dd]:=xj I.aE e;let#[i,hw,j]:=dz.some_of (v:=v) (o:=Aj t k) (by rw[l];exact f.val k);exact wpAny_getItem_of (AB q) dd.mapOf hw (h i _ (I.tok _) j)
 .subst m;cases(show u=E7 b from q);let#[z,C,xs,f,dd]:=Em I.aE e;let#[i,hw,j]:=dz.some_of (v:=v) (o:=(atKey xs k).map (·.2)) (by rw[l];exact f.val k);let#[p,B,J]:=E8.mp hw;apply wpAny_getItem_heap (YJ x) (Mr I.aE G) dd B ?_;rw[J];exact h i _ (I.tok _) j
def CO(I:Inv X pins σ H s)(f:JB (H a))(g:U4 a s.heap h')(h:∃q,h'.get? a=some q)(new:bg X.prog X.w (upd H a ob) h' a ob): Inv X pins σ (upd H a ob) { s with heap:=h',toks:=t'}:=I.write (x:=a) (e:=a) f (.inl rfl) (λb q i z=>(g.2 b i).trans z) h new
def Mn{P:Program}{w:World}{h':Heap}{kvs:List (Key×V)}(z:kvs.length<=sizeLine)(g:(a==Q4)=false)(f:KV kvs vs)(dd:h'.DictOf (d_ P w) a vs): bg P w h h' a (.dK kvs):=#[z,g,vs,f,dd]
def vi7(N:A.units+1<cLine)(I:Inv X pins σ H s)(g:v_ H a y v H')(G:RelV y u)(rv:RelV v r)(h:∀C,Inv X pins σ H' C->Q #[] C): wpAny (model X.prog X.w) A (Om (.ref a) u r) Q E s:=by
 rcases g with⟨kvs,k,e,x,l,B⟩|⟨kvs,k,b,e,x,L,l,B⟩
 .subst x B;let#[z,t,M,f,dd]:=El I.aE e;have m:M.length<=sizeLine:=by rw[<- f.length];exact z
  have p:(putK kvs k v).length<=sizeLine:=by have:=AQ kvs k v;omega
  apply wpAny_setItem_pairs (hsz:=m) (AB G) dd λJ i n=>h _ ?_;have O:∃q,J.get? a=some q:=let ⟨q,_,_,j,_⟩:=i;#[q,j];exact CO I (by rw[e];exact P7) n O (Mn p t (f.put k rv) i)
 .subst x B;cases(show u=E7 b from G);let#[z,t,xs,f,dd]:=xj3 I.aE e;have m:xs.length<=sizeLine:=by rw[<- OU f];exact z
  have p:(putK kvs k v).length<=sizeLine:=by have:=AQ kvs k v;omega
  apply wpAny_setItem_heap (hsz:=m) (YJ N) (Mr I.aE L) dd λJ i n=>h _ ?_;let#[q,Z,ep,j,Y,U,S,_,R]:=i;apply CO I (by rw[e];exact P7) n #[q,j] #[p,t,_,(f.put k L rv).keeps λc ys ec=>?_,q,Z,ep,j,Y,U,S,R];rw[cU (Qr ec e (λz=>nomatch z))];exact ec
end
section
variable{X:Cx}{pins:List (Addr×Obj)}{σ:St}{H:Hp}{s:Shared}{a:Addr}{kvs:List (Key×V)}{k:Key}{u:Value}{A:Around}{E:Value->Shared->Prop}
def xj4(I:Inv X pins σ H s)(e:H a=some (.dK kvs))(j:RelV (kV k) u)(l:c8 kvs k=some v)(r:more=[]\/∃x,more=[x]) (h:∀g n,Inv X pins σ (upd H a (.dK (yQ kvs k))) n->RelV v g->Q g n):wpAny (model X.prog X.w) A (call (.builtin "dict.pop") (.ref a::u::more)) Q E s:=by
 let#[z,L,m,f,dd]:=El I.aE e;let#[g,hw,y]:=dz.some_of (v:=v) (o:=Aj m k) (by rw[<- l];exact f.val k);have G:(keyPart u).isSome=true:=by
  cases k with
  | inl i=>let#[t,q]:=(show∃t,u=DS i t from j);subst q;rfl| inr x=>let#[t,q]:=(show∃t,u=DR x t from j);subst q;rfl
 have M:argsOk "dict.pop" #[.ref a::u::more,[]]:=by
  rcases r with q|⟨x,q⟩
  .subst q;exact PySem.F.args_dict_pop_2 _ _
  .subst q;exact PySem.F.args_dict_pop_3 _ _ _
 apply LG B47 dd.typeIs PySem.F.entry_dict_pop M (meets_dict_pop_there (d_ X.prog X.w) a (AB j) more r G)
  ⟨m,g,dd,by rw[<- f.length];exact z,hw,λN p B=>h g _ ?_ y⟩
 have J:∃q,N.get? a=some q:=let ⟨q,_,_,C,_⟩:=p;#[q,C];exact CO I (by rw[e];exact P7) B J (Mn (D3 (vt5 kvs k) z) L (f.drop k) p)
end
def sL(i:Expr):Prop:=∀f g,subscripted i false f g=operate [f,g] (Ai f g)
def v91{prog:Program}{w:World}{A:Around}{E:Value->Shared->Prop}{s:Shared}{env:Env}{value slice:Expr}{pos:Pos}{T id:String}{Q:Value->Shared->Prop} (q:Ly (.type T) "__getitem__" = pure (some (.builtin id))) (p:sL slice) (h:wpAny (model prog w) A (eval value env) (λo k=>wpAny (model prog w) A (eval slice env) (λi f=>f.TypeIs o T/\wpAny (model prog w) A (Ai o i) Q E f) E k) E s): wpAny (model prog w) A (eval (.Subscript value slice pos) env) Q E s:=by
 apply Oy (Q6 h (λo k m=>Q6 m (λi f g=>?_) λ_ _ x=>x) λ_ _ x=>x);let#[n,g]:=g;unfold OP;apply B5 ?_;rw[getitemInPython_of_ne n.not_modules];apply B5 (LM n q ?_);have fin:wpAny (model prog w) A (subscripted slice false o i) (λr j=>wpAny (model prog w) A (letTemporaryGo value o r >>= λ_=>pure r) Q E j) E f:=by rw[p o i];exact wpAny_operating (Q6 g (λr j l=>B5 (wpAny_letTemporaryGo (C4 l))) λ_ _ x=>x)
 first
  | exact C4 (B5 fin)
  | exact B5 (C4 (B5 fin))
  | exact B5 fin
def uw8(I:Inv X pins f H s)(g:lP H a y o):s.TypeIs (.ref a) "dict" := by
 rcases g with⟨kvs,k,e,_,_⟩|⟨kvs,k,b,e,_,_,_⟩
 .let#[_,_,h,_,dd]:=xj I.aE e;exact dd.typeIs
 .let#[_,_,xs,_,dd]:=Em I.aE e;exact dd.typeIs
def Sg(h ty:TE):TE:=λf H Q=>h f H λx i=>ty f i λy g=>∃a v,x=.ref a/\lP g a y (some v)/\Q v g
def xh1(i ty h:TE):TS:=λD f H=>h f H λv l=>i f l λx k=>ty f k λy j=>∃a g,x=.ref a/\v_ j a y v g/\D.nx f g
section
variable{X:Cx}{o i e value:Expr}{pos pos' pd:Pos}{td ty tv:TE}
def vb5(r:X.A.units+1<cLine)(B:PE X o td)(hi:PE X i ty)(t:sL i):PE X (.Subscript o i pos) (Sg td ty):=by
 intro pins s f H Q I h
 (apply v91 A87.lookup t (aZ (B pins s f H _ I h) ?_);rintro u k ⟨x,G,C,m,p⟩;apply aZ (hi pins k f G _ C p) ?_;rintro N M ⟨y,E,j,l,a,v,ex,g,n⟩)
 subst ex;obtain rfl:u=E7 a:=m;exact#[uw8 j g,vi8 r j g l λJ L I3 q=>#[v,E,I3,q,n]]
def wf5(C:X.A.units+1<cLine)(G:PE X o td)(hi:PE X i ty)(B:PE X value tv)(E:X7 value (some (.Subscript o i pos')) pos.line X.env=pure false): PS X (.Assign [.Subscript o i pos'] value pos) (xh1 td ty tv):=by
 intro pins s f H D I h
 (apply wpAny_Assign_Subscript (aZ (B pins s f H _ I h) ?_) E;rintro r k ⟨v,Q,M,n,t⟩;apply aZ (G pins k f Q _ M t) ?_;rintro u j ⟨x,O,L,m,q⟩;apply aZ (hi pins j f O _ L q) ?_;rintro U S ⟨y,Y,I3,l,a,N,ex,g,p⟩)
 subst ex;obtain rfl:u=E7 a:=m;exact vi7 C I3 g l n λR J=>#[f,N,J,p]
end
def vt6{P:Program}{w:World}(h:Heap)(f:Q4<h.objs.size):bg P w H (h.push { cls:=.type "dict",data:=.dict [].toArray}) h.objs.size (.dK []):=#[J8 _,beq_eq_false_iff_ne.mpr (D2 (J0 f)),[],.nil,YC h]
def wt1:TE:=λ_ H Q=>∀p,H p=none->Q (.ref p) (upd H p (.dK []))
section
variable{X:Cx}{pos:Pos}
def vp5:PE X (.Dict [] [] pos) wt1:=λpins s f H Q I h =>
 wpAny_Dict_empty #[.ref s.heap.objs.size,_,I.laid (a:=s.heap.objs.size) (o:=.dK []) (t':=s.toks) (λ_ _ q=>B8 _ q) (B9 _) (vt6 s.heap I.big),rfl,h _ (I.aE.fresh (B9 _))]
end
def CM(kvs more:List (Key×V)):List (Key×V):=more.foldl (λf g=>putK f g.1 g.2) kvs
def KV.merge:∀{more:List (Key×V)} {rs:List (Key×Value)} {kvs:List (Key×V)} {vs:List (Key×Value)},KV more rs->KV kvs vs->KV (CM kvs more) (merged vs rs):=by
 intro more rs kvs vs r;unfold KV at r;induction r generalizing kvs vs with
 | nil=>intro q;exact q| @cons p q j i h t g =>
  intro f;have e:KV (putK kvs p.1 p.2) (stored vs q.1 q.2):=by have:=f.put p.1 h.2;rw[<- h.1];exact this
  exact g e
theorem ud1:∀(more kvs:List (Key×V)),(CM kvs more).length<=kvs.length+more.length
 | [],kvs=>by show kvs.length<=kvs.length+0;omega| p::r,kvs=>by have g:=ud1 r (putK kvs p.1 p.2);have f:=AQ kvs p.1 p.2;show(CM (putK kvs p.1 p.2) r).length<=_;rw[C1];omega
structure M1(X:Cx)(o:Expr)(m:Str)(apos:Pos)(e:Expr)(aN:Pos):Prop where
 base:N3 o m X.env (eval o X.env)=eval o X.env
 few:((backTo aN (D0 [e] X.env)).all (λx=>!x.1)&&(W4 aN (O7 [] X.env)).all (λx=>x.1.isSome)
  && decide (([e]:List Expr).length+([]:List Keyword).length+(if([]:List Keyword).isEmpty then 0 else 1)<30))=true
 line:(apos.endLine==aN.line)=true
 trees:backTo aN (D0 [e] X.env)=[(false,eval e X.env)]
structure M2(X:Cx)(o:Expr)(m:Str)(apos:Pos)(e f:Expr)(aN:Pos):Prop where
 base:N3 o m X.env (eval o X.env)=eval o X.env
 few:((backTo aN (D0 [e,f] X.env)).all (λx=>!x.1)&&(W4 aN (O7 [] X.env)).all (λx=>x.1.isSome)
  && decide (([e,f]:List Expr).length+([]:List Keyword).length+(if([]:List Keyword).isEmpty then 0 else 1)<30))=true
 line:(apos.endLine==aN.line)=true
 trees:backTo aN (D0 [e,f] X.env)=[(false,eval e X.env),(false,eval f X.env)]
def Oi(H:Hp)(a:Addr):Prop:=(∃kvs,Rd H a (.dK kvs))\/∃kvs,Rd H a (.dT kvs)
def Mq(I:Inv X pins i H s)(d:Oi H a): s.TypeIs (.ref a) "dict" /\ (∀b,E7 a=.ref b->∃ob,s.heap.get? b=some ob/\ob.dict=none)/\(a==Q4)=false:=by
 rcases d with⟨kvs,e⟩|⟨kvs,e⟩
 .let#[_,f,j,_,dd]:=xj I.aE e;apply#[dd.typeIs,λb q=>?_,f];cases q;let#[ob,_,_,h,g,_]:=dd;exact#[ob,h,g.2.1]
 .let#[_,f,xs,_,dd]:=Em I.aE e;apply#[dd.typeIs,λb q=>?_,f];cases q;let#[ob,_,_,h,g,_]:=dd;exact#[ob,h,g.2.1]
section
variable{X:Cx}{pins:List (Addr×Obj)}{σ:St}{H:Hp}{s:Shared}{a:Addr}{y d:V}{u r:Value}{o:Option V}{A:Around}{E:Value->Shared->Prop}
def xa9(q:A.units+1<cLine)(I:Inv X pins σ H s)(g:lP H a y o)(p:RelV y u)(rd:RelV d r)(h:∀m n,Inv X pins σ H n->RelV (o.getD d) m->Q m n): wpAny (model X.prog X.w) A (call (.builtin "dict.get") [.ref a,u,r]) Q E s:=by
 rcases g with⟨kvs,k,e,j,l⟩|⟨kvs,k,b,e,j,t,l⟩
 .subst j;let#[z,i,x,f,dd]:=xj I.aE e;apply LG YW dd.typeIs B21 (B11 _ _ _) (meets_dict_get_default (d_ X.prog X.w) a (AB p) i r) #[_,dd.mapOf,h _ _ (I.tok _) ?_];rw[l];exact(f.val k).getD rd
 .subst j;cases(show u=E7 b from p);let#[z,i,xs,f,dd]:=Em I.aE e;apply LG YW dd.typeIs B21 (B11 _ _ _) (meetsH_dict_get_default (DQ (d_ X.prog X.w)) a b i r) #[YJ q,k,xs,Mr I.aE t,dd,h _ _ (I.tok _) ?_];rw[l];exact(f.val k).getD rd
end
def vw2(j ty i:TE):TE:=λf H Q=>j f H λx h=>∃a,x=.ref a/\Oi h a/\ty f h λy k=>i f k λz g=>∃o,lP g a y o/\Q (o.getD z) g
def vw1(i ty:TE):TE:=λf H Q=>i f H λx h=>∃a,x=.ref a/\Oi h a/\ty f h λy g=>∃kvs k v,g a=some (.dK kvs)/\y=kV k/\c8 kvs k=some v/\Q v (upd g a (.dK (yQ kvs k)))
section
variable{X:Cx}{o e f:Expr}{apos aN:Pos}{td ty tx:TE}
def vp7(J:X.A.units+1<cLine)(L:PE X o td)(N:PE X e ty)(M:PE X f tx)(m:M2 X o "get" apos e f aN):PE X (.Call (.Attribute o "get" apos) [e,f] [] aN) (vw2 td ty tx):=by
 intro pins s i H Q I h
 (apply YG m.base m.few m.line X3 YW PySem.F.type_dict_get (aZ (L pins s i H _ I h) ?_);rintro u p ⟨x,Y,j,t,a,ex,d,E⟩)
 subst ex;obtain rfl:u=E7 a:=t;let#[l,k,_]:=Mq j d;apply#[l,k,?_];rw[m.trees];apply U5 rfl (Z1 (P8 (aZ (N pins p i Y _ j E) λiv n ⟨y,U,R,r,C⟩ =>
  P8 (aZ (M pins n i U _ R C) λfv s3 ⟨z,S,I3,q,ov,g,B⟩=>T7 ?_))))
 exact xa9 J I3 g r q λZ s4 O G=>#[_,S,O,G,B]
def vp3(C:PE X o td)(E:PE X e ty)(m:M1 X o "pop" apos e aN):PE X (.Call (.Attribute o "pop" apos) [e] [] aN) (vw1 td ty):=by
 intro pins s g H Q I h
 (apply YG m.base m.few m.line X3 B47 PySem.F.type_dict_pop (aZ (C pins s g H _ I h) ?_);rintro u p ⟨x,M,i,r,a,ex,d,A⟩)
 subst ex;obtain rfl:u=E7 a:=r;let#[n,j,_]:=Mq i d;apply#[n,j,?_];rw[m.trees]
 (apply U5 rfl (Z1 (P8 (aZ (E pins p g M _ i A) ?_)));rintro S R ⟨y,U,L,q,kvs,k,v,J,G,l,t⟩;apply T7 ?_)
 subst G;exact xj4 L J q l (.inl rfl) λN O I3 B=>#[v,_,I3,B,t]
end
section
variable{X:Cx}{pins:List (Addr×Obj)}{σ:St}{H:Hp}{s:Shared}{a:Addr}{kvs:List (Key×V)}{A:Around}{E:Value->Shared->Prop}
def vt9(I:Inv X pins σ H s)(e:Rd H a (.dK kvs))(h:∀p g,H p=none->Inv X pins σ (upd H p (.dK kvs)) g->Q (.ref p) g):wpAny (model X.prog X.w) A (call (.type "dict") [.ref a]) Q E s:=by let#[z,l,m,f,dd]:=xj I.aE e;apply kt_call_dict l dd (by rw[<- f.length];exact z) λr j k=>?_;apply h _ _ (I.aE.fresh (B9 _)) (I.laid (a:=s.heap.objs.size) (o:=.dK kvs) (t':=s.toks) (λb q i=>?_) (B9 _) (Mn z (beq_eq_false_iff_ne.mpr (D2 (J0 I.big))) f j));exact(k.2 b (J0 (D5 i))).trans (B8 _ i)
end
end L2
namespace HT
open PySem PyProof.Rows
section
open PySem.SeqAt
open PySem.AutoSeq1 (wpAny_loadPart')
open PySem.MeetsSeq PySem.MeetsSeq2 PySem.MeetsSeq3
end
section
variable{prog:Program}{w:World}{A:Around}{E:Value->Shared->Prop}{s:Shared}
def yz{vs f:List Value}(u:IsTup s.heap t vs.toArray)(x:IsTup s.heap b f.toArray)(p:vs≠[]) (h1:f=[]->Q (.ref t) s) (y:f≠[]->Q (.ref s.heap.objs.size) { s with heap:=s.heap.push { cls:=.type "tuple",data:=.seq (vs++f).toArray}}) (hsz:vs.length+f.length<=sizeLine):wpAny (model prog w) A (L8 .Add (.ref t) (.ref b)) Q E s:=by
 let#[#[cls,dd,data,m],i,r,n,q]:=id u;let#[#[B,k,data2,j],h,l,o,g]:=id x;simp only at r q l g;subst r q l g;have e:vs.toArray++f.toArray=(vs++f).toArray:=by simp
 by_cases hw:f=[]
 .exact Yg #[_,i,rfl] #[_,h,rfl] YE Yo Y_ Zc (Ze _ _)
   (tuple_addW1 t b vs.toArray f.toArray n o dd k m j (by simpa using p) (by simp[hw])) #[i,h,h1 hw]
 .apply Yg #[_,i,rfl] #[_,h,rfl] YE Yo Y_ Zc (Ze _ _)
   (tuple_addW2 t b vs.toArray f.toArray n o dd k m j (by simpa using p) (by simpa using hw) (by rw[D9,D9];exact hsz)) #[i,h,?_]
  rw[e];exact y hw
def bR(n d:Nat):Option Int->Nat
 | none=>d| some v=>if v<0 then(v+(n:Int)).toNat else min v.toNat n
def mz(n d:Nat):bR n d none=d:=rfl
def lu(n d k:Nat):bR n d (some (k:Int))=min k n:=by show(if(k:Int)<0 then((k:Int)+(n:Int)).toNat else min (k:Int).toNat n)=min k n;rw[if_neg (),T8]
def wu3(n d:Nat)(g:d<=n)(o:Option Int):bR n d o<=n:=by
 cases o with
 | none=>exact g| some v =>
  show(if v<0 then(v+(n:Int)).toNat else min v.toNat n)<=n;by_cases f:v<0
  .rw[if_pos f];omega
  .rw[if_neg f];exact Nat.min_le_right _ _
def vj5(v:Int)(n d:Nat):(if v<0 then max (v+(n:Int)) 0 else min v (n:Int))=((bR n d (some v):Nat):Int):=by
 show(if v<0 then max (v+(n:Int)) 0 else min v (n:Int))=(((if v<0 then(v+(n:Int)).toNat else min v.toNat n):Nat):Int)
 by_cases f:v<0
 .simp only[if_pos f];omega
 .simp only[if_neg f];omega
def v63(lo hi:Option Int)(n:Nat):Zi lo hi 1 (n:Int)=(((bR n 0 lo:Nat):Int),((bR n n hi:Nat):Int)):=by
 have f:¬ ((1:Int)<0):=()
 unfold Zi;simp only[f,if_false];apply Lx ?_ ?_
 .cases lo with
  | none=>rfl| some v=>exact vj5 v n 0
 .cases hi with
  | none=>rfl| some v=>exact vj5 v n n
def v42(i j:Nat):V3 (i:Int) (j:Int) 1=j-i:=by
 unfold V3;have f:(1:Int)>0:=()
 simp only[f,if_true,Int.ediv_one];split <;> omega
def uk6(p:IsPart v o)(h:Q o s):wpAny (model prog w) A (C19 v) Q E s:=by
 cases p with
 | none=>exact slicePart_none h| int i t=>exact slicePart_int h
def ug2{k:Addr}{i g:Value}{lo hi:Option Int}{n:Nat}{Q:Int×Int×Nat->Shared->Prop}(m:s.heap.IsSliceOf k i g .none)(pl:IsPart i lo)(l:IsPart g hi) (h:Q (((bR n 0 lo:Nat):Int),1,bR n n hi-bR n 0 lo) s):wpAny (model prog w) A (A76 (.ref k) (pure (n:Int))) Q E s:=by
 let#[os,j,o,f]:=id m;unfold A76 C48;apply B5 (B5 (K8 j f (x:=i) rfl (B5 (K8 j f (x:=g) rfl (B5 (K8 j f (x:=.none) rfl (C4 ?_)))))));apply B5 (slicePart_none ?_);show wpAny _ _ (if((1:Int)==0)=true then _ else _) _ _ s;rw[if_neg ∅];apply B5 (uk6 pl (B5 (uk6 l (B5 (C4 ?_)))));show wpAny _ _ (match Zi lo hi 1 (n:Int) with|(lo,hi)=>pure (lo,(1:Int),V3 lo hi 1)) _ _ s;rw[v63 lo hi n];show wpAny _ _ (pure (((bR n 0 lo:Nat):Int),(1:Int),V3 ((bR n 0 lo:Nat):Int) ((bR n n hi:Nat):Int) 1)) _ _ s;rw[v42];exact C4 h
def vo6(xs:Array Value)(i k:Nat):((F3 k).filterMap λ(m:Nat)=>xs[((i:Int)+(m:Int)*1).toNat]?).toArray=((xs.toList.drop i).take k).toArray:=by
 have e:(λ(m:Nat)=>xs[((i:Int)+(m:Int)*1).toNat]?)=λm=>xs[i+m]?:=by
  funext m;have:((i:Int)+(m:Int)*1).toNat=i+m:=()
  rw[this]
 rw[e];have:=pick_run xs i k;rw[B73] at this;have f:((λx=>xs[x]?)∘λx=>i+x)=λm=>xs[i+m]?:=rfl;rw[f] at this;rw[this]
def gH{t i:Addr}{items:Array Value}{l k:Value}{lo hi:Option Int}{Q:Value->Shared->Prop}(g:IsTup s.heap t items)(n:s.heap.IsSliceOf i l k .none)(pl:IsPart l lo)(o:IsPart k hi) (hw:¬ (bR items.size 0 lo=0/\bR items.size items.size hi=items.size)) (h:Q (.ref s.heap.objs.size) { s with heap:=s.heap.push { cls:=.type "tuple",data:=.seq ((items.toList.drop (bR items.size 0 lo)).take (bR items.size items.size hi-bR items.size 0 lo)).toArray}}) (hsz:items.size<=sizeLine):wpAny (model prog w) A (Ai (.ref t) (.ref i)) Q E s:=by
 have f:sizeOk (.seq ((items.toList.drop (bR items.size 0 lo)).take (bR items.size items.size hi-bR items.size 0 lo)).toArray):=by show((items.toList.drop (bR items.size 0 lo)).take (bR items.size items.size hi-bR items.size 0 lo)).toArray.size<=sizeLine;rw[D9,Q0,X4,K3];omega
 have C:bR items.size items.size hi<=items.size:=wu3 _ _ (B9 _) hi;let#[os,u,r,x]:=id n;have j:s.TypeIs (.ref i) "slice" := #[os,u,r];unfold Ai;try with_reducible apply M0 ?_
 first|apply B5 (C4 ?_)|skip
 apply B5 (wpAny_sequenceKey g.typeIs ∅ ?_);apply B5 (N5 (name:=F6 "__getitem__") g.typeIs X1
  (O5 X1 g.typeIs entry_tuple_getitem ?_ (args_tuple_getitem _ _)))
 show wpAny _ _ (A72 (.ref t) >>= _) _ _ s;apply B5 (tupleItemsOf_ g ?_);apply B5 (DX j ?_);rw[if_pos ∅];apply B5 (ug2 n pl o ?_);have p:¬ ((((bR items.size 0 lo:Nat):Int)==0&&(1:Int)==1&&(bR items.size items.size hi-bR items.size 0 lo)==items.size)=true):=by intro q;rw[O2,O2] at q;have B:((bR items.size 0 lo:Nat):Int)=0:=eq_of_beq q.1.1;have y:bR items.size items.size hi-bR items.size 0 lo=items.size:=eq_of_beq q.2;exact hw #[(),()]
 show wpAny _ _ (if(((bR items.size 0 lo:Nat):Int)==0&&(1:Int)==1&&(bR items.size items.size hi-bR items.size 0 lo)==items.size)=true then _ else _) _ _ s;rw[if_neg p,vo6];first
  | exact B5 (m:=W7 _) (U1 (C4 ⟨_,rfl,C4 h⟩) f)
  | exact B5 (m:=W7 _) (U1 (B5 (C4 (C4 ⟨_,rfl,C4 h⟩))) f)
  | exact B5 (B5 (m:=W7 _) (U1 (C4 (C4 ⟨_,rfl,C4 h⟩)) f))
  | exact B5 (B5 (m:=W7 _) (U1 (C4 ⟨_,rfl,C4 h⟩) f))
end
end HT
namespace L2
open PySem PySem.Spec PyProof.Rows
abbrev TO:=St->Hp->(Option Int->Hp->Prop)->Prop
def PO(X:Cx)(e:Option Expr)(t:TO):Prop:=
 ∀(pins:List (Addr×Obj)) (s:Shared) (f:St) (H:Hp) (Q:Option Int->Hp->Prop),Inv X pins f H s->t f H Q ->
  wpAny (model X.prog X.w) X.A (evalPart e X.env) (λu h=>∃o g,Inv X pins f g h/\IsPart u o/\Q o g) X.xe s
def v89:TO:=λ_ H Q=>Q none H
def Z_(t:TE):TO:=λf H Q=>t f H λx g=>∃i,x=.int i/\Q (some i) g
def intsAre_of{ns:List Int}:∀{us:List Value},Vals (ns.map V.int) us->wc us ns:=by
 induction ns with
 | nil=>intro us r;rw[LJ] at r;cases r;exact .nil
 | cons n ns h =>
  intro us r;rw[C0] at r;cases r with
  | cons g f =>let#[t,e]:=g;subst e;exact .cons n t (h f)
section
variable{X:Cx}{e:Expr}{te:TE}{lo hi:Option Expr}{tl th:TO}{pos p2:Pos}
def wf7:PO X none v89:=by intro pins s f H Q I h;rw[Yn];exact C4 #[none,H,I,.none,h]
def wf6(h:PE X e te):PO X (some e) (Z_ te):=by
 intro pins s f H Q I hw;rw[evalPart_some]
 (apply aZ (h pins s f H _ I hw) ?_;rintro u m ⟨x,l,k,g,j⟩)
 let#[i,rfl,q]:=j;let#[t,rfl]:=g;exact#[some i,l,k,.int i t,q]
def uH(X:Cx)(r:V->Option Int->Option Int->Hp->VK->Prop):Prop:=
 ∀(pins:List (Addr×Obj)) (s:Shared) (f:St) (H:Hp) (x:V) (v h g:Value) (lo hi:Option Int) (i:Addr) (Q:VK),Inv X pins f H s->RelV x v->s.heap.IsSliceOf i h g .none->IsPart h lo->IsPart g hi->r x lo hi H Q ->
  ∃T id,Ly (.type T) "__getitem__" = pure (some (.builtin id))/\s.TypeIs v T/\wpAny (model X.prog X.w) X.A (Ai v (.ref i)) (EP X pins f Q) X.xe s
def uH.or{r r':V->Option Int->Option Int->Hp->VK->Prop}(h:uH X r)(h':uH X r'):uH X (λx lo hi H Q=>r x lo hi H Q\/r' x lo hi H Q):=by
 intro pins s f H x v i g lo hi j Q I k n m l q;rcases q with q|q
 .exact h pins s f H x v i g lo hi j Q I k n m l q
 .exact h' pins s f H x v i g lo hi j Q I k n m l q
def tSl(r:V->Option Int->Option Int->Hp->VK->Prop)(te:TE)(tl th:TO):TE:=λf H Q=>te f H λx i=>tl f i λl h=>th f h λu g=>r x l u g Q
def vo9(M:uH X r)(R:PE X e te)(N:PO X lo tl)(J:PO X hi th):PE X (.Subscript e (.Slice lo hi none p2) pos) (tSl r te tl th):=by
 intro pins s g H Q I h
 (apply Oy (aZ (R pins s g H _ I h) ?_);rintro v o ⟨x,H1,Z,p,B⟩)
 (apply wpAny_Slice (aZ (N pins o g H1 _ Z B) ?_);rintro k n ⟨l,H2,Y,E,y⟩;apply aZ (J pins n g H2 _ Y y) ?_;rintro j f ⟨u,m,I3,C,t⟩)
 rw[Yn];apply C4 ?_;have U:Inv X pins g m { f with heap:=f.heap.push { cls:=.type "slice",data:=.fields [k,j,.none].toArray}}:=I3.kept (t':=f.toks) λb ob q=>B8 _ q;let#[T,id,S,L,O]:=M pins { f with heap:=f.heap.push { cls:=.type "slice",data:=.fields [k,j,.none].toArray}} g m x v k j l u f.heap.objs.size Q U p (B74 ..) E C t;show wpAny (model X.prog X.w) X.A (OP e (.Slice lo hi none p2) v (.ref f.heap.objs.size)) (EP X pins g Q) X.xe { f with heap:=f.heap.push { cls:=.type "slice",data:=.fields [k,j,.none].toArray}};exact XJ (ops:=[.ref f.heap.objs.size,v]) L S O (by with_unfolding_all rfl)
def n_(xs:List V)(lo hi:Option Int):List V:=(xs.drop (HT.bR xs.length 0 lo)).take (HT.bR xs.length xs.length hi-HT.bR xs.length 0 lo)
def uj7(xs:List V)(lo hi:Option Int):(n_ xs lo hi).length<=xs.length:=by unfold n_;rw[Q0,X4];omega
def UP(K:W.Frag):V->Option Int->Option Int->Hp->VK->Prop:=λx lo hi H Q=>∃a xs,x=.ref a/\eC K H a xs /\
 ¬ (HT.bR xs.length 0 lo=0/\HT.bR xs.length xs.length hi=xs.length)/\∀p,H p=none->Q (.ref p) (upd H p (.tup (n_ xs lo hi)))
def wt9:uH X (UP X.K):=by
 intro pins s p H x v u t lo hi A Q I j n l k h;let#[a,xs,rfl,m,hw,q]:=h;cases j;let#[its,r,i,g]:=I.tuple m;have f:its.toArray.size=xs.length:=by rw[D9];exact r.length.symm
 apply#["tuple",_,X1.lookup,i.typeIs,?_];apply HT.gH i n l k (by rw[f];exact hw) ?_ (by rw[f];exact g);rw[f];apply#[.ref s.heap.objs.size,_,I.laid (t':=s.toks) (o:=.tup (n_ xs lo hi)) (λb B q=>B8 _ q) (B9 _) ?_,rfl,q _ (I.aE.fresh (B9 _))];exact#[D3 (uj7 xs lo hi) g,_,(r.drop (HT.bR xs.length 0 lo)).take (HT.bR xs.length xs.length hi-HT.bR xs.length 0 lo),oi.new _ _]
def xh3(K:W.Frag):R2:=λx y H Q=>∃a b xs f,x=.ref a/\y=.ref b/\eC K H a xs/\eC K H b f/\xs≠[]/\xs.length+f.length<=sizeLine /\
 (f=[]->Q (.ref a) H)/\(f≠[]->∀p,H p=none->Q (.ref p) (upd H p (.tup (xs++f))))
def Vals.iY(r:Vals xs us):us=[]↔xs=[]:=by
 cases r with
 | nil=>simp| cons _ _=>simp
def qL:cX X (L8 .Add) (xh3 X.K):=by intro pins s B H x y v u Q I l k h;let#[a,b,xs,j,rfl,rfl,A,t,r,i,n,m]:=h;cases l;cases k;let#[its,g,p,_]:=I.tuple A;let#[G,f,p2,_]:=I.tuple t;apply HT.yz p p2 (λz=>r (g.iY.mp z)) (λz=>#[.ref a,H,I,rfl,n (f.iY.mp z)]) (λz=>?_) (by rw[<- g.length,<- f.length];exact i);apply#[.ref s.heap.objs.size,_,I.laid (t':=s.toks) (o:=.tup (xs++j)) (λb E q=>B8 _ q) (B9 _) ?_,rfl,m (λw=>z (f.iY.mpr w)) _ (I.aE.fresh (B9 _))];exact#[by rw[B4];exact i,_,g.append f,oi.new _ _]
end
def iO(n:Nat)(i:Int):Option Nat:=if 0<=i then(if i<n then some i.toNat else none) else if -(n:Int)<=i then some (i+n).toNat else none
def dg{f:Type}(xs:List f):Int->Option f
 | .ofNat j=>xs[j]?| i=>(iO xs.length i).bind λj=>xs[j]?
def Cv{f:Type}(xs:List f)(i:Int):dg xs i=(iO xs.length i).bind λj=>xs[j]?:=by
 cases i with
 | negSucc j=>rfl| ofNat j =>
  unfold iO;rw[if_pos (show(0:Int)<=.ofNat j from Pk j)];split
  .rfl
  .rename_i h;exact O8 (C00 λk=>h (Int.ofNat_lt.mpr k))
def vf6{n:Nat}(h:iO n i=some j):seqIndex? i n=some j/\j<n/\-(n:Int)<=i/\i<n:=by
 unfold iO at h;by_cases g:0<=i
 .rw[if_pos g] at h;by_cases f:i<n
  .rw[if_pos f] at h;have e:i.toNat=j:=D8 h;exact#[by rw[XZ g f,e],(),(),f]
  .rw[if_neg f] at h;cases h
 .rw[if_neg g] at h;by_cases f:-(n:Int)<=i
  .rw[if_pos f] at h;have e:(i+n).toNat=j:=D8 h;exact#[by rw[Yf () f,e],(),f,()]
  .rw[if_neg f] at h;cases h
def Tb{f:Type}{xs:List f}{i:Int}{v:f}(h:dg xs i=some v):∃j,seqIndex? i xs.length=some j/\xs[j]?=some v/\j<xs.length/\-(xs.length:Int)<=i/\i<xs.length:=by
 rw[Cv] at h;cases e:iO xs.length i with
 | none=>rw[e] at h;cases h
 | some j =>rw[e] at h;let#[m,l,k,g]:=vf6 e;exact#[j,m,h,l,k,g]
def xq{f:Type}{xs:List f}{j:Nat}{v:f}(h:xs[j]?=some v):dg xs (j:Int)=some v:=by
 have g:j<xs.length:=(K7.mp h).1;have e:iO xs.length (j:Int)=some j:=by unfold iO;rw[if_pos (),if_pos ()];simp
 rw[Cv,e];exact h
def vl2(b:Expr):Prop:=∀o i,subscripted b false o i=operate [o,i] (Ai o i)
def sM(X:Cx)(r:R2):Prop:=
 ∀(value slice:Expr) (pins:List (Addr×Obj)) (s:Shared) (f:St) (H:Hp) (x y:V) (v u:Value) (Q:VK),Inv X pins f H s->RelV x v->RelV y u->r x y H Q ->
  subscripted slice false v u=operate [v,u] (Ai v u)->wpAny (model X.prog X.w) X.A (OP value slice v u) (EP X pins f Q) X.xe s
def zG(X:Cx)(id:String)(r:V->List V->Hp->VK->Prop):Prop:=
 ∀(pins:List (Addr×Obj)) (s:Shared) (f:St) (H:Hp) (x:V) (xs:List V) (v:Value) (g:List Value) (Q:VK),Inv X pins f H s->RelV x v->Vals xs g->r x xs H Q ->
  wpAny (model X.prog X.w) X.A (call (.builtin id) (v::g)) (EP X pins f Q) X.xe s
section
variable{X:Cx}{a b:Expr}{ta tb:TE}{pos:Pos}
def sM.or{r r':R2}(h:sM X r)(h':sM X r'):sM X (λx y H Q=>r x y H Q\/r' x y H Q):=by
 intro value slice pins s f H x y v u Q I i g q j;rcases q with q|q
 .exact h value slice pins s f H x y v u Q I i g q j
 .exact h' value slice pins s f H x y v u Q I i g q j
def zG.or{id:String}{r r':V->List V->Hp->VK->Prop}(h:zG X id r)(h':zG X id r'):zG X id (λx xs H Q=>r x xs H Q\/r' x xs H Q):=by
 intro pins s f H x xs v g Q I i j q;rcases q with q|q
 .exact h pins s f H x xs v g Q I i j q
 .exact h' pins s f H x xs v g Q I i j q
def xi2(l:sM X r)(n:PE X a ta)(m:PE X b tb)(k:vl2 b):PE X (.Subscript a b pos) (Fp r ta tb):=by intro pins s f H Q I h;exact Oy (Cg n m I h λv u g x y p o j i q=>l a b pins g f p x y v u Q o j i q (k _ _))
def FO(K:W.Frag):R2:=λx y H Q=>∃p xs i v,x=.ref p/\y=.int i/\eP K H p xs/\dg xs i=some v/\Q v H
def FK(K:W.Frag):R2:=λx y H Q=>∃p xs i v,x=.ref p/\y=.int i/\eC K H p xs/\dg xs i=some v/\Q v H
def FN:R2:=λx y H Q=>∃z i c,x=.str z/\y=.int i/\z.length<=sizeLine/\dg z.cps.toList i=some c/\Q (.str #[[c].toArray]) H
def ya:sM X (FO X.K):=by
 intro value slice pins s l H x y v u Q I C B h m;let#[p,xs,i,z,rfl,rfl,G,L,q]:=h;cases C;let#[t,rfl]:=B;let#[its,r,g,R]:=I.list G;let#[j,f,O,U,N,M]:=Tb L;let#[w,o,E]:=r.get O;have J:=r.length;have S:=il;have fin:EP X pins l Q w s:=#[z,H,I,E,q];by_cases n:0<=i
 .have k:i.toNat=j:=by rw[XZ n M] at f;exact D8 f
  exact item_listR g.isList n () (by rw[k];simpa using o) fin m
 .have k:(i+(its.toArray.size:Int)).toNat=j:=by rw[Yf () N] at f;rw[D9,<- J];exact D8 f
  exact subscriptTail_builtinR (x:=w) g.isList.typeIs YF.lookup
   (wpAny_getItem_list_neg (Q:=λr A=>r=w/\EP X pins l Q r A) g.isList () (by rw[D9] <;> omega) () (by rw[k];simpa using o) #[rfl,fin]) m
def Bq:sM X (FK X.K):=by
 intro value slice pins s f H x y v u Q I m l h o;let#[p,xs,i,z,rfl,rfl,A,C,q]:=h;cases m;let#[t,rfl]:=l;let#[its,r,g,L]:=I.tuple A;let#[j,G,E,R,O,N]:=Tb C;let#[w,J,n]:=r.get E;have B:=r.length;have M:=il;have fin:EP X pins f Q w s:=#[z,H,I,n,q];exact subscriptTail_builtinR (x:=w) g.typeIs slot_tuple_getitem.lookup
  (getItem_tuple (j:=j) (Q:=λr k=>r=w/\EP X pins f Q r k) g () () (by rw[D9,<- B];exact G) (by simpa using J) #[rfl,fin]) o
def x84:sM X FN:=by
 intro value slice pins s C H x y v u Q I k g h l;let#[z,i,c,rfl,rfl,G,n,q]:=h;let#[t,rfl]:=k;let#[E,rfl]:=g;let#[j,f,r,L,p,o]:=Tb n;have m:z.cps.toList.length=z.length:=by simp[DU]
 rw[m] at f p o;have J:=il;exact XJ (XR s z t) slot_str_getitem.lookup (getItem_str (c:=c) (by have B:decide (i < -(2^63:Int))=false:=decide_eq_false ();have A:decide (i ≥ 2^63)=false:=decide_eq_false ();rw[B,A,OT]) (by rw[f];simpa using r) #[.str #[[c].toArray],H,I.tok _,#[_,rfl],q]) l
def rIx(K:W.Frag):R2:=λx y H Q=>FO K x y H Q\/FK K x y H Q\/FN x y H Q
def x85:sM X (rIx X.K):=ya.or (Bq.or x84)
def v46(its:List Value)(n j:Nat)(u:Value):Lz (·.setIfInBounds j u) { cls:=.type "list",data:=.seq its.toArray n}={ cls:=.type "list",data:=.seq (its.set j u).toArray n}:=by simp[Lz]
theorem Inv.lst{pins:List (Addr×Obj)}{f:St}{H:Hp}{s:Shared}{p:Addr}{xs:List V}(I:Inv X pins f H s)(h:H p=some (.lst xs)): ∃(its:List Value) (n:Nat),Vals xs its/\s.heap.get? p=some { cls:=.type "list",data:=.seq its.toArray n}/\xs.length<=sizeLine:=by
 let#[z,its,n,r,e]:=I.aE p _ h;exact#[its,n,r,e,z]
def Inv.Bh{its gG:List Value}(I:Inv X pins j H s)(h:H p=some (.lst xs)) (l:s.heap.get? p=some { cls:=.type "list",data:=.seq its.toArray n}) (i:f { cls:=.type "list",data:=.seq its.toArray n}={ cls:=.type "list",data:=.seq gG.toArray g}) (r:Vals ys gG) (k:ys.length<=sizeLine) (t:Nat): Inv X pins j (upd H p (.lst ys)) { s with heap:=s.heap.update p f,toks:=t}:=by
 have e:(s.heap.update p f).get? p=some { cls:=.type "list",data:=.seq gG.toArray g}:=by rw[B48 f l (by rw[i] <;> rfl),i]
 apply I.write (x:=p) (e:=p) (by rw[h];trivial) (.inl rfl) (λb u m q=>(B23 _ _ (D2 m)).trans q) #[_,e] ?_;exact#[k,gG,g,r,e]
def xh2:V->V->V->Hp->(Hp->Prop)->Prop:=λo i v H Q=>∃p xs k j,o=.ref p/\i=.int k/\H p=some (.lst xs)/\iO xs.length k=some j/\Q (upd H p (.lst (xs.set j v)))
def set_list:sJ X xh2:=by
 intro pins s E H o i v O R u Q I J L G h;let#[p,xs,k,j,rfl,rfl,x,N,q]:=h;cases J;let#[t,rfl]:=L;let#[its,n,r,g,M]:=I.lst x;let#[f,U,A,y]:=vf6 N;have l:=r.length;have S:=il;have C:Inv X pins E (upd H p (.lst (xs.set j v))) { s with heap:=s.heap.update p (Lz (·.setIfInBounds j u))}:=
  I.Bh x g (v46 its n j u) (r.set G j) (by rw[J9];exact M) s.toks
 by_cases B:0<=k
 .have m:k.toNat=j:=by rw[XZ B y] at f;exact D8 f
  exact W.ki_setAt g B () (by rw[D9,<- l];exact y) (by rw[m];exact#[_,C,q])
 .have m:(k+(its.toArray.size:Int)).toNat=j:=by rw[Yf () A] at f;rw[D9,<- l];exact D8 f
  exact W.ki_setBack g () (by rw[D9,<- l];exact A) () (by rw[m];exact#[_,C,q])
def ur3(lo hi:Option Int)(n:Nat):(Z6 lo hi none n).1=((HT.bR n 0 lo:Nat):Int)/\(Z6 lo hi none n).2.1=((HT.bR n n hi:Nat):Int)/\(Z6 lo hi none n).2.2=1:=by
 apply#[?_,?_,rfl]
 .cases lo with
  | none=>simp[Z6,HT.bR]| some i =>
   simp only[Z6,HT.bR,C01,show(1:Int)>0 by decide,if_true];by_cases h:i<0
   .simp only[h,if_true] <;> omega
   .simp only[h,if_false] <;> omega
 .cases hi with
  | none=>simp[Z6,HT.bR]| some i =>
   simp only[Z6,HT.bR,C01,show(1:Int)>0 by decide,if_true];by_cases h:i<0
   .simp only[h,if_true] <;> omega
   .simp only[h,if_false] <;> omega
def un0(its:List Value)(lo hi:Option Int):Ov its.toArray lo hi none=((its.drop (HT.bR its.length 0 lo)).take (HT.bR its.length its.length hi-HT.bR its.length 0 lo)).toArray:=by let#[h,g,f]:=ur3 lo hi its.toArray.size;unfold Ov;rw[h,g,f];simp only[sliceRange_one,pick_run,D9] <;> rfl
def UQ(K:W.Frag):V->Option Int->Option Int->Hp->VK->Prop:=λx lo hi H Q=>∃a xs,x=.ref a/\eP K H a xs/\∀p,H p=none->Q (.ref p) (upd H p (.lst (n_ xs lo hi)))
def xG:uH X (UQ X.K):=by intro pins s p H x v u t lo hi A Q I i n k j h;let#[a,xs,rfl,m,q]:=h;cases i;let#[its,r,g,l]:=I.list m;have f:=r.length;apply#["list",_,YF.lookup,g.isList.typeIs,?_];apply wpAny_getItem_list_slice g.isList n k j .none (by simp) ?_ (by rw[D9] <;> omega);rw[un0,<- f];apply#[.ref s.heap.objs.size,_,I.laid (t':=s.toks) (o:=.lst (n_ xs lo hi)) (λb B q=>B8 _ q) (B9 _) ?_,rfl,q _ (I.aE.fresh (B9 _))];exact#[D3 (uj7 xs lo hi) l,_,0,(r.drop (HT.bR xs.length 0 lo)).take (HT.bR xs.length xs.length hi-HT.bR xs.length 0 lo),E1 _ rfl]
def tG:V->Bool
 | .non=>true| .bl _=>true| .int _=>true| .str _=>true| _=>false
def yv:V->V->Bool
 | .non,.non=>true| .bl a,.bl b=>a==b| .bl a,.int b=>(if a then 1 else 0)==b| .int a,.bl b=>a==(if b then 1 else 0)| .int a,.int b=>a==b| .str a,.str b=>a==b| _,_=>false
def w26(h:RelV y u)(f:RelV x v)(j:tG y=true)(i:tG x=true):Cu A s u v (yv y x):=by
 cases y with
 | non =>
  cases h;cases x with
  | non=>cases f;exact YB _
  | bl b=>cases f;exact C86 b
  | int b=>let#[t,rfl]:=f;exact C99 b t| str b=>let#[t,rfl]:=f;exact D00 b t| _=>exact absurd (show false=true from i) C8
 | bl a =>
  cases h;cases x with
  | non=>cases f;exact C87 a
  | bl b=>cases f;exact C88 a b
  | int b=>let#[t,rfl]:=f;exact D01 a b t| str b=>let#[t,rfl]:=f;exact D02 a b t| _=>exact absurd (show false=true from i) C8
 | int a =>
  let#[g,rfl]:=h;cases x with
  | non=>cases f;exact D03 a g
  | bl b=>cases f;exact D04 a g b
  | int b=>let#[t,rfl]:=f;exact D10 a g b t| str b=>let#[t,rfl]:=f;exact B68 a g b t| _=>exact absurd (show false=true from i) C8
 | str a =>
  let#[g,rfl]:=h;cases x with
  | non=>cases f;exact D05 a g
  | bl b=>cases f;exact D06 a g b
  | int b=>let#[t,rfl]:=f;exact B69 a g b t| str b=>let#[t,rfl]:=f;exact D11 a g b t| _=>exact absurd (show false=true from i) C8
 | _=>exact absurd (show false=true from j) C8
def qm(x:V)(u:Value):Bool:=match u with
 | .none=>yv .non x| .bool b=>yv (.bl b) x| .int i _=>yv (.int i) x| .str z _=>yv (.str z) x| _=>false
def w25(r:RelV y u)(f:tG y=true):qm x u=yv y x:=by
 cases y with
 | non=>cases r;rfl
 | bl b=>cases r;rfl
 | int i=>let#[t,rfl]:=r;rfl| str z=>let#[t,rfl]:=r;rfl| _=>exact absurd (show false=true from f) C8
theorem EG:∀{xs:List V} {us:List Value},Vals xs us->xs.all tG=true->us.any (qm x)=xs.any λy=>yv y x
 | _,_,.nil,_=>rfl| y::xs,u::us,.cons r t,f=>by rw[W8,O2] at f;rw[O0,O0,w25 r f.1,EG t f.2]
theorem EW(g:RelV x v)(h:tG x=true):∀{xs:List V} {us:List Value},Vals xs us->xs.all tG=true->∀u∈us,Cu A s u v (qm x u)
 | _,_,.nil,_=>λu hu=>by cases hu
 | y::xs,u::us,.cons r t,f=>λi hu=>by
  rw[W8,O2] at f;rcases D4.mp hu with rfl|hu
  .rw[w25 r f.1];exact w26 r g f.1 h
  .exact EW g h t f.2 i hu
def Ds(x:V)(xs:List V):Bool:=xs.any λy=>yv y x
def UT(K:W.Frag)(neg:Bool):R2:=λx y H Q=>∃p xs,y=.ref p/\(eP K H p xs\/eC K H p xs)/\tG x=true/\xs.all tG=true/\Q (.bl (if neg then !Ds x xs else Ds x xs)) H
def vc1:cX X (K2 .In) (UT X.K false):=by
 intro pins s m H x y v u Q I i k h;let#[p,xs,rfl,hq,j,f,q]:=h;cases k;rcases hq with hq|hq
 .let#[its,r,g,l]:=I.list hq;apply SeqAt.in_listAt (qm x) g.isList (λw hw=>EW i j r f w (by simpa using hw)) #[.bl _,H,I,rfl,?_];rw[show its.toArray.any (qm x)=its.any (qm x) by simp,EG r f];exact q
 .let#[its,r,g,l]:=I.tuple hq;apply SeqAt.in_tupleAt (qm x) g (λw hw=>EW i j r f w (by simpa using hw)) #[.bl _,H,I,rfl,?_];rw[show its.toArray.any (qm x)=its.any (qm x) by simp,EG r f];exact q
def us2:cX X (K2 .NotIn) (UT X.K true):=by
 intro pins s m H x y v u Q I i k h;let#[p,xs,rfl,hq,j,f,q]:=h;cases k;rcases hq with hq|hq
 .let#[its,r,g,l]:=I.list hq;apply SeqAt.notIn_listAt (qm x) g.isList (λw hw=>EW i j r f w (by simpa using hw)) #[.bl _,H,I,rfl,?_];rw[show its.toArray.any (qm x)=its.any (qm x) by simp,EG r f];exact q
 .let#[its,r,g,l]:=I.tuple hq;apply SeqAt.notIn_tupleAt (qm x) g (λw hw=>EW i j r f w (by simpa using hw)) #[.bl _,H,I,rfl,?_];rw[show its.toArray.any (qm x)=its.any (qm x) by simp,EG r f];exact q
def lJ:bG X (.builtin "len") (λxs H Q=>∃p ys,xs=[.ref p]/\(eP X.K H p ys\/eC X.K H p ys)/\Q (.int ys.length) H):=by
 intro pins s l H xs m Q I r h;let#[p,ys,rfl,hq,q]:=h;let#[u,rfl,j]:=vals1 r;cases j;have n:=il;rcases hq with hq|hq
 .let#[its,g,i,k]:=I.list hq;have f:=g.length;exact Calls.call_len_list i.isList (by simp only[D9] <;> omega) #[.int ys.length,H,I.tok _,#[s.toks+1,by rw[D9,f]],q]
 .let#[its,g,i,k]:=I.tuple hq;have f:=g.length;exact len_tuple i (by simp only[D9] <;> omega) #[.int ys.length,H,I.tok _,#[s.toks+1,by rw[D9,f]],q]
def ut6:bG X (.builtin "len") (λxs H Q=>∃z,xs=[.str z]/\z.length<=sizeLine/\Q (.int z.length) H):=by intro pins s f H xs g Q I r h;let#[z,rfl,i,q]:=h;let#[u,rfl,t,rfl]:=vals1 r;have j:=il;exact len_str () #[.int z.length,H,I.tok _,#[_,rfl],q]
def bG.or{f:Value}{r r':List V->Hp->VK->Prop}(h:bG X f r)(h':bG X f r'):bG X f (λxs H Q=>r xs H Q\/r' xs H Q):=by
 intro pins s g H xs i Q I j q;rcases q with q|q
 .exact h pins s g H xs i Q I j q
 .exact h' pins s g H xs i Q I j q
def ut5:bG X (.type "list") (λxs H Q=>∃p ys,xs=[.ref p]/\(eP X.K H p ys\/eC X.K H p ys)/\∀l,H l=none->Q (.ref l) (upd H l (.lst ys))):=by
 intro pins s E H xs L Q I r h;let#[p,ys,rfl,hq,q]:=h;let#[u,rfl,G]:=vals1 r;cases G;have fin:∀(its:List Value),Vals ys its->ys.length<=sizeLine->∀(f:Heap) (i:Nat),(∀b C,s.heap.get? b=some C->f.get? b=some C) ->
   f.get? s.heap.objs.size=some { cls:=.type "list",dict:=none,data:=.seq its.toArray i,slots:=[].toArray}->EP X pins E Q (.ref s.heap.objs.size) { s with heap:=f}:=λits g k f i j e =>
  #[.ref s.heap.objs.size,_,I.laid (t':=s.toks) j (B9 _) (show bg X.prog X.w _ f _ (.lst ys) from #[k,its,i,g,e]),rfl,q _ (I.aE.fresh (B9 _))]
 rcases hq with hq|hq
 .let#[its,g,x,k]:=I.list hq;have m:=g.length;let#[o,y,B,n,A]:=x.isList;exact call_list_seq p (.inl rfl) y B A (λf i j e=>fin its g k f i j e) (by simp only[D9] <;> omega)
 .let#[its,g,x,k]:=I.tuple hq;have m:=g.length;let#[o,y,B,n,A]:=x;exact call_list_seq p (.inr rfl) y B A (λf i j e=>fin its g k f i j e) (by simp only[D9] <;> omega)
def uq1:bG X (.type "tuple") (λxs H Q=>∃p ys,xs=[.ref p]/\((eP X.K H p ys/\∀l,H l=none->Q (.ref l) (upd H l (.tup ys)))\/(eC X.K H p ys/\Q (.ref p) H))):=by
 intro pins s k H xs E Q I r h;let#[p,ys,rfl,h]:=h;let#[u,rfl,y]:=vals1 r;cases y;rcases h with⟨j,q⟩|⟨j,q⟩
 .let#[its,g,i,m]:=I.list j;have n:=g.length;apply call_tuple_list i.isList (λf A=>?_) (by simp only[D9] <;> omega);have t:Inv X pins k H { s with heap:=f}:=I.kept (t':=s.toks) A;have C:Inv X pins k (upd H f.objs.size (.tup ys)) { s with heap:=f.push { cls:=.type "tuple",data:=.seq its.toArray}}:=
   t.laid (t':=s.toks) (λb o e=>B8 _ e) (B9 _) (show bg X.prog X.w _ _ _ (.tup ys) from #[m,its,g,oi.new _ _])
  exact#[.ref f.objs.size,_,C,rfl,q _ (t.aE.fresh (B9 _))]
 .let#[its,g,i,m]:=I.tuple j;exact call_tuple_same i #[.ref p,H,I,rfl,q]
def Ff(K:W.Frag)(T:String)(x:V)(H:Hp):Prop:=match x with
 | .str _=>T = "str"| .int _=>T = "int"| .ref p=>(T = "list" /\ ∃xs,eP K H p xs)\/(T = "tuple" /\ ∃o,K.lookup p=some o/\o.cls=.type "tuple" /\ o.dict=none) \/
   (T = "dict" /\ ((∃kvs,H p=some (.dK kvs))\/∃kvs,H p=some (.dT kvs)))\/(T = "set" /\ ∃S n,H p=some (.set S n))
 | _=>False
def wr6(I:Inv X pins m H s)(r:RelV x v)(ty:Ff X.K T x H): s.TypeIs v T/\∀a,v=.ref a->∃ob,s.heap.get? a=some ob/\ob.dict=none:=by
 cases x with
 | str z =>let#[t,rfl]:=r;cases(show T = "str" from ty);exact#[XR s z t,λ_ e=>nomatch e]
 | int i =>let#[t,rfl]:=r;cases(show T = "int" from ty);exact#[XQ s i t,λ_ e=>nomatch e]
 | ref p =>
  cases r;rcases ty with⟨rfl,xs,k⟩|⟨rfl,o,f,l,g⟩|⟨rfl,f⟩|⟨rfl,S,n,f⟩
  .let#[its,_,j,_]:=I.list k;apply#[j.isList.typeIs,λa e=>?_];cases e;let#[o,n,e,c,g,_]:=j;exact#[o,e,g]
  .apply#[#[o,I.iN p o f,l],λa e=>?_];cases e;exact#[o,I.iN _ o f,g]
  .have z:∃o,s.heap.get? p=some o/\o.ExactDict:=by
    rcases f with⟨kvs,f⟩|⟨kvs,f⟩
    .let#[_,_,_,_,o,_,_,e,ex,_]:=I.aE p _ f;exact#[o,e,ex]
    .let#[_,_,_,_,o,_,_,e,ex,_]:=I.aE p _ f;exact#[o,e,ex]
   let#[o,e,ex]:=z;apply#[#[o,e,ex.1],λa h=>?_];cases h;exact#[o,e,ex.2.1]
  .let#[o,_,_,_,e,ex,_]:=I.aE p _ f;apply#[#[o,e,ex.1],λa h=>?_];cases h;exact#[o,e,ex.2.1]
 | _=>exact P6 ty
def tBM(K:W.Frag)(T:String)(r:V->List V->Hp->VK->Prop)(to:TE)(t:TA):TE:=λf H Q=>to f H λx g=>Ff K T x g/\t f g λxs h=>r x xs h Q
variable{o e:Expr}{es:List Expr}{to:TE}{t:TA}{name:Str}{apos aN:Pos}{T id:String}{r:V->List V->Hp->VK->Prop}
def Qs(A:PlainAttrs T)(slot:Slot T name id)(g:typeOf (.builtin id)=pure (.type "method_descriptor"))(G:zG X id r)(E:PE X o to)(J:PA X (e::es) t) (O:N3 o name X.env (eval o X.env)=eval o X.env:=by rfl)
  (B:((backTo aN (D0 (e::es) X.env)).all (λx=>!x.1)&&(W4 aN (O7 [] X.env)).all (λx=>x.1.isSome)
   && decide ((e::es).length+([]:List Keyword).length+(if([]:List Keyword).isEmpty then 0 else 1)<30))=true:=by rfl)
  (R:(apos.endLine==aN.line)=true:=by rfl) (C:D0 (e::es) X.env=(false,eval e X.env)::D0 es X.env:=by rfl) (N:(backTo aN (D0 es X.env)).any (·.1)=false:=by rfl):
  PE X (.Call (.Attribute o name apos) (e::es) [] aN) (tBM X.K T r to t):=by
 intro pins s f H Q I h
 (apply wpAny_Call_method_late O B R rfl (aZ (E pins s f H _ I h) ?_);rintro v p ⟨x,Y,k,i,ty,y⟩)
 let#[M,L]:=wr6 k i ty;apply#[T,id,A,slot,g,M,L,?_];have j:=J aN pins p f Y _ k y;rw[C] at j⊢;apply U5 (by show(false||(backTo aN (D0 es X.env)).any (·.1))=false;rw[N] <;> rfl) (Z1 ?_)
 (apply aZ j ?_;rintro m n ⟨l,U,S,q,u⟩;exact G pins n f U x l v m Q S i q u)
end
def MtM(X:Cx)(id:String)(r:V->List V->Hp->VK->Prop):Prop:=
 ∀(pins:List (Addr×Obj)) (s:Shared) (f:St) (H:Hp) (x:V) (xs:List V) (v:Value) (g:List Value) (Q:VK),Inv X pins f H s->RelV x v->Vals xs g->r x xs H Q ->
  wpAny (model X.prog X.w) X.A (call (.builtin id) (v::g)) (EP X pins f Q) X.xe s
def Vals.one(h:Vals [x] us):∃u,us=[u]/\RelV x u:=by cases h with|cons r t=>cases t;exact#[_,rfl,r]
def Vals.two(h:Vals [x,y] us):∃u v,us=[u,v]/\RelV x u/\RelV y v:=by cases h with|cons r t=>cases t with|cons q t=>cases t;exact#[_,_,rfl,r,q]
theorem Vals.reverse{xs:List V}{us:List Value}(h:Vals xs us):Vals xs.reverse us.reverse:=by
 induction h with
 | nil=>exact .nil| cons r t f=>rw[T9,T9];exact Vals.append f (.cons r .nil)
theorem Vals.rep(h:Vals xs us):∀k:Nat,Vals (D6 k xs).flatten (D6 k us).flatten
 | 0=>.nil| k+1=>by rw[K0,K0,K5,K5];exact Vals.append h (Vals.rep h k)
theorem foldl_rep(its:List Value):∀(k:Nat) (acc:List Value), XX (λg f=>g++f) acc.toArray (D6 k its.toArray)=(acc++(D6 k its).flatten).toArray
 | 0,acc=>by simp| k+1,acc=>by
  have e:acc.toArray++its.toArray=(acc++its).toArray:=by simp
  have h:(acc++its)++(D6 k its).flatten=acc++(D6 (k+1) its).flatten:=by rw[K0,K5,D1]
  rw[<- h,<- foldl_rep its k (acc++its),<- e,K0,Y6]
section
variable{X:Cx}{pins:List (Addr×Obj)}{σ:St}{H:Hp}{s:Shared}{l b:Addr}{xs ys zs:List V}
def Inv.HP{its gG:List Value}(I:Inv X pins σ H s)(m:H l=some (.lst xs)) (e:s.heap.get? l=some { cls:=.type "list",data:=.seq its.toArray n}) (j:f its.toArray=gG.toArray) (h:Vals ys gG) (g:ys.length<=sizeLine): Inv X pins σ (upd H l (.lst ys)) { s with heap:=s.heap.update l (Lz f),toks:=t'}:=by
 have q:=D22 e f;rw[j] at q;apply I.write (x:=l) (e:=l) (by rw[m];exact trivial) (.inl rfl) (λb' u k i=>(B23 s.heap (Lz f) (D2 k)).trans i) #[_,q] ?_;exact#[g,gG,_,h,q]
def Inv.Bi(I:Inv X pins σ H s)(g:Vals ys its)(f:ys.length<=sizeLine): Inv X pins σ (upd H s.heap.objs.size (.lst ys)) { s with heap:=s.heap.push { cls:=.type "list",data:=.seq its.toArray},toks:=t'}:=I.laid (λ_ _ q=>B8 _ q) (B9 _) #[f,its,0,g,E1 _ rfl]
theorem Inv.fresh(I:Inv X pins σ H s):H s.heap.objs.size=none:=I.aE.fresh (B9 _)
def Inv.sj(I:Inv X pins σ H s)(f:H l=some (.lst xs)):xs.length<=sizeLine/\∃(its:List Value) (n:Nat),Vals xs its/\xs.length=its.length/\s.heap.get? l=some { cls:=.type "list",data:=.seq its.toArray n}:=by let#[z,its,n,r,e]:=I.aE l _ f;exact#[z,its,n,r,r.length,e]
def v04(h:n<=sizeLine):W9 n=false:=by unfold W9;exact decide_eq_false ()
end
section
variable{X:Cx}
def we6:V->List V->Hp->VK->Prop:=λx f H Q=>∃l xs y,x=.ref l/\f=[y]/\H l=some (.lst xs)/\xs.length<sizeLine/\Q .non (upd H l (.lst (xs++[y])))
def us5:MtM X "list.append" we6:=by intro pins s k H x m v o Q I g i h;let#[l,xs,y,rfl,rfl,f,p,q]:=h;cases g;let#[u,rfl,j]:=i.one;let#[z,its,n,r,t,e]:=I.sj f;apply Cs F.slot_list_append #[_,e,rfl] F.entry_list_append (F.args_list_append_2 _ _) (PySem.list_append l its.toArray n u (by rw[D9];omega)) #[e,?_];apply#[.non,_,I.HP (gG:=its++[u]) f e (by simp) (r.append (.cons j .nil)) ?_,rfl,q];rw[B4,O9];omega
def we5:V->List V->Hp->VK->Prop:=λx g H Q=>∃l b xs f,x=.ref l/\g=[.ref b]/\H l=some (.lst xs)/\H b=some (.lst f)/\xs.length+f.length<=sizeLine/\Q .non (upd H l (.lst (xs++f)))
def vd0:MtM X "list.extend" we5:=by
 intro pins s A H x E v G Q I j k h;let#[l,b,xs,B,rfl,rfl,g,t,J,q]:=h;cases j;let#[u,rfl,m]:=k.one;cases m;let#[z,its,n,r,L,e]:=I.sj g;let#[C,f,p,o,N,y]:=I.sj t;have hsz:its.toArray.size+f.toArray.size<=sizeLine:=by rw[D9,D9];omega
 have i:¬ (!its.toArray.isEmpty&&W9 (its.toArray.size+f.toArray.size))=true:=by rw[v04 hsz,Bool.and_false];exact C8
 apply Cs F.slot_list_extend #[_,e,rfl] F.entry_list_extend (F.args_list_extend_2 _ _)
  (AutoSeq1.list_extend_list_list_0 l its.toArray n b f.toArray p i (by rw[D9];omega) ()) #[e,y,?_]
 apply#[.non,_,I.HP (gG:=its++f) g e (by simp) (r.append o) ?_,rfl,q];rw[B4];omega
def UU:R2:=λx y H Q=>∃l b xs f,x=.ref l/\y=.ref b/\H l=some (.lst xs)/\H b=some (.lst f)/\xs.length+f.length<=sizeLine/\∀p,H p=none->Q (.ref p) (upd H p (.lst (xs++f)))
def wy2:cX X (L8 .Add) UU:=by
 intro pins s t H x y v u Q I i g h;let#[l,b,xs,A,rfl,rfl,k,m,G,q]:=h;cases i;cases g;let#[z,its,n,r,J,e]:=I.sj k;let#[B,f,E,j,L,p]:=I.sj m;apply PySem.P.add_list e p ?_ (by rw[D9,D9];omega);have o:its.toArray++f.toArray=(its++f).toArray:=by simp
 rw[o];exact#[.ref _,_,I.Bi (t':=s.toks) (r.append j) (by rw[B4];omega),rfl,q _ I.fresh]
def UR:R2:=λx y H Q=>∃l k xs,x=.ref l/\y=.int k/\H l=some (.lst xs)/\-(2^63)<=k/\k<2^63/\xs.length*k.toNat<=sizeLine /\
 ∀p,H p=none->Q (.ref p) (upd H p (.lst (D6 k.toNat xs).flatten))
def len_rep{f:Type}(xs:List f)(k:Nat):(D6 k xs).flatten.length=k*xs.length:=by
 induction k with
 | zero=>simp| succ k g=>rw[K0,K5,B4,g,Z7,P5]
def wx7:cX X (L8 .Mult) UR:=by
 intro pins s R H x y v u Q I C B h;let#[l,k,xs,rfl,rfl,G,L,J,j,q]:=h;cases C;let#[t,rfl]:=B;let#[z,its,n,r,E,e]:=I.sj G;have f:its.toArray.size*k.toNat<=sizeLine:=by rw[D9,<- E];exact j
 have O:¬ its.toArray.size*k.toNat>(2^63-1) / 8:=by have:(sizeLine:Nat)<=(2^63-1) / 8:=∅;omega
 have N:¬ (!Builtin.List.listFitsIndex k)=true:=by rw[fitsIndex_both L J];exact C8
 have o:¬ W9 (its.toArray.size*k.toNat)=true:=by rw[v04 f];exact C8
 have p:XX (λi g=>i++g) [].toArray (D6 (if its.toArray.isEmpty=true then 0 else k.toNat) its.toArray)=(D6 k.toNat its).flatten.toArray:=by
  have M:∀m:Nat,XX (λi g=>i++g) [].toArray (D6 m its.toArray)=(D6 m its).flatten.toArray:=λm=>by have:=foldl_rep its m [];rw[I0] at this;exact this
  rw[M];cases its with
  | nil=>simp| cons a Y=>rw[if_neg (by simp)]
 apply wpAny_binaryOp_repeat_ref (T:= "list") (U:= "int") ∅ #[_,e,rfl] (λA=>XQ A k t) noFill_list_mul F.fills_int_mul F.slot_int_rmul repeat_list F.slot_int_index.lookup
  (Cs F.slot_int_rmul (XQ s k t) F.entry_int_rmul (F.args_int_rmul_2 _ _) (int___rmul___int_list k t l its.toArray n)
   #[e,rfl,#[_,e,rfl],Cs F.slot_list_mul #[_,e,rfl] F.entry_list_mul (F.args_list_mul_2 _ _) (B83 l its.toArray n k t N O o) #[e,?_]])
 rw[p];exact#[.ref _,_,I.Bi (t':=s.toks) (r.rep k.toNat) (by rw[len_rep,OI];exact j),rfl,q _ I.fresh]
end
end L2
namespace Att
open PySem PySem.W PySem.Calls PyProof.Rows
def uj2{P:Params}:∀(ns:List Int) (vs:List Value),WellAll P h vs (ns.map D23)->wc vs ns:=by
 intro ns;induction ns with
 | nil =>intro vs w;rw[LJ] at w;cases w;exact .nil
 | cons n ns f =>
  intro vs w;rw[C0] at w;cases w with
  | cons a b =>cases a;exact .cons _ _ (f _ b)
def v99{l:Oj}(A:l.most=some n){P:Params} (k:l.row.toRowW.claim.pre args=true) (o:WellAll P h f args): ∃a vs ns,f=[E7 a]/\args=[WData.list (ns.map D23)]/\h.get? a=some { cls:=.type "list",data:=.seq vs.toArray}/\wc vs ns/\ns.length<=n:=by
 have G:WShape.hasAll [] args [.list .int]=true:=(pre_splitW k).1;have m:l.pre.holds [] { args:=args}=true:=(pre_splitW k).2;let#[d,r,rfl,E,C]:=hasAllW_cons G;obtain rfl:=hasAllW_nil C;let#[xs,rfl,B]:=hasW_list E;let#[ns,rfl]:=items_int B;have g:ns.length<=n:=by
  unfold Oj.pre at m;have j:(WTm.not (.lt (.lit (.int (n:Int))) (.len (.arg 0)))).holds [] { args:=[.list (ns.map .int)]}=true:=by have j:=(holds_andW m).1;rw[A] at j;exact j
  have i:=condW_of j (w_not (w_lt w_lit (w_len_list (w_arg rfl))));rw[B0] at i;apply C00 λq=>?_;have x:(n:Int)<((ns.length:Nat):Int):=()
  first
   | (rw[decide_eq_true x] at i;exact absurd i ∅)
   | (simp at i;omega)
 cases o with
 | cons t p =>
  cases p;cases t with
  | list y u=>exact#[_,_,ns,rfl,rfl,y,uj2 ns _ u,g]
def va9(l:Oj)(args:List WData):l.row.toRowW.claim.post args (.bool true) args=true:=
 postW_of (r:=l.row.toRowW) (X:=(true==true))
  (show D12 [] (.bool true) .bool=true by first|rfl|decide|simp[D12,WShape.arms,WShape.armsAll])
  (show(WTm.eq .res (.lit (.bool true))).value [] { args:=args,res:=some (.bool true),after:=args}=some (.bool (true==true)) from w_eq_bool (w_res rfl) w_lit) rfl
def og{l:Oj}{d:DefRec} (I:l.most=some n) (IW:d.params.defaults=[]) (call:∀(w:World) (s₀ g:Shared) (mg t:Str->Option Value) (k:Addr) (o:Obj) (p cd doc:Value) (a:Addr) (vs:List Value) (ns:List Int), Ground q h [] X w s₀ mg t g.heap->U w g.heap -> g.heap.get? k=some o->o.data=.func (docDef d.name d.params d.body d.scope p cd doc)->g.heap.CodeRec cd d.name->mg d.name=some (.ref k) -> g.heap.get? a=some { cls:=.type "list",data:=.seq vs.toArray}->wc vs ns->ns.length<=n->g.gens=[].toArray -> sO (model l.prog w) Co (.call (.ref k) #[[.ref a],[]]) (λr m=>r=.ok (.ret (.bool true))/\OldK g.heap m.heap/\m.os=g.os/\yL m.gens) g): WalkO q h X U l.row.toRowW d [] (λf vs=>XW f vs):=by
 intro w s₀ g mg t G Y k o p cd doc S kV H N A hD Z M args u as B y C x L;obtain rfl:S=.none:=Dflts.none hD IW;obtain rfl:kV=.none:=Dflts.noKw hD;let#[a,vs,ns,rfl,rfl,BG,i,j]:=v99 I B x;apply enter_call (OE (call w s₀ g mg t k o p cd doc a vs ns G Y H (fd_plain N) A Z BG i j M) λr m E=>?_);let#[rfl,R,Q,O]:=E;exact#[.inl #[.bool true,.bool true,[],rfl,λ_=>rfl,.bool true,va9 l _,λ_=>#[D15,λ_ J=>(nomatch J)]],R,Q,O]
end Att
namespace L2
open PySem PySem.Spec PyProof.Rows
theorem Nb:∀{vs:List Value} {ns:List Int},wc vs ns->Vals (ns.map V.int) vs
 | _,_,.nil=>.nil| _,_,.cons n t h=>.cons #[t,rfl] (Nb h)
def Only(H:Hp):Prop:=∀b,H b=none\/∃o xs,H b=some (.dj o (.lst xs))
def vs8{P:Program}{w:World}{K:W.Frag}{f:Shared}{vs:List Value} (Z:K.In f.heap) (N:f.heap.Ns J2 mg) (g:f.heap.Ns OA O) (G:∀x:Str,x ≠ "__name__" -> O x=Q5 x) (Wm:f.heap.NoLimit) (hg:f.gens=[].toArray) (B:f.heap.get? a=some { cls:=.type "list",data:=.seq vs.toArray}) (hi:wc vs ns) (Q:ns.length<=sizeLine) (hr:aQ k Co) (F:∀base:Heap,K.In base->base.Ns J2 mg->bz P w K mg base CX k U fd [x] sp) (I_:∀(s:Shared) (u:Value),Cp s fd #[[u],[]] [(x,u)]) (By:∀H:Hp,Only H->eP K H a (ns.map V.int)->sp [.ref a] H (λv _=>v=.bl true) λ_ _ _=>False) (WW:∀H e i,CX [] H f (λ_ _ _=>False) e i->False): sO (model P w) Co (.call (.ref U) #[[.ref a],[]]) (λr i=>r=.ok (.ret (.bool true))/\OldK f.heap i.heap/\i.os=f.os/\yL i.gens) f:=by
 have L:=Nb hi;have Vy:=hi.length;have j:∀H:Hp,Only H->eP K H a (ns.map V.int)->gm P w H f.heap->(∀b,H b≠none->b=a)->(H a≠none->K.lookup a=none) ->
   sO (model P w) Co (.call (.ref U) #[[.ref a],[]]) (λr i=>r=.ok (.ret (.bool true))/\OldK f.heap i.heap/\i.os=f.os/\yL i.gens) f:=by
  intro H R hS Y S hK;have M:∀{b:Addr} {o:Obj},f.heap.get? b=some o->H b=none->(lG f.heap H).get? b=some o:=λe n=>vt0 e n;have HG:∀{b:Addr} {o:Obj} {t:Array C69} {y:Nat},f.heap.get? b=some o->o.data=.dict t y->H b=none:=λ{b o t y} e d=>by
   cases q:H b with
   | none=>rfl| some u =>have I:b=a:=S b (by rw[q];simp);subst I;rw[B] at e;cases e;have d':Data.seq vs.toArray _=Data.dict t y:=d;cases d'
  have C:∀{b:Addr} {m:Str->Option Value},f.heap.Ns b m->(lG f.heap H).Ns b m:=λ{b m} ⟨o,t,y,e,d,r⟩=>#[o,t,y,M e (HG e d),d,r];have p:K.In (lG f.heap H):=λb o e=>M (Z b o e) (by
   cases q:H b with
   | none=>rfl| some u =>have I:b=a:=S b (by rw[q];simp);subst I;rw[hK (by rw[q];simp)] at e;cases e)
  have hM:Mod K mg (lG f.heap H):=#[p,C N,#[O,C g,G],let ⟨mc,h1,h2⟩:=Wm;#[mc,C h1,h2]];have e0:jY P w K mg (lG f.heap H) Co [] f H:=#[rfl,hM,λb o e=>wh8 e,C71 (vg4 _ _),trivial,λb g=>absurd (show b∈([]:List Addr) from g) (by simp),Y,.of_eq hg];apply OE ((F _ p (C N)).run Co [] f H #[[.ref a],[]] [.ref a] [.ref a] _ _ hr e0 (I_ f (.ref a)) (.cons rfl .nil) (By H R hS)) λr i h=>?_;cases r with
  | error e=>exact(WW H e i h).elim| ok fl =>
   cases fl with
   | next=>exact P6 h| brk=>exact P6 h| cont=>exact P6 h| ret u =>
    let#[v,H',os,A,J,Wf,r',q]:=h;have q':v=.bl true:=q;subst q';obtain rfl:u=OB true:=r';apply#[rfl,OldK.of_keep λb o e=>?_,os,A];cases q:H b with
    | none=>exact J.keep b o e q (by intro z;exact absurd (show b∈([]:List Addr) from z) (by simp)) (by simp)| some u =>
     rcases R b with z|⟨ob,xs,z⟩
     .rw[q] at z;cases z
     .have z2:=J.dO b ob ⟨_,by intro _ e;cases e⟩ z;let#[X,_]:=Y b _ z;let#[e2,_]:=Wf b _ z2;rw[e] at X;cases X;exact e2
 cases E:K.lookup a with
 | some o =>have e:=Z a o E;rw[B] at e;cases e;apply j (λ_=>none) (λ_=>.inl rfl) (.inr #[_,vs.toArray,_,E,rfl,rfl,rfl,by rw[D9,Vy];exact Q,by simpa using L]) (λb u z=>by have l:(none:Option HO)=some u:=z;cases l) (λb z=>absurd rfl z) λz=>absurd rfl z
 | none =>
  apply j (λb=>if b=a then some (.dj { cls:=.type "list",data:=.seq vs.toArray} (.lst (ns.map V.int))) else none) (λb=>?_) (.inl (.inr #[{ cls:=.type "list",data:=.seq vs.toArray},if_pos rfl])) (λb u z=>?_) (λb z=>?_) λ_=>E
  .by_cases g:b=a
   .exact .inr #[_,_,if_pos g]
   .exact .inl (if_neg g)
  .by_cases g:b=a
   .have l:=(if_pos g).symm.trans z;cases l;subst g;exact#[B,by rw[B0];exact Q,vs,_,L,B]
   .have l:=(if_neg g).symm.trans z;cases l
  .by_cases g:b=a
   .exact g
   .exact absurd (if_neg g) z
abbrev DL{K:W.Frag}{h:Heap}(_:K.In h):W.Frag:=K
def xc{l:W.OpenLaw}{n k:Nat}{q:Program}{j:List Str}{S:(Str->Option Value)->Heap->Prop}{B:World->Heap->Prop}{d:DefRec}{K:Params->W.Frag}{CX:World->wb}{sp:World->Sp}{x:Str} (J:l.most=some n) (E:n<=sizeLine) (Z:d.params.defaults=[]) (I:aQ k Co) (N:∀(w:World) (h:Heap),B w h->(K w.params).In h) (F:∀(w:World) (mg:Str->Option Value) (r:Addr) (h:Heap),(K w.params).In h->h.Ns J2 mg->mg d.name=some (.ref r) -> ∃y:wY,(∀(s:Shared) (u:Value),Cp s y #[[u],[]] [(x,u)]) /\ ∀base:Heap,(K w.params).In base->base.Ns J2 mg->bz l.prog w (K w.params) mg base (CX w) k r y [x] (sp w)) (By:∀(w:World) (H:Hp) (a:Addr) (ns:List Int),ns.length<=n->Only H->eP (K w.params) H a (ns.map V.int)->sp w [.ref a] H (λv _=>v=.bl true) λ_ _ _=>False) (U:∀(w:World) (H:Hp) (s:Shared) (e:Value) (t:Shared),CX w [] H s (λ_ _ _=>False) e t->False): W.WalkO q j S B l.row.toRowW d [] (λf vs=>XW f vs):=by
 apply Att.og J Z λw A p mg mb r o pm cd doc a vs ns G Y ho hd qS X BG m i L=>?_;have C:=N w _ Y;let#[y,M,R]:=F w mg r _ C G.T.g X;exact vs8 C G.T.g G.T.b G.T.builtins G.T.nolimit L BG m (D3 i E) I R M (λH Q O=>By w H a ns i Q O) λH e t=>U w H p e t
end L2
namespace L2
open PySem PySem.Spec PyProof.Rows
def inClass(s:Stmt)(j:Nat):Stmt:=match s with
 | .ClassDef _ _ _ body _ _ _ _ _ _ _=>body.getD j (.Pass #[0,0,0,0])| _=>.Pass #[0,0,0,0]
def sT(s:Stmt):Arguments:=match s with
 | .FunctionDef _ a _ _ _ _ _ _ _ _=>a| _=>{ posonlyargs:=[],args:=[],vararg:=none,kwonlyargs:=[],kw_defaults:=[],kwarg:=none,defaults:=[]}
def qE(s:Stmt):List Stmt:=match s with
 | .FunctionDef _ _ b _ _ _ _ _ _ _=>b| _=>[]
def bf(s:Stmt):Scope:=match s with
 | .FunctionDef _ _ _ _ _ _ h _ _ _=>h| _=>{ kind:=.function,names:=[],isGenerator:=false,isCoroutine:=false}
abbrev oV:wb:=λ_ _ _ _ _ _=>False
abbrev E0:XK:=λ_ _ _=>False
def qK:Passes oV X E0:=λ_ _ _ _ _ _ _ h=>h.elim
def Mc(f:aQ k A):A.units+1<cLine:=C9 (Nat.add_le_add_left (by decide:1<=64) _) f.units
section
variable{X:Cx}
def pv(i:Nat)(j:X.N[i]?=some x:=by rfl)(g:Jw X.env.scope x:=by first|exact Ah rfl|exact wV (Ah rfl)|exact wV (wV rfl))(h:(x==("__debug__" :Str))=false:=by decide)
  (f:(x==("__classdict__" :Str))=false:=by decide):PE X (.Name x pos) (AS i):=w03 j g h f
end
def wj9(I:Nat->Shared->Prop) (turn:∀n s,I n s->wpAny (model prog w) A (pyNext it) (λr f=>match r with
   | none=>R (.ok .next) f| some v=>wpAny (model prog w) A (OY target it v) (λ_ f=>wpAny (model prog w) A (assign target env v) (λ_ i =>
     wpAny (model prog w) A (forIn t true λc r=>if r=true then do let ok <- isTrue c env (eval c env);pure (U2 ok) else pure (U2 r)) (λok g =>
      if ok=true then wpAny (model prog w) A (eval B env) (λx o =>
       wpAny (model prog w) A (call (.builtin "list.append") [acc,x]) (λ_ l=>∃m,m<n/\I m l) (λ_ _=>False) o) (λ_ _=>False) g
      else∃m,m<n/\I m g) (λ_ _=>False) i) (λ_ _=>False) f) (λ_ _=>False) f) (λ_ _=>False) s)
  (n:Nat) (h:I n s):
  sO (model prog w) A (.compLoop (.ListComp B [#[target,iter,t,0]] scope pos) 0 it acc env) R s:=by
 apply codeAny_loop rfl I (λn s C=>?_) n h;show wpAny _ A ((compTurn (.ListComp B [#[target,iter,t,0]] scope pos) 0 it acc env).onRaise (λx=>do noteFrame x env;theTreesLotGoes x)) _ _ s;apply wpAny_noted ?_;rw[compTurn_list];apply B5 (OQ (B5 (Q6 (turn n s C) (λr f q=>?_) λ_ _ k=>k.elim)));cases r with
 | none=>exact C4 q| some v =>
  apply B5 (Q6 q (λ_ i j=>?_) λ_ _ k=>k.elim);apply B5 (Q6 j (λ_ i j=>B5 (Q6 j (λok g p=>?_) λ_ _ k=>k.elim)) λ_ _ k=>k.elim);cases ok with
  | false=>exact C4 #[rfl,p]| true =>exact B5 (B5 (Q6 p (λx o y=>B5 (Q6 y (λ_ l u=>C4 (C4 #[rfl,u])) λ_ _ k=>k.elim)) λ_ _ k=>k.elim))
def iR(env:Env):List (Str×F7)->List (Str×Addr)->List (Str×Addr)
 | [],f=>f| (x,k)::r,f=>iR env r (if(k == .free)=true then(x,(env.cells.lookup x).getD 0)::f else f)
def ux3{env:Env}(h:env.cells.lookup x=some c):cellOf env x=pure c:=by unfold cellOf;rw[h]
def ul6{scope:Scope}{env:Env}(h:∀y∈scope.names,y.2=.free->∃c,env.cells.lookup y.1=some c):closureFor scope env=pure (iR env scope.names []):=by
 have key:∀(l:List (Str×F7)) (f:List (Str×Addr)),(∀y∈l,y.2=.free->∃c,env.cells.lookup y.1=some c) ->
   (forIn l f λ(y:Str×F7) r=>if(y.2==F0)=true then do let c <- cellOf env y.1;pure (U2 ((y.1,c)::r)) else pure (U2 r):Sem (List (Str×Addr)))=pure (iR env l f):=by
  intro l;induction l with
  | nil=>intro f _;rfl| cons y r j =>
   intro f i;let#[x,k]:=y;rw[LN];by_cases m:k=.free
   .subst m;let#[c,n]:=i (x,.free) C6 rfl;have e:((F0==F0):Bool)=true:=rfl;simp only[e,if_true,ux3 n,pure_bind];rw[j _ λz g=>i z (C2 _ g)];show _=pure (iR env r (if(F0==F0)=true then _ else _));rw[e,if_pos rfl,n] <;> rfl
   .have e:(k==F0)=false:=by simpa using m
    simp only[e,K6,if_false,pure_bind];rw[j _ λz g=>i z (C2 _ g)];show _=pure (iR env r (if(k==F0)=true then _ else _));rw[e,if_neg C8]
 have e:closureFor scope env=((forIn scope.names ([]:List (Str×Addr)) λ(y:Str×F7) r=>if(y.2==F0)=true then do let c <- cellOf env y.1;pure (U2 ((y.1,c)::r)) else pure (U2 r):Sem (List (Str×Addr))) >>= λf=>pure f):=rfl;rw[e,key scope.names [] h];rfl
theorem uj8{env:Env}:∀{l:List (Str×F7)} {cs:List (Str×Addr)},(∀y∈l,y.2=.free->∃c,env.cells.lookup y.1=some c)->(∀x c,cs.lookup x=some c->env.cells.lookup x=some c) -> (iR env l cs).lookup x=some c->env.cells.lookup x=some c
 | [],_,_,h,e=>h x c e| (y,k)::r,cs,g,h,e=>by
  apply uj8 (l:=r) (λz m=>g z (C2 _ m)) (λx c e=>?_) e;by_cases i:k=.free
  .subst i;let#[d,j]:=g (y,.free) C6 rfl;rw[if_pos (show(F0==F0)=true from rfl),F5] at e;cases f:x==y with
   | true=>rw[f,j] at e;cases e;rw[eq_of_beq f];exact j
   | false=>rw[f] at e;exact h x c e
  .rw[if_neg (by simpa using i)] at e;exact h x c e
theorem TL:∀{l:List (Str×F7)} {cs:List (Str×Addr)},((∃c,cs.lookup x=some c)\/(x,F0)∈l)->∃c,(iR env l cs).lookup x=some c
 | [],_,h=>by
  rcases h with h|h
  .exact h
  .simp at h
 | (y,k)::r,cs,h=>by
  apply TL (l:=r) ?_;rcases h with⟨c,h⟩|h
  .left;by_cases f:(k==F0)=true
   .rw[if_pos f,F5];cases j:x==y with
    | true=>exact#[_,rfl]| false=>exact#[c,h]
   .rw[if_neg f];exact#[c,h]
  .rcases D4.mp h with e|h
   .injection e with i g;subst i;subst g;left;rw[if_pos (show(F0==F0)=true from rfl),F5];simp
   .exact .inr h
def ml(X:Cx)(N':List Str)(scope:Scope)(C:Addr)(s:Shared)(H:Hp)(i:List Addr):Cx:={ X with N:=N',s₀:=s,H₀:=H,env:=XI scope (iR X.env scope.names []) C X.env,outer:=X.stack,ex:=i,fn:=λ_=>false,pn:=[],xe:=λ_ _=>False}
structure jC(X:Cx)(N':List Str)(ix:List (Option Nat))(scope:Scope):Prop where
 kind:scope.kind=.function
 tW:∀y∈scope.names,y.2≠.cell
 names:∀y∈scope.names,y.2=.local->scope.names.lookup y.1=some .local
 frees:∀y∈scope.names,y.2=.free->X.env.kindOf y.1=some .cell\/X.env.kindOf y.1=some .free
 len:ix.length=N'.length
 at_:∀(i j:Nat) (x:Str),N'[i]?=some x->ix[i]?=some (some j)->X.N[j]?=some x/\scope.names.lookup x=some .free
def inner(ix:List (Option Nat))(f:St):St:=ix.map λo=>o.bind λj=>(f[j]?).bind id
def Se(ix:List (Option Nat))(t:TI)(g:TG)(tc:TT)(te:TE):TE:=λn H Q=>t n H λJ r=>∀D,r D=none->∃W:Nat->Nat->St->Hp->Prop,(∃m,W 0 m (inner ix n) (upd r D (.lst [])))/\∀i m h H,W i m h H ->
 (J.stop i H/\Q (.ref D) H)\/(J.go i H/\∃N:St->Hp->Prop,(∀j k,N j k->∃o,o<m/\W (i+1) o j k)/\∀x k,J.qx i H x k->g x h k λf u=>tc f u λb q =>
  if b=true then te f q λv p=>∃l,p D=some (.lst l)/\l.length<sizeLine/\N f (upd p D (.lst (l++[v]))) else N f q)
theorem u76{env:Env}{x:Str}:∀{names:List (Str×F7)},names.lookup x=some .free->(env.kindOf x=some .cell\/env.kindOf x=some .free) -> (names.map λ(n,k)=>if(k==F0&&env.scope.kind == .function&&env.kindOf n==some .cell) then(n,P3) else(n,k)).lookup x=some .cell \/ (names.map λ(n,k)=>if(k==F0&&env.scope.kind == .function&&env.kindOf n==some .cell) then(n,P3) else(n,k)).lookup x=some .free
 | [],h,_=>by simp at h| (n,k)::r,h,j=>by
  cases f:x==n with
  | true =>
   simp only[F5,f] at h;cases h;by_cases g:(F0==F0&&env.scope.kind == .function&&env.kindOf n==some .cell)=true
   .left;show J5 x ((if(F0==F0&&env.scope.kind == .function&&env.kindOf n==some .cell)=true then(n,P3) else(n,.free))::_)=_;rw[if_pos g];simp only[F5,f]
   .right;show J5 x ((if(F0==F0&&env.scope.kind == .function&&env.kindOf n==some .cell)=true then(n,P3) else(n,.free))::_)=_;rw[if_neg g];simp only[F5,f]
  | false =>
   simp only[F5,f] at h;have i:=u76 (env:=env) h j;show J5 x ((if(k==F0&&env.scope.kind == .function&&env.kindOf n==some .cell)=true then(n,P3) else(n,k))::_)=_ \/
    J5 x ((if(k==F0&&env.scope.kind == .function&&env.kindOf n==some .cell)=true then(n,P3) else(n,k))::_)=_
   by_cases g:(k==F0&&env.scope.kind == .function&&env.kindOf n==some .cell)=true
   .rw[if_pos g];simp only[F5,f];exact i
   .rw[if_neg g];simp only[F5,f];exact i
theorem u77{env:Env}{x:Str}:∀{names:List (Str×F7)},(∀y∈names,y.2≠.cell) -> ((names.map λ(n,k)=>if(k==F0&&env.scope.kind == .function&&env.kindOf n==some .cell) then(n,P3) else(n,k)).lookup x=some .cell \/ (names.map λ(n,k)=>if(k==F0&&env.scope.kind == .function&&env.kindOf n==some .cell) then(n,P3) else(n,k)).lookup x=some .free)->(x,F0)∈names
 | [],_,h=>by simp at h| (n,k)::r,i,h=>by
  have h:J5 x ((if(k==F0&&env.scope.kind == .function&&env.kindOf n==some .cell)=true then(n,P3) else(n,k))::(r.map λ(n,k)=>if(k==F0&&env.scope.kind == .function&&env.kindOf n==some .cell) then(n,P3) else(n,k)))=some .cell \/
   J5 x ((if(k==F0&&env.scope.kind == .function&&env.kindOf n==some .cell)=true then(n,P3) else(n,k))::(r.map λ(n,k)=>if(k==F0&&env.scope.kind == .function&&env.kindOf n==some .cell) then(n,P3) else(n,k)))=some .free:=h
  cases g:x==n with
  | true =>
   have e:x=n:=eq_of_beq g;subst e;by_cases f:(k==F0&&env.scope.kind == .function&&env.kindOf x==some .cell)=true
   .have l:k=.free:=by simp only[O2,beq_iff_eq] at f;exact f.1.1
    subst l;exact C6
   .rw[if_neg f] at h;simp only[F5,g,D16] at h;rcases h with h|h
    .exact absurd h (i (x,k) C6)
    .subst h;exact C6
  | false =>
   apply C2 _ (u77 (env:=env) (λy j=>i y (C2 _ j)) ?_);by_cases f:(k==F0&&env.scope.kind == .function&&env.kindOf n==some .cell)=true
   .rw[if_pos f] at h;simp only[F5,g] at h;exact h
   .rw[if_neg f] at h;simp only[F5,g] at h;exact h
def lN(X:Cx)(g:List Expr)(t:TT):Prop:=
 ∀(pins:List (Addr×Obj)) (s:Shared) (f:St) (H:Hp) (Q:Bool->Hp->Prop),Inv X pins f H s->t f H Q ->
  wpAny (model X.prog X.w) X.A (forIn g true λc r=>if r=true then do let ok <- isTrue c X.env (eval c X.env);pure (U2 ok) else pure (U2 r)) (TP X pins f Q) X.xe s
def UD:TT:=λ_ H Q=>Q true H
section
variable{X:Cx}{pins:List (Addr×Obj)}{σ:St}{H:Hp}{s:Shared}
def vo5:lN X [] UD:=λ_ _ _ H _ I h=>wpAny_tests_nil #[H,I,h]
def vo4(h:PT X c t):lN X [c] t:=λpins s σ H Q I hw=>wpAny_tests_one (h pins s σ H Q I hw)
def Inv.jI{h1:Heap}(I:Inv X pins σ H s)(B:jC X N' ix scope)(f:∀b∈A,iB X pins H b)(R:∀b∈A,b<s.heap.objs.size) (ns:h1.Ns s.heap.objs.size (λ_=>none)) (old:∀b o,s.heap.get? b=some o->h1.get? b=some o): Inv (ml X N' scope s.heap.objs.size s H A) [] (inner ix σ) H { s with heap:=h1,toks:=tk}:=by
 have J:∀y∈scope.names,y.2=.free->∃c,X.env.cells.lookup y.1=some c:=λy L e=>I.ok.has y.1 (B.frees y L e);have n:∀x c,(iR X.env scope.names []).lookup x=some c->X.env.cells.lookup x=some c:=λx c e=>uj8 J (λ_ _ z=>by cases z) e;have S:∀b∈A,b∉sD X.stack:=λb l z=>by
  rcases D4.mp (I.pj b z) with e|e
  .exact(f b l).2.1 e
  .exact(f b l).2.2.1 e
 apply⟨⟨I.ok.mod,B.kind,I.ok.glob,I.ok.blt,B9 _,λx y c h1 g=>I.ok.inj x y c (n x c h1) (n y c g),λx M=>?_,λx c h=>(by cases h),I.ok.hd,I.ok.frames,.inl rfl,λb l=>#[J0 (R b l),λx c e=>(f b l).2.2.2.2.1 x c (n x c e)],
   I.bs,D3 I.ok.uB I.sz,λb o e l=>?_,S,I.stack,I.qG⟩,rfl,I.bare,Un.kept old,⟨_,ns,λi x v h1 g Y=>?_⟩,λx c e=>?_,I.aE.fresh (B9 _),λx c e=>I.fQ x c (n x c e),λp N=>absurd (show p∈([]:List (Addr×Obj)) from N) (by simp),I.aE.kept old,?_⟩
 .exact TL (.inr (u77 B.tW M))
 .rcases(f b l).2.2.2.1 with z|z
  .exact I.ok.tV b o e z
  .exact absurd (C5 (D5 e) (D3 I.ok.uB z)) (D' _)
 .have g:(ix.map λo=>o.bind λj=>(σ[j]?).bind id)[i]?=some (some v):=g;rw[F8] at g;cases k:ix[i]? with
  | none=>rw[k] at g;cases g
  | some o =>
   rw[k] at g;cases o with
   | none=>cases g
   | some j =>
    have g:(σ[j]?).bind id=some v:=D8 g;have g:σ[j]?=some (some v):=by
     cases E:σ[j]? with
     | none=>rw[E] at g;cases g
     | some w=>rw[E] at g;cases g;rfl
    let#[Q,q]:=B.at_ i j x h1 k;have hk:=B.frees (x,.free) (Q7 q) rfl;let#[m,U,O]:=I.loc;let#[u,r,lk]:=O j x v Q g (hk.elim (λz=>.inr (.inl z)) λz=>.inr (.inr z));apply#[u,r,.inr ?_];rcases lk with⟨z,_⟩|⟨_,c,e,z⟩
    .rcases hk with hk|hk
     .exact absurd (hk.symm.trans z) ∅
     .exact absurd (hk.symm.trans z) ∅
    .let#[C,G]:=TL (env:=X.env) (cs:=[]) (.inr (Q7 q));have ec:C=c:=D8 ((n x C G).symm.trans e);subst ec;apply#[u76 q hk,C,G,?_];let#[o,k,t]:=z;exact#[o,old _ _ k,t]
 .let#[v,o,k,t]:=I.cell x c (n x c e);exact#[v,o,old _ _ k,t]
 .show(inner ix σ).length=N'.length;unfold inner;rw[B0];exact B.len
def vk3{elt tg iter:Expr}{ifs:List Expr}{scope:Scope}{pos:Pos}{N':List Str}{ix:List (Option Nat)}{g:TG}{tc:TT}{te:TE}{J:It}{G:List Addr}{it:Addr}{tn:Nat->Heap->Prop}(B:jC X N' ix scope) (hg:∀C s H G,PG (ml X N' scope C s H G) tg g) (hi:∀C s H G,lN (ml X N' scope C s H G) ifs tc) (he:∀C s H G,PE (ml X N' scope C s H G) elt te) (hc:X.calm=true) (I:Inv X pins σ H s) (T:Turn X.prog X.w X.K tg J G it tn) (st:tn 0 s.heap) (f:∀b∈G,iB X pins H b) {Q:VK} {E:Value->Shared->Prop} (w:∃W:Nat->Nat->St->Hp->Prop,(∃m,W 0 m (inner ix σ) (upd H s.heap.objs.size (.lst [])))/\∀i m L H,W i m L H -> (J.stop i H/\Q (.ref s.heap.objs.size) H)\/(J.go i H/\∃N:St->Hp->Prop,(∀σ' O,N σ' O->∃m',m'<m/\W (i+1) m' σ' O)/\∀x O,J.qx i H x O->g x L O λσ2 H2=>tc σ2 H2 λb H3 => if b=true then te σ2 H3 λv H4=>∃ys,H4 s.heap.objs.size=some (.lst ys)/\ys.length<sizeLine/\N σ2 (upd H4 s.heap.objs.size (.lst (ys++[v]))) else N σ2 H3)) {RR:Value->Addr->Result->Shared->Prop} (hRR:∀C O s' m,Inv X pins σ O s'->iB X pins O C->s'.heap.Ns C m->Q (.ref s.heap.objs.size) O->RR (.ref s.heap.objs.size) C (.ok .next) s'): wpAny (model X.prog X.w) X.A (newList []) (λacc s₃=>wpAny (model X.prog X.w) X.A (newFunctionEnv scope X.env.globals (iR X.env scope.names []) [] X.env.qual none .none (some X.env)) (λJn s₄ => sO (model X.prog X.w) X.A (.compStart (.ListComp elt [#[tg,iter,ifs,0]] scope pos) 0 (.ref it) acc { Jn with scope:=relabel scope X.env}) (RR acc Jn.locals) s₄) E s₃) E s:=by
 let#[W,#[m0,w0],turn]:=w;have wM:∀b∈G,b<s.heap.objs.size:=λb h=>by let#[o,ho,_]:=T.obj 0 _ st b h;exact D5 ho
 have I3:Inv X pins σ (upd H s.heap.objs.size (.lst [])) { s with heap:=s.heap.push { cls:=.type "list",data:=.seq ([]:List Value).toArray},toks:=s.toks}:=I.Bi .nil (J8 _);have Wx:∀b∈G,(upd H s.heap.objs.size (.lst [])) b=none:=λb h=>by rw[cU (J0 (wM b h))];exact(f b h).1
 have f3:∀b∈G,iB X pins (upd H s.heap.objs.size (.lst [])) b:=λb h=>#[Wx b h,(f b h).2];apply U1 (wpAny_newFunctionEnv B.tW (by intro y hy;simp at hy) (λl M R=>?_) B.kind);dsimp only at M R⊢;generalize hH3:s.heap.push { cls:=.type "list",data:=.seq ([]:List Value).toArray}=h3 at M R I3⊢;obtain⟨j,e3⟩:∃j:Shared,j={ s with heap:=h3}:=#[_,rfl];obtain rfl:h3=j.heap:=by rw[e3]
 have I3:Inv X pins σ (upd H s.heap.objs.size (.lst [])) j:=by have e:j={ s with heap:=j.heap,toks:=s.toks}:=e3;rw[e];exact I3
 have eT:j.toks=s.toks:=by rw[e3]
 have eS:({ s with heap:=l,toks:=s.toks+([]:List (Str×Value)).length}:Shared)={ j with heap:=l,toks:=j.toks+([]:List (Str×Value)).length}:=by rw[e3]
 rw[eS];have hz3:j.heap.objs.size=s.heap.objs.size+1:=by rw[<- hH3];exact R8 _ _
 have old:∀b o,j.heap.get? b=some o->l.get? b=some o:=λb o e=>R.extBut b o (J0 (D5 e)) (B8 _ e);have Nl:tn 0 j.heap:=T.keep _ _ _ st λb h o e=>by rw[<- hH3];exact B8 _ e
 have st4:tn 0 l:=T.keep _ _ _ Nl λb _ o e=>old b o e;have I4:=I3.jI (tk:=j.toks+([]:List (Str×Value)).length) B f3 (λb h=>C5 (wM b h) (by rw[hz3];exact U8 _)) (show l.Ns j.heap.objs.size (λ_=>none) from M) old;generalize NW:ml X N' scope j.heap.objs.size j (upd H s.heap.objs.size (.lst [])) G=k at I4;have eX:k.prog=X.prog/\k.w=X.w/\k.K=X.K/\k.A=X.A/\k.calm=X.calm/\k.env=XI scope (iR X.env scope.names []) j.heap.objs.size X.env/\k.ex=G/\k.outer=X.stack/\k.s₀=j/\k.H₀=upd H s.heap.objs.size (.lst [])/\k.pn=[]/\k.xe=(λ_ _=>False):=by rw[<- NW];exact#[rfl,rfl,rfl,rfl,rfl,rfl,rfl,rfl,rfl,rfl,rfl,rfl]
 have hg':PG k tg g:=NW▸hg _ _ _ _;have Wu:lN k ifs tc:=NW▸hi _ _ _ _;have he':PE k elt te:=NW▸he _ _ _ _;let#[e1,e2,e3,e4,e5,e6,e7,e8,e9,e10,e11,Oc]:=eX;have pq:∀{O:Hp},(∀b∈G,O b=none)->∀b∈G,iB k [] O b:=λ{O} hn b h=>by
  have q:=I4.ok.W' b (by rw[e7];exact h);apply#[hn b h,q.1,?_,.inl (by rw[e7];exact h),q.2,λp hp=>?_]
  .exact I4.ok.uv b (by rw[e7];exact h)
  .rw[e11] at hp;simp at hp
 have loop:sO (model X.prog X.w) X.A (.compLoop (.ListComp elt [#[tg,iter,ifs,0]] scope pos) 0 (.ref it) (.ref s.heap.objs.size) (XI scope (iR X.env scope.names []) j.heap.objs.size X.env))
   (RR (.ref s.heap.objs.size) j.heap.objs.size) { j with heap:=l,toks:=j.toks+([]:List (Str×Value)).length}:=by
  apply wj9 (λn s'=>∃i L Hi,Inv k [] L Hi s'/\tn i s'.heap/\(∀b∈G,Hi b=none)/\W i n L Hi) ?_ m0 #[0,_,_,I4,st4,Wx,w0];rintro n s5 ⟨i,Z,H5,I5,De,N_,w5⟩;rcases turn i n Z H5 w5 with⟨stop,qn⟩|⟨go,N,hN,step⟩
  .have d:=T.done k e1 e2 e3 (by rw[e5];exact hc) i [] s5 Z H5 (λ_ _=>False) I5 (pq N_) De stop;rw[e4] at d
   (apply aZ d ?_;rintro r s6 ⟨hr,I6⟩)
   subst hr;have u:=I6.base;rw[e7,e9,e10] at u;have u:Un (sD k.outer) G (upd H s.heap.objs.size (.lst [])) H5 j.heap s6.heap:=u;rw[e8] at u;have ok6:=I6.aE;rw[e1,e2] at ok6;have I7:Inv X pins σ H5 s6:=I3.Jp (ch:=G) (by have:=I6.os;rw[e9] at this;exact this) u ok6 I6.bare λb h=>#[(f b h).2.2.2.1,(f b h).2.1,(f b h).2.2.2.2.1,(f b h).2.2.2.2.2];have jh:=I6.free;let#[m,hm,_]:=I6.loc;rw[e6] at jh hm;exact hRR _ H5 s6 m I7 (I3.qh (B9 _) jh) hm qn
  .have d:=T.item k e1 e2 e3 (by rw[e5];exact hc) i [] s5 Z H5 (λ_ _=>False) I5 (pq N_) De go;rw[e4] at d
   (apply aZ d ?_;rintro r s6 ⟨u,hr,h6⟩)
   subst hr
   (apply aZ h6 ?_;rintro _ s7 ⟨x,H7,I7,r7,y7,UH,fr7⟩)
   have I7':=I7.pinned (pq fr7) (T.obj _ _ UH);have a:=hg' _ s7 Z H7 x u _ I7' r7 (step x H7 y7);rw[e1,e2,e4,e6,Oc] at a
   (apply aZ a ?_;rintro _ s8 ⟨Y,H8,I8,q8⟩)
   have t:=Wu _ s8 Y H8 _ I8 q8;rw[e1,e2,e4,e6,Oc] at t;have again:∀{U:St} {H9:Hp} {s9:Shared},Inv k ([]++EC G s7.heap) U H9 s9->N U H9->∃m,m<n/\∃i L Hi,Inv k [] L Hi s9/\tn i s9.heap/\(∀b∈G,Hi b=none)/\W i m L Hi:=λ{U H9 s9} I9 n9=>by let#[m',hm,w9]:=hN U H9 n9;apply#[m',hm,i+1,U,H9,I9.gx,T.keep _ _ _ UH λb h o e=>(I9.pin (b,o) (L6 _ (L6 _ (Ng h e)))).1,λb h=>?_,w9];let#[o,e,d]:=T.obj _ _ UH b h;exact(I9.pin (b,o) (L6 _ (L6 _ (Ng h e)))).2.1
   (apply aZ t ?_;rintro ok s9 ⟨H9,I9,q9⟩)
   cases ok with
   | false =>rw[if_neg C8] at q9⊢;exact again I9 q9| true =>
    rw[if_pos rfl] at q9⊢;have v:=he' _ s9 Y H9 _ I9 q9;rw[e1,e2,e4,e6,Oc] at v
    (apply aZ v ?_;rintro y s10 ⟨z,H10,I10,r10,ys,hD,hz,Nr⟩)
    have ap:=us5 _ s10 Y H10 (.ref s.heap.objs.size) [z] (.ref s.heap.objs.size) [y] (λ_ O=>N Y O) I10 rfl (.cons r10 .nil) #[_,ys,z,rfl,rfl,hD,hz,Nr];rw[e1,e2,e4,Oc] at ap
    (apply aZ ap ?_;rintro _ s11 ⟨_,H11,I11,_,q11⟩;exact again I11 q11)
 exact codeAny_compStart_list loop (T.self _ _ _ _ _ st4 loop)
variable{elt tg iter:Expr}{ifs:List Expr}{scope:Scope}{pos:Pos}{N':List Str}{ix:List (Option Nat)}{wi:TI}{g:TG}{tc:TT}{te:TE}
def wg7(B:jC X N' ix scope)(L:X.calm=true)(hw:PI X tg iter wi) (E:∀C s H f,PG (ml X N' scope C s H f) tg g) (hi:∀C s H f,lN (ml X N' scope C s H f) ifs tc) (G:∀C s H f,PE (ml X N' scope C s H f) elt te) (u:∀x,W0 iter X.env x=pure x:=by intro _;rfl):
  PE X (.ListComp elt [#[tg,iter,ifs,0]] scope pos) (Se ix wi g tc te):=by
 intro pins s σ H Q I h;rw[eval_ListComp];apply wpAny_comprehension_free (use:=none) rfl u (ul6 λy t e=>I.ok.has y.1 (B.frees y t e)) B.kind B.names ?_;apply aZ (hw pins s σ H _ I h) λv Z O=>aZ O λND l N=>?_;let#[it,f,U,J,H2,e,j,T,r,f2,p]:=N;subst e;apply vk3 B E hi G L j T r f2 (Q:=Q) (p _ j.fresh) λC S n m R i A q=>?_;apply#[m,A,λh' k=>#[.ref l.heap.objs.size,S,?_,rfl,q]];exact R.turned (t':=n.toks) (it:=C) (λb o M e=>k.extBut b o M e) i.1 i.2.1 i.2.2.2.1 i.2.2.2.2.1 i.2.2.2.2.2
def xg8(i:Nat)(t:TE):TS:=λD σ H=>t σ H λx f=>D.nx (σ.set i (some x)) f
def wf2{k u:Pos}(B:jC X N' ix scope)(hc:X.calm=true)(hN:X.N.Nodup)(n:X.N[i]?=some y)(U:Loc X.env.scope y)(hw:PI X tg iter wi) (Y:∀C s H j,PG (ml X N' scope C s H j) tg g) (hi:∀C s H j,lN (ml X N' scope C s H j) ifs tc) (he:∀C s H j,PE (ml X N' scope C s H j) elt te) (VU:X7 (.ListComp elt [#[tg,iter,ifs,0]] scope pos) (some (.Name y k)) u.line X.env=pure true:=by rfl)
  (Z:X.fn y=true\/X.env.scope.names.lookup y=some .local:=by first|exact .inl rfl|exact .inr rfl|assumption)
  (O:∀x,W0 iter X.env x=pure x:=by intro _;rfl):
  PS X (.Assign [.Name y k] (.ListComp elt [#[tg,iter,ifs,0]] scope pos) u) (xg8 i (Se ix wi g tc te)):=by
 intro pins s σ H D I h;rw[exec_Assign_Name_used _ _ _ _ VU];apply B5 (OQ (B5 ?_));show wpAny _ X.A (do let _ <- comprehension (.ListComp elt [⟨tg,iter,ifs,0⟩] scope pos) scope X.env _ (newList []) false (eval iter X.env) (some (assign (.Name y k) X.env))) _ _ s;apply B5 (Q6 (wpAny_comprehension_free (use:=some (assign (.Name y k) X.env)) (Q:=λ_ l=>SP X pins D .next l) rfl O (ul6 λy n e=>I.ok.has y.1 (B.frees y n e)) B.kind B.names
  (aZ (hw pins s σ H _ I h) λv s1 h1=>aZ h1 λND t h2=>?_)) (λ_ l R=>C4 (C4 R)) λ_ _ e=>e)
 let#[it,j,tn,J,H2,e,E,T,M,f2,L]:=h2;subst e;apply vk3 B Y hi he hc E T M f2 (Q:=λx H1=>D.nx (σ.set i (some x)) H1) (L _ E.fresh) λC H' l m I' f S q=>?_;show wpAny _ _ (assign (.Name y k) X.env (.ref t.heap.objs.size)) _ _ _
 (apply wpAny_assign_Name (ur2 I' hN n U (v:=.ref t.heap.objs.size) rfl (?_) Z);rintro FG r ⟨a,Ij,ha⟩)
 have p:C≠a:=by
  rcases ha with z|z
  .rw[z];exact f.2.1
  .intro e;exact f.2.2.2.2.1 _ _ z e.symm
 apply#[m,S.sameBut Ij p,λh' G=>#[_,H',?_,q]];exact r.turned (t':=FG.toks) (it:=C) (λb o hb e=>G.extBut b o hb e) f.1 f.2.1 f.2.2.2.1 f.2.2.2.2.1 f.2.2.2.2.2
end
section
variable{X:Cx}{pos:Pos}
def WY(K:W.Frag)(n:Nat)(t:zC):TG:=λv f H Q=>∃a xs,v=.ref a/\eP K H a xs/\xs.length=n/\t xs f H Q
def wg2(y:X.calm=true)(h:zD X f t) (q:(R7 f X.env).length=n:=by rfl) (j:(R7 f X.env).findIdx? (·.1)=none:=by rfl):PG X (.Tuple f k pos) (WY X.K n t):=by
 intro pins s g H v u Q I r hw;let#[a,xs,B,p,x,hw]:=hw;subst B;cases r;let#[its,i,m,G]:=I.list p;rw[C49];apply B5 (OQ ?_);unfold unpack;have hsz:(R7 f X.env).length=its.toArray.size:=by simp[q,<- x,i.length]
 rw[hsz,j];apply B5 (M0 (W.kun_itemsOf (I.ok.hd y) m.isList λA l=>?_));have C:Inv X pins g H { s with heap:=A}:=I.kept (t':=s.toks) λb o e=>l b o (J0 (D5 e)) e;exact h pins _ g H xs _ Q C (by simpa using i) hw
def xh8(h:PG X tg t)(h':PG X tg t'):PG X tg (λv f H Q=>t v f H Q\/t' v f H Q):=by
 intro pins s f H v u Q I r q;rcases q with q|q
 .exact h pins s f H v u Q I r q
 .exact h' pins s f H v u Q I r q
def VP(K:W.Frag)(h:TE):TI:=λg H R=>h g H λx f=>∃a,x=.ref a/\(((∃xs,eP K f a xs)/\R (Xy K a) f)\/((∃xs,eC K f a xs)/\R (Xx K a) f))
def wv8(B:PE X l r):PI X tg l (VP X.K r):=by
 intro pins s n H R I h
 (apply aZ (B pins s n H _ I h) ?_;rintro v f ⟨x,m,g,k,y⟩)
 obtain⟨a,e,⟨⟨xs,i⟩,q⟩|⟨⟨xs,i⟩,q⟩⟩:=y
 .subst e;cases k;let#[its,u,p,A]:=g.list i;apply W5 p.isList ?_;apply#[f.heap.objs.size,[f.heap.objs.size],_,_,m,rfl,g.kept (t':=f.toks) λb o e=>B8 _ e,v83 a _,#[_,E1 _ rfl,rfl,rfl],λb j=>?_,q];have e:b=f.heap.objs.size:=by simpa using j
  subst e;exact g.qh (B9 _) (g.aE.fresh (B9 _))
 .subst e;cases k;let#[its,u,p,A]:=g.tuple i;apply Y3 (show f.heap.IsTuple a its.toArray from p) ?_;apply#[f.heap.objs.size,[f.heap.objs.size],_,_,m,rfl,g.kept (t':=f.toks) λb o e=>B8 _ e,v36 a _,#[_,E1 _ rfl,rfl,rfl],λb j=>?_,q];have e:b=f.heap.objs.size:=by simpa using j
  subst e;exact g.qh (B9 _) (g.aE.fresh (B9 _))
def vc0:cX X (K2 .IsNot) (λx y H Q=>∃b,y=.bl b/\Q (.bl (!decide (x=.bl b))) H):=by
 intro pins s i H x y v u Q I f g h;let#[b,rfl,q]:=h;cases g;apply wpAny_isNot_plain ?_ (fI I q ?_)
 .cases x <;> first
   | (cases f;rfl)
   | (let#[t,rfl]:=f;rfl)
 .cases x <;> first
   | (let#[t,rfl]:=f;rfl)
   | (cases f;cases b <;> rfl)
   | (cases f;rename_i c;cases b <;> cases c <;> rfl)
def vu5(t:X.calm=true):bG X (.builtin "sum") (λxs H Q=>∃(p:Addr) (ns:List Int),xs=[.ref p]/\eP X.K H p (ns.map V.int)/\Q (.int ns.sum) H):=by
 intro pins s A H xs B Q I r h;let#[p,ns,rfl,n,q]:=h;let#[u,rfl,j]:=vals1 r;cases j;let#[its,k,l,G]:=I.list n;let#[m,F]:=I.fr;have hi:wc its ns:=intsAre_of k;let#[f,g]:=hi.allInts.items;have i:s.heap.IsList p (XG f):=g▸l.isList;apply sum_intListG (I.ok.hd t) i λJ C E o=>?_;have y:ns=f.toList.map (·.1):=by rw[<- Ym,<- g];exact(show numsOf its.toArray.toList=ns from hi.numsOf).symm
 have x:preSum (numAt f) f.size=ns.sum:=by rw[preSum_eq,Y1 (by simp),y]
 rw[x];exact#[.int ns.sum,H,I.kept o,#[_,rfl],q]
def wk1(K:W.Frag)(H:Hp):V->String->Prop
 | .non,n=>n = "NoneType"| .bl _,n=>n = "bool"| .int _,n=>n = "int"| .str _,n=>n = "str"| .ref a,n=>(n = "list" /\ ((∃xs,H a=some (.lst xs))\/∃o xs,H a=some (.dj o (.lst xs))))\/(n = "tuple" /\ ∃xs,H a=some (.tup xs))\/(n = "dict" /\ ∃xs,H a=some (.dK xs))| _,_=>False
def r8(n T:String):Bool:=n==T||(n == "bool" && T == "int")
def yX{K:W.Frag}{n T:String}(f:n = "NoneType" \/ n = "bool" \/ n = "int" \/ n = "str" \/ n = "list" \/ n = "tuple" \/ n = "dict")(g:T = "int" \/ T = "str" \/ T = "bool" \/ T = "list" \/ T = "tuple" \/ T = "dict"):W.kitOne K (.type n) (.type T)=some (r8 n T):=by rcases f with rfl|rfl|rfl|rfl|rfl|rfl|rfl <;> rcases g with rfl|rfl|rfl|rfl|rfl|rfl <;> rfl
def ux5:bG X (.builtin "isinstance") (λxs H Q=>∃x n T,xs=[x,.ty T]/\wk1 X.K H x n/\(T = "int" \/ T = "str" \/ T = "bool" \/ T = "list" \/ T = "tuple" \/ T = "dict")/\Q (.bl (r8 n T)) H):=by
 intro pins s p H xs y Q I r h;let#[x,n,T,rfl,k,g,q]:=h;let#[u,w,rfl,f,t]:=vals2 r;cases t;have fin:∀l,EP X pins p Q (.bool (r8 n T)) { s with toks:=l}:=λl=>#[.bl (r8 n T),H,I.tok l,rfl,q];cases x with
 | non=>cases(show n = "NoneType" from k);exact y_ I f .non (yX (by simp) g) fin
 | bl b=>cases(show n = "bool" from k);exact y_ I f (.bl b) (yX (by simp) g) fin
 | int i=>cases(show n = "int" from k);exact y_ I f (.int i) (yX (by simp) g) fin
 | str i=>cases(show n = "str" from k);exact y_ I f (.str i) (yX (by simp) g) fin
 | ref a =>
  rcases(show(n = "list" /\ ((∃xs,H a=some (.lst xs))\/∃o xs,H a=some (.dj o (.lst xs))))\/(n = "tuple" /\ ∃xs,H a=some (.tup xs))\/(n = "dict" /\ ∃xs,H a=some (.dK xs)) from k) with⟨e,⟨xs,j⟩|⟨o,xs,j⟩⟩|⟨e,xs,j⟩|⟨e,xs,j⟩
  .cases e;exact y_ I f (.lst j) (yX (by simp) g) fin
  .cases e;exact y_ I f (.dj j) (yX (by simp) g) fin
  .cases e;exact y_ I f (.tup j) (yX (by simp) g) fin
  .cases e;exact y_ I f (.dK j) (yX (by simp) g) fin
 | _=>exact(show False from k).elim
end
end L2
namespace L2
open PySem
def XH(a C:Addr)(g:Option Addr)(h:Heap):Prop:=∃o f,h.get? a=some o/\o.cls=.ref C/\o.dict=g/\o.data=.fields f
def q_(H:Hp):Option Addr->List (Str×V)->Prop
 | none,f=>f=[]| some d,f=>∃o,H d=some (.dj o (.xd f))
end L2
namespace L3
open PySem L2
inductive D where
 | non|bl (b:Bool)|int (i:Int)|str (x:Str)|tup (xs:List D)|ref (a:Addr)|ty (n:String)
inductive DO where
 | lst (xs:List D)|sE (xs:List D)|bI (kvs:List (Key×D))|Jh (kvs:List (List Key×D))|qU (kvs:List ((List Key×List Key)×D))|ins (C:Addr) (f:List (Str×D))|exc (C:Addr) (f:List (Str×D))|qg (o:Obj) (kvs:List (Key×D))|tb (g:Str) (h:Addr)
abbrev Gp:=Addr->Option DO
def aG(G:Gp)(a:Addr)(o:DO):Gp:=λb=>if b=a then some o else G b
def aC:aG G a o a=some o:=by unfold aG;rw[if_pos rfl]
def ay(h:b≠a):aG G a o b=G b:=by unfold aG;rw[if_neg h]
def hE:aG (aG G a o) a u=aG G a u:=by funext b;unfold aG;split <;> rfl
def aP{G:Gp}{a b:Addr}{o:DO}(h:G a=some o)(h':G b=none):a≠b:=by intro e;subst e;rw[h] at h';cases h'
structure Le(H H':Hp):Prop where
 fJ:∀b xs,H b=some (.tup xs)->H' b=some (.tup xs)
 dO:∀b o (u:NK),H b=some (.dj o u.1)->H' b=some (.dj o u.1)
def Le.refl(H:Hp):Le H H:=#[λ_ _ h=>h,λ_ _ _ h=>h]
def Le.trans{H g f:Hp}(a:Le H g)(b:Le g f):Le H f:=#[λc xs h=>b.fJ c xs (a.fJ c xs h),λc o u h=>b.dO c o u (a.dO c o u h)]
def Le.FA(l:Le H f)(h:eC K H a xs):eC K f a xs:=by
 rcases h with(h|⟨o,h⟩)|h
 .exact .inl (.inl (l.fJ _ _ h))
 .exact .inl (.inr ⟨o,l.dO _ _ ⟨_,by intro _ e;cases e⟩ h⟩)
 .exact .inr h
def Le.fresh(h:H p=none):Le H (upd H p o):=⟨λb xs q=>by rw[cU (xC q h)];exact q,λb o u q=>by rw[cU (xC q h)];exact q⟩
mutual
def ae(K:W.Frag)(H:Hp):D->V->Prop
 | .non,v=>v=.non| .bl b,v=>v=.bl b| .int i,v=>v=.int i| .str x,v=>v=.str x| .ref a,v=>v=.ref a| .ty n,v=>v=.ty n| .tup f,v=>∃a xs,v=.ref a/\eC K H a xs/\ag K H f xs
def ag(K:W.Frag)(H:Hp):List D->List V->Prop
 | [],xs=>xs=[]| d::f,xs=>∃x r,xs=x::r/\ae K H d x/\ag K H f r
end
section
variable{K:W.Frag}{H H':Hp}
mutual
theorem ae.le(l:Le H H'):∀{d:D} {v:V},ae K H d v->ae K H' d v
 | .non,_,h=>by simpa[ae] using h| .bl _,_,h=>by simpa[ae] using h| .int _,_,h=>by simpa[ae] using h| .str _,_,h=>by simpa[ae] using h| .ref _,_,h=>by simpa[ae] using h| .ty _,_,h=>by simpa[ae] using h| .tup f,_,h=>by rw[ae] at h⊢;let#[a,xs,e,s,r]:=h;exact#[a,xs,e,l.FA s,ag.le l r]
theorem ag.le(l:Le H H'):∀{ds:List D} {xs:List V},ag K H ds xs->ag K H' ds xs
 | [],_,h=>by simpa[ag] using h| d::ds,_,h=>by rw[ag] at h⊢;let#[x,r,e,g,f]:=h;exact#[x,r,e,ae.le l g,ag.le l f]
end
def ag.nil:ag K H [] []:=by rw[ag]
def ag.cons{d:D}{ds:List D}{x:V}{xs:List V}(h:ae K H d x)(t:ag K H ds xs):ag K H (d::ds) (x::xs):=by rw[ag];exact#[x,xs,rfl,h,t]
def ag.aY{xs:List V}(h:ag K H [] xs):xs=[]:=by rw[ag] at h;exact h
def ag.au{d:D}{ds:List D}{xs:List V}(h:ag K H (d::ds) xs):∃x r,xs=x::r/\ae K H d x/\ag K H ds r:=by rw[ag] at h;exact h
theorem ag.length:∀{ds:List D} {xs:List V},ag K H ds xs->ds.length=xs.length
 | [],_,h=>by rw[h.aY];rfl| _::_,_,h=>by let#[x,r,e,_,t]:=h.au;rw[e,C1,C1,t.length]
theorem ag.get:∀{ds:List D} {xs:List V} {i:Nat} {d:D},ag K H ds xs->ds[i]?=some d->∃x,xs[i]?=some x/\ae K H d x
 | [],_,_,_,_,e=>by simp at e| _::_,_,0,_,h,e=>by let#[x,r,rfl,f,t]:=h.au;simp at e;subst e;exact#[x,rfl,f]| _::_,_,i+1,d,h,e=>by let#[x,r,rfl,f,t]:=h.au;let#[y,j,g]:=ag.get (i:=i) t (by simpa using e);exact#[y,by simpa using j,g]
theorem ag.of:∀{ds:List D} {xs:List V},ds.length=xs.length->(∀(i:Nat) d x,ds[i]?=some d->xs[i]?=some x->ae K H d x)->ag K H ds xs
 | [],[],_,_=>.nil| [],_::_,h,_=>by simp at h| _::_,[],h,_=>by simp at h| d::ds,x::xs,h,f=>.cons (f 0 d x rfl rfl) (ag.of (by simpa using h) λi d x a b=>f (i+1) d x (by simpa using a) (by simpa using b))
theorem ag.append:∀{ds f:List D} {xs ys:List V},ag K H ds xs->ag K H f ys->ag K H (ds++f) (xs++ys)
 | [],_,_,_,h,t=>by rw[h.aY];exact t| _::_,_,_,_,h,t=>by let#[x,r,rfl,i,g]:=h.au;exact .cons i (g.append t)
theorem ag.set(q:ae K H d x):∀{ds:List D} {xs:List V} (i:Nat),ag K H ds xs->ag K H (ds.set i d) (xs.set i x)
 | [],_,_,h=>by rw[h.aY];exact .nil| _::_,_,0,h=>by let#[x,r,rfl,g,f]:=h.au;exact .cons q f| _::_,_,i+1,h=>by let#[x,r,rfl,g,f]:=h.au;exact .cons g (f.set q i)
theorem ag.take:∀{ds:List D} {xs:List V} (n:Nat),ag K H ds xs->ag K H (ds.take n) (xs.take n)
 | _,_,0,_=>by simpa using ag.nil| [],_,_+1,h=>by rw[h.aY];exact .nil| _::_,_,n+1,h=>by let#[x,r,rfl,g,f]:=h.au;exact .cons g (f.take n)
theorem ag.drop:∀{ds:List D} {xs:List V} (n:Nat),ag K H ds xs->ag K H (ds.drop n) (xs.drop n)
 | _,_,0,h=>by simpa using h| [],_,_+1,h=>by rw[h.aY];exact .nil| _::_,_,n+1,h=>by let#[x,r,rfl,g,f]:=h.au;exact f.drop n
theorem ag.reverse:∀{ds:List D} {xs:List V},ag K H ds xs->ag K H ds.reverse xs.reverse
 | [],_,h=>by rw[h.aY];exact .nil| _::_,_,h=>by let#[x,r,rfl,g,f]:=h.au;rw[T9,T9];exact f.reverse.append (.cons g .nil)
theorem ag.rep(h:ag K H ds xs):∀k:Nat,ag K H (D6 k ds).flatten (D6 k xs).flatten
 | 0=>.nil| k+1=>by rw[K0,K0,K5,K5];exact h.append (h.rep k)
def aB{κ:Type}(K:W.Frag)(H:Hp)(ps:List (κ×D))(qs:List (κ×V)):Prop:=ps.map (·.1)=qs.map (·.1)/\ag K H (ps.map (·.2)) (qs.map (·.2))
theorem aB.le{κ:Type}(l:Le H H'){ps:List (κ×D)}{qs:List (κ×V)}(h:aB K H ps qs):aB K H' ps qs:=#[h.1,ag.le l h.2]
end
def Xt(H:Hp)(i:Str)(ps:Array Value):Prop:=TriplesOk ps.toList/\∀pos g,codeAmong pos ps.toList=some g->∃(c:Addr) (o:Obj) (f:Array Value) (t:Tok),g=.ref c/\o.data=.fields f/\f[1]?=some (.str i t)/\H c=some (.dj o (.ext λh=>h.get? c=some o))
def Ye(H:Hp)(f:Addr):Prop:=∃o:Obj,H f=some (.dj o (.ext λh=>h.get? f=some o))/\o.cls=.type "module" /\ o.dict=some OA/\o.data=.plain
def qw(K:W.Frag)(H:Hp)(a:Addr):DO->Prop
 | .lst i=>∃xs,H a=some (.lst xs)/\ag K H i xs| .sE i=>∃o xs,H a=some (.dj o (.lst xs))/\ag K H i xs| .bI kvs=>∃f,H a=some (.dK f)/\aB K H kvs f| .Jh kvs=>∃f,H a=some (.dT f)/\aB K H kvs f| .qU kvs=>∃f,H a=some (.dN K f)/\aB K H kvs f| .ins C h=>∃g f,H a=some (.ins C g f)/\aB K H h f| .exc C h=>∃g f,H a=some (.ext (XH a C g))/\q_ H g f/\aB K H h f| .qg o kvs=>∃f,H a=some (.dj o (.dK f))/\aB K H kvs f| .tb k l=>∃j,H a=some (.za j)/\Xt H k j/\Ye H l
def _root_.L2.q_.le{H g:Hp}(l:Le H g){f:Option Addr}{ys:List (Str×V)}(h:q_ H f ys):q_ g f ys:=by
 cases f with
 | none=>exact h| some d=>let#[o,e]:=h;exact#[o,l.dO _ _ #[_,by intro _ e;cases e] e]
def bW(K:W.Frag)(G:Gp)(H:Hp):Prop:=∀a o,G a=some o->qw K H a o
section
variable{K:W.Frag}{G:Gp}{H H':Hp}{a p:Addr}{o:DO}
theorem qw.some(h:qw K H a o):∃u,H a=some u:=by
 cases o with
 | lst f=>let#[xs,e,_]:=h;exact#[_,e]| sE f=>let#[_,xs,e,_]:=h;exact#[_,e]| bI f=>let#[xs,e,_]:=h;exact#[_,e]| Jh f=>let#[xs,e,_]:=h;exact#[_,e]| qU f=>let#[xs,e,_]:=h;exact#[_,e]| ins C f=>let#[_,xs,e,_]:=h;exact#[_,e]| exc C f=>let#[_,xs,e,_]:=h;exact#[_,e]| qg o f=>let#[xs,e,_]:=h;exact#[_,e]| tb g i=>let#[_,e,_]:=h;exact#[_,e]
def qw.fZ(h:qw K H a o)(l:Le H H')(e:H' a=H a):qw K H' a o:=by
 cases o with
 | lst f=>let#[xs,q,r]:=h;exact#[xs,e.trans q,ag.le l r]| sE f=>let#[o,xs,q,r]:=h;exact#[o,xs,e.trans q,ag.le l r]| bI f=>let#[xs,q,r]:=h;exact#[xs,e.trans q,r.le l]| Jh f=>let#[xs,q,r]:=h;exact#[xs,e.trans q,r.le l]| qU f=>let#[xs,q,r]:=h;exact#[xs,e.trans q,r.le l]| ins C f=>let#[g,xs,q,r]:=h;exact#[g,xs,e.trans q,r.le l]| exc C f=>let#[g,xs,q,z,r]:=h;exact#[g,xs,e.trans q,z.le l,r.le l]| qg o f=>let#[xs,q,r]:=h;exact#[xs,e.trans q,r.le l]| tb I J=>let#[y,q,#[x,u],o,E,B]:=h;exact#[y,e.trans q,#[x,λpos A z=>let ⟨c,o,n,t,m,k,j,i⟩:=u pos A z;#[c,o,n,t,m,k,j,l.dO _ _ #[_,by intro _ e;cases e] i]],o,l.dO _ _ #[_,by intro _ e;cases e] E,B]
def bW.fresh(c:bW K G H)(h:H p=none):G p=none:=by
 cases e:G p with
 | none=>rfl| some o=>let#[u,q]:=(c p o e).some;rw[h] at q;cases q
theorem bW.fZ(c:bW K G H)(l:Le H H')(e:∀a o,G a=some o->H' a=H a):bW K G H':=λa o q=>(c a o q).fZ l (e a o q)
def bW.side(c:bW K G H)(h:H p=none):bW K G (upd H p u):=c.fZ (Le.fresh h) λa o q=>by let#[u,e]:=(c a o q).some;exact cU (xC e h)
def bW.put{u:HO}(c:bW K G H)(l:Le H (upd H p u))(n:qw K (upd H p u) p o):bW K (aG G p o) (upd H p u):=λb q e=>by
 by_cases f:b=p
 .subst f;rw[aC] at e;cases e;exact n
 .rw[ay f] at e;exact(c b q e).fZ l (cU f)
theorem Le.lst{xs ys:List V}(h:H p=some (.lst xs)):Le H (upd H p (.lst ys)):=
  ⟨fun b zs q => by by_cases e: b = p
                    · subst e;rw[h] at q;cases q
                    · rw[cU e];exact q,
   fun b o u q => by by_cases e: b = p
                     · subst e;rw[h] at q;cases q
                     · rw[cU e];exact q⟩
theorem Le.dK(h:H p=some (.dK xs)):Le H (upd H p (.dK ys)):=
  ⟨fun b zs q => by by_cases e: b = p
                    · subst e;rw[h] at q;cases q
                    · rw[cU e];exact q,
   fun b o u q => by by_cases e: b = p
                     · subst e;rw[h] at q;cases q
                     · rw[cU e];exact q⟩
theorem Le.ins{C dx C' uw:Addr}{xs ys:List (Str×V)}(h:H p=some (.ins C dx xs)):Le H (upd H p (.ins C' uw ys)):=
  ⟨fun b zs q => by by_cases e: b = p
                    · subst e;rw[h] at q;cases q
                    · rw[cU e];exact q,
   fun b o u q => by by_cases e: b = p
                     · subst e;rw[h] at q;cases q
                     · rw[cU e];exact q⟩
def bW.cG(c:bW K G H)(h:H p=none)(r:ag K H ds xs):bW K (aG G p (.lst ds)) (upd H p (.lst xs)):=c.put (Le.fresh h) #[xs,hJ,ag.le (Le.fresh h) r]
def bW.lE(c:bW K G H)(h:H p=some (.lst ys))(r:ag K H ds xs):bW K (aG G p (.lst ds)) (upd H p (.lst xs)):=c.put (Le.lst h) #[xs,hJ,ag.le (Le.lst h) r]
end
abbrev gY:=List (Option D)
def bF(K:W.Frag)(H:Hp)(f:gY)(g:St):Prop:=f.length=g.length/\∀(i:Nat) d,f[i]?=some (some d)->∃v,g[i]?=some (some v)/\ae K H d v
theorem bF.le{K:W.Frag}{H j:Hp}{f:gY}{g:St}(h:bF K H f g)(l:Le H j):bF K j f g:=#[h.1,λi d e=>let ⟨v,a,b⟩:=h.2 i d e;#[v,a,ae.le l b]]
theorem bF.set(h:bF K H f k)(i:Nat)(r:ae K H d v):bF K H (f.set i (some d)) (k.set i (some v)):=by
 apply#[by rw[J9,J9];exact h.1,λj e q=>?_];rw[B90] at q;split at q
 .rename_i g;subst g;split at q
  .rename_i l;cases q;exact#[v,by rw[Y' (by rw[<- h.1];exact l)],r]
  .cases q
 .rename_i g;let#[w,a,b]:=h.2 j e q;exact#[w,by rw[YR g];exact a,b]
abbrev DK:=D->Gp->Prop
abbrev bu:=gY->Gp->DK->Prop
abbrev iU:=gY->Gp->(Bool->Gp->Prop)->Prop
abbrev fk:=gY->Gp->(List D->Gp->Prop)->Prop
structure kQ where
 nx:gY->Gp->Prop
 rt:DK
 bk:gY->Gp->Prop:=λ_ _=>False
 ct:gY->Gp->Prop:=λ_ _=>False
abbrev iH:=kQ->gY->Gp->Prop
def jA(K:W.Frag)(H:Hp)(q:DK)(Q:VK):Prop:=∀d g v f,ae K f d v->bW K g f->Le H f->q d g->Q v f
def XC(K:W.Frag)(H:Hp)(q:Bool->Gp->Prop)(Q:Bool->Hp->Prop):Prop:=∀b g f,bW K g f->Le H f->q b g->Q b f
def XD(K:W.Frag)(H:Hp)(q:List D->Gp->Prop)(Q:List V->Hp->Prop):Prop:=∀h i g f,ag K f h g->bW K i f->Le H f->q h i->Q g f
def lO(K:W.Frag)(H:Hp)(q:gY->Gp->Prop)(Q:St->Hp->Prop):Prop:=∀f i h g,bF K g f h->bW K i g->Le H g->q f i->Q h g
def jA.le{K:W.Frag}{H g:Hp}{q:DK}{Q:VK}(f:jA K H q Q)(l:Le H g):jA K g q Q:=λd G v i r c h=>f d G v i r c (l.trans h)
def lO.le{K:W.Frag}{H g:Hp}{q:gY->Gp->Prop}{Q:St->Hp->Prop}(f:lO K H q Q)(l:Le H g):lO K g q Q:=λd G v i r c h=>f d G v i r c (l.trans h)
structure yI(K:W.Frag)(H:Hp)(d:kQ)(D:Ends):Prop where
 nx:lO K H d.nx D.nx
 rt:jA K H d.rt D.rt
 bk:lO K H d.bk D.bk
 ct:lO K H d.ct D.ct
theorem yI.le{K:W.Frag}{H g:Hp}{d:kQ}{D:Ends}(f:yI K H d D)(l:Le H g):yI K g d D:=#[f.nx.le l,f.rt.le l,f.bk.le l,f.ct.le l]
def aH(K:W.Frag)(t:bu):TE:=λg H Q=>∃f G q,bF K H f g/\bW K G H/\t f G q/\jA K H q Q
def eJ(K:W.Frag)(t:iU):TT:=λg H Q=>∃f G q,bF K H f g/\bW K G H/\t f G q/\XC K H q Q
def eK(K:W.Frag)(t:fk):TA:=λg H Q=>∃f G q,bF K H f g/\bW K G H/\t f G q/\XD K H q Q
def dM(K:W.Frag)(t:iH):TS:=λD g H=>∃f G d,bF K H f g/\bW K G H/\t d f G/\yI K H d D
abbrev R3:=D->D->Gp->DK->Prop
def lF(K:W.Frag)(r:R3):R2:=λx y H Q=>∃d e G q,ae K H d x/\ae K H e y/\bW K G H/\r d e G q/\jA K H q Q
abbrev U3:=D->Gp->DK->Prop
def xX(K:W.Frag)(r:U3):V->Hp->VK->Prop:=λx H Q=>∃d G q,ae K H d x/\bW K G H/\r d G q/\jA K H q Q
abbrev C3:=List D->Gp->DK->Prop
def HQ(K:W.Frag)(r:C3):List V->Hp->VK->Prop:=λxs H Q=>∃f G q,ag K H f xs/\bW K G H/\r f G q/\jA K H q Q
def dP(i:Nat):bu:=λf G q=>match f[i]? with|some (some d)=>q d G|_=>False
def dC(d:D):bu:=λ_ G q=>q d G
def zy(r:R3)(g tb:bu):bu:=λf G q=>g f G λx i=>tb f i λy h=>r x y h q
def Od(r:U3)(g:bu):bu:=λf G q=>g f G λx h=>r x h q
def eN:fk:=λ_ G q=>q [] G
def me(h:bu)(g:fk):fk:=λf G q=>h f G λx j=>g f j λxs i=>q (x::xs) i
def sG(t:fk):bu:=λf G q=>t f G λxs g=>xs.length<=sizeLine/\q (.tup xs) g
def yw(t:fk):bu:=λg G q=>t g G λxs f=>xs.length<=sizeLine/\∀p,f p=none->q (.ref p) (aG f p (.lst xs))
def dB(t:bu):iU:=λf G q=>t f G λx g=>match x with|.bl c=>q c g|_=>False
def Cc(t u:iU):iU:=λf G q=>t f G λc g=>if c=true then u f g q else q false g
def Xg(t u:iU):iU:=λf G q=>t f G λc g=>if c=true then q true g else u f g q
def Ca(t:iU):iU:=λf G q=>t f G λc g=>q (!c) g
def Qe(h tb:bu):bu:=λf G q=>h f G λx g=>match x with|.bl c=>if c=true then tb f g q else q (.bl false) g|_=>False
def B'(h tb:bu):bu:=λf G q=>h f G λx g=>match x with|.bl c=>if c=true then q (.bl true) g else tb f g q|_=>False
def Qi(g:bu):bu:=λf G q=>g f G λx h=>match x with|.bl c=>q (.bl (!c)) h|_=>False
def Xh(t:iU)(h tb:bu):bu:=λf G q=>t f G λc g=>if c=true then h f g q else tb f g q
section
variable{K:W.Frag}{σ:St}{H:Hp}{Q:VK}
def wi5(h:aH K (dP i) σ H Q):AS i σ H Q:=by
 let#[g,G,q,j,c,t,f]:=h;unfold dP at t;split at t
 .rename_i d e;let#[v,k,r]:=j.2 i d e;exact#[v,k,f d G v H r c (Le.refl H) t]
 .exact t.elim
def Ep(r:∀H,ae K H d v)(h:aH K (dC d) σ H Q):tC v σ H Q:=by let#[g,G,q,i,c,t,f]:=h;exact f d G v H (r H) c (Le.refl H) t
def Ms(h:aH K (zy r l tb) σ H Q):Fp (lF K r) (aH K l) (aH K tb) σ H Q:=by let#[g,G,q,i,c,t,f]:=h;exact#[g,G,_,i,c,t,λd y v B p c1 k n=>#[g,y,_,i.le k,c1,n,λe x u A o c2 j m=>#[d,e,x,q,ae.le j p,o,c2,m,f.le (k.trans j)]]]
def x73(h:aH K (Od r i) σ H Q):tUn (xX K r) (aH K i) σ H Q:=by let#[g,G,q,k,c,t,f]:=h;exact#[g,G,_,k,c,t,λd n v o l c1 m j=>#[d,n,q,l,c1,j,f.le m]]
def ve1{Q:List V->Hp->Prop}(h:eK K eN σ H Q):xF σ H Q:=by let#[g,G,q,i,c,t,f]:=h;exact f [] G [] H .nil c (Le.refl H) t
def vr9{j:bu}{i:fk}{Q:List V->Hp->Prop}(h:eK K (me j i) σ H Q):Sf (aH K j) (eK K i) σ H Q:=by let#[g,G,q,k,c,t,f]:=h;exact#[g,G,_,k,c,t,λd B v C u c1 m p=>#[g,B,_,k.le m,c1,p,λx A n y r c2 l o=>f (d::x) A (v::n) y (.cons (ae.le l u) r) c2 (m.trans l) o]]
def wi7(h:aH K (sG m) σ H Q):Fj (eK K m) σ H Q:=by let#[g,G,q,n,c,t,f]:=h;apply#[g,G,_,n,c,t,λr u l x k c1 o j=>#[by rw[<- k.length];exact j.1,λp i=>?_]];apply f (.tup r) u (.ref p) _ ?_ (c1.side i) (o.trans (Le.fresh i)) j.2;rw[ae];exact#[p,l,rfl,eC.of hJ,ag.le (Le.fresh i) k]
def wj2(h:aH K (yw l) σ H Q):Fs (eK K l) σ H Q:=by let#[g,G,q,m,c,t,f]:=h;apply#[g,G,_,m,c,t,λr x o u k c1 n j=>#[by rw[<- k.length];exact j.1,λp i=>?_]];exact f (.ref p) _ (.ref p) _ (by rw[ae]) (c1.cG i k) (n.trans (Le.fresh i)) (j.2 p (c1.fresh i))
def ae.b9(h:ae K H (.bl c) v):v=.bl c:=by rw[ae] at h;exact h
def vs6{t u:iU}{Q:Bool->Hp->Prop}(h:eJ K (Cc t u) σ H Q):Fx (eJ K t) (eJ K u) σ H Q:=by
 let#[g,G,q,k,c,t,f]:=h;apply#[g,G,_,k,c,t,λb p r c1 j i=>?_];cases b with
 | true=>rw[if_pos rfl] at i⊢;exact#[g,p,q,k.le j,c1,i,λb o n c2 m l=>f b o n c2 (j.trans m) l]| false=>rw[if_neg C8] at i⊢;exact f _ _ _ c1 j i
def wj1{t u:iU}{Q:Bool->Hp->Prop}(h:eJ K (Xg t u) σ H Q):tOr (eJ K t) (eJ K u) σ H Q:=by
 let#[g,G,q,k,c,t,f]:=h;apply#[g,G,_,k,c,t,λb p r c1 j i=>?_];cases b with
 | false=>rw[if_neg C8] at i⊢;exact#[g,p,q,k.le j,c1,i,λb o n c2 m l=>f b o n c2 (j.trans m) l]| true=>rw[if_pos rfl] at i⊢;exact f _ _ _ c1 j i
def vr1{t:iU}{Q:Bool->Hp->Prop}(h:eJ K (Ca t) σ H Q):Fq (eJ K t) σ H Q:=by let#[g,G,q,j,c,t,f]:=h;exact#[g,G,_,j,c,t,λb m l c1 k i=>f _ _ _ c1 k i]
def x75(h:aH K (Xh t m tb) σ H Q):tIf (eJ K t) (aH K m) (aH K tb) σ H Q:=by
 let#[g,G,q,k,c,t,f]:=h;apply#[g,G,_,k,c,t,λb l n c1 j i=>?_];cases b with
 | true=>rw[if_pos rfl] at i⊢;exact#[g,l,q,k.le j,c1,i,f.le j]| false=>rw[if_neg C8] at i⊢;exact#[g,l,q,k.le j,c1,i,f.le j]
end
def Qh:iH:=λE f G=>E.nx f G
def Go(k:gY->Gp->Prop)(f:gY)(G:Gp):Prop:=k f G
def gR(t u:iH):iH:=λE f G=>t { E with nx:=Go (u E)} f G
def Az(te:bu):iH:=λE f G=>te f G λ_ g=>E.nx f g
def jT(te:bu):iH:=λE f G=>te f G E.rt
def Qk:iH:=λE _ G=>E.rt .non G
def ux(c:iU)(t u:iH):iH:=λE f G=>c f G λb g=>if b=true then t E f g else u E f g
abbrev qu:=D->gY->Gp->(gY->Gp->Prop)->Prop
abbrev qt:=List D->gY->Gp->(gY->Gp->Prop)->Prop
def lowG(K:W.Frag)(t:qu):TG:=λv g H Q=>∃d f G q,ae K H d v/\bF K H f g/\bW K G H/\t d f G q/\lO K H q Q
def Md(K:W.Frag)(t:qt):zC:=λi h H Q=>∃g f G q,ag K H g i/\bF K H f h/\bW K G H/\t g f G q/\lO K H q Q
def xk(i:Nat):qu:=λd f G q=>q (f.set i (some d)) G
def Bp:qt:=λg f G q=>g=[]/\q f G
def Qp(t:qu)(u:qt):qt:=λh g G q=>match h with|d::r=>t d g G λf i=>u r f i q|[]=>False
abbrev rb:=D->D->D->Gp->(Gp->Prop)->Prop
def SD(K:W.Frag)(t:rb):yD:=λo i v H Q=>∃d e x G q,ae K H d o/\ae K H e i/\ae K H x v/\bW K G H/\t d e x G q/\∀g f,bW K g f->Le H f->q g->Q f
def Bo(to g:bu)(t:rb):qu:=λd f G q=>to f G λo k=>g f k λi j=>t o i d j λh=>q f h
def jq(te:bu)(g:qu):iH:=λE f G=>te f G λx h=>g x f h E.nx
section
variable{K:W.Frag}{σ:St}{H:Hp}{E:Ends}
def vr2(h:dM K Qh E σ H):ZY E σ H:=by let#[g,G,d,i,c,t,f]:=h;exact f.nx _ _ _ _ i c (Le.refl H) t
def wi8(h:dM K (gR t u) E σ H):Fl (dM K t) (dM K u) E σ H:=by let#[i,G,d,l,c,t,f]:=h;exact#[i,G,_,l,c,t,λg p j q o n m k=>#[g,p,d,o,n,k,f.le m],f.rt,f.bk,f.ct]
def vr8(h:dM K (Az te) E σ H):ZW (aH K te) E σ H:=by let#[g,G,d,i,c,t,f]:=h;exact#[g,G,_,i,c,t,λx n v m l c1 j k=>f.nx _ _ _ _ (i.le j) c1 j k]
def wi9(h:dM K (jT te) E σ H):Fm (aH K te) E σ H:=by let#[g,G,d,i,c,t,f]:=h;exact#[g,G,_,i,c,t,f.rt]
def vq7(h:dM K Qk E σ H):Z' E σ H:=by let#[g,G,d,i,c,t,f]:=h;exact f.rt .non _ .non _ (by rw[ae]) c (Le.refl H) t
def wj3(h:dM K (ux tc t u) E σ H):Ft (eJ K tc) (dM K t) (dM K u) E σ H:=by
 let#[g,G,d,k,c,t,f]:=h;apply#[g,G,_,k,c,t,λb l m c1 j i=>?_];cases b with
 | true=>rw[if_pos rfl] at i⊢;exact#[g,l,d,k.le j,c1,i,f.le j]| false=>rw[if_neg C8] at i⊢;exact#[g,l,d,k.le j,c1,i,f.le j]
def ve2(h:lowG K (xk i) v σ H Q):Qo i v σ H Q:=by let#[d,g,G,q,r,j,c,t,f]:=h;exact f _ _ _ _ (j.set i r) c (Le.refl H) t
def vr5(h:Md K Bp vs σ H Q):Je vs σ H Q:=by let#[j,g,G,q,r,i,c,#[e,t],f]:=h;subst e;exact#[r.aY,f _ _ _ _ i c (Le.refl H) t]
def ve3(h:Md K (Qp t u) vs σ H Q):ZH (lowG K t) (Md K u) vs σ H Q:=by
 let#[j,i,G,q,r,n,c,t,f]:=h;cases j with
 | nil=>exact t.elim| cons d j =>let#[x,xs,rfl,p,o]:=r.au;exact#[x,xs,rfl,d,i,G,_,p,n,c,t,λg B l C A y k m=>#[j,g,B,q,ag.le k o,A,y,m,f.le k]]
def vr4(h:lowG K (Bo to n t) v σ H Q):Jd (aH K to) (aH K n) (SD K t) v σ H Q:=by
 let#[d,g,G,q,r,l,c,t,f]:=h;exact#[g,G,_,l,c,t,λo I J O A c1 k x=>#[g,I,_,l.le k,c1,x,λi C L N y c2 j u=>#[o,i,d,C,_,ae.le j A,y,ae.le (k.trans j) r,c2,u,λR M B m p =>
  f _ _ _ _ (l.le (k.trans (j.trans m))) B (k.trans (j.trans m)) p]]]
def wj7(h:dM K (jq te g) E σ H):AU (aH K te) (lowG K g) E σ H:=by let#[i,G,d,j,c,t,f]:=h;exact#[i,G,_,j,c,t,λx n v o m c1 k l=>#[x,i,n,_,m,j.le k,c1,l,f.nx.le k]]
end
def Aw(c:iU)(tb:iH)(E:kQ):Nat->gY->Gp->Prop
 | 0,_,_=>False| n+1,f,G=>c f G λb g=>if b=true then tb { E with nx:=Aw c tb E n,ct:=Aw c tb E n,bk:=E.nx} f g else E.nx f g
def Sv(c:iU)(tb:iH):iH:=λE f G=>∃n,Aw c tb E n f G
def vd7(h:dM K (Sv c tb) E N H):vv9 (eJ K c) (dM K tb) E N H:=by
 let#[u,G,d,O,Q,#[n,t],f]:=h;apply#[λm j l=>∃g q,Le H l/\bF K l g j/\bW K q l/\Aw c tb d m g q,#[n,u,G,Le.refl H,O,Q,t],?_];rintro m M Y ⟨k,U,p,C,c1,L⟩;cases m with
 | zero=>exact L.elim| succ m =>
  apply#[k,U,_,C,c1,L,λb S X c2 o r=>?_];cases b with
  | true =>
   rw[if_pos rfl] at r⊢;apply#[λj l=>∃g q,Le H l/\bF K l g j/\bW K q l/\Aw c tb d m g q,λj l w=>#[m,R4 m,w],k,S,_,C.le o,c2,r,?_,?_,?_,?_]
   .exact λi J x R I B A y=>#[i,J,p.trans (o.trans A),I,B,y]
   .exact f.rt.le (p.trans o)
   .exact f.nx.le (p.trans o)
   .exact λi J x R I B A y=>#[i,J,p.trans (o.trans A),I,B,y]
  | false =>rw[if_neg C8] at r⊢;exact f.nx _ _ _ _ (C.le o) c2 (p.trans o) r
structure IT where
 items:List D
 ok:Gp->Prop
structure jy(K:W.Frag)(H0:Hp)(it:IT)(J:It):Prop where
 go:∀(i:Nat) G H,Le H0 H->bW K G H->it.ok G->i<it.items.length->J.go i H
 stop:∀(i:Nat) G H,Le H0 H->bW K G H->it.ok G->it.items.length<=i->J.stop i H
 qx:∀(i:Nat) G H x H',Le H0 H->bW K G H->it.ok G->i<it.items.length->J.qx i H x H'->bW K G H'/\Le H H'/\∃d,it.items[i]?=some d/\ae K H' d x
abbrev tw:=gY->Gp->(IT->Gp->Prop)->Prop
def pZ(K:W.Frag)(t:tw):TI:=λi H R=>∃f G r,bF K H f i/\bW K G H/\t f G r/\∀it J h g,jy K g it J->bW K h g->Le H g->r it h->R J g
def forL(ok:Gp->Prop)(g:qu)(tb:iH)(E:kQ):List D->gY->Gp->Prop
 | [],h,G=>ok G/\E.nx h G| x::r,h,G=>ok G/\g x h G λf i=>tb { E with nx:=forL ok g tb E r,ct:=forL ok g tb E r,bk:=E.nx} f i
def uy(h:tw)(g:qu)(tb:iH):iH:=λE f G=>h f G λit i=>forL it.ok g tb E it.items f i
def wj4(h:dM K (uy wi g tb) E σ H):Fu (pZ K wi) (lowG K g) (dM K tb) E σ H:=by
 let#[u,G,d,O,cc,t,f]:=h;apply#[u,G,_,O,cc,t,λit J G1 C ir c1 B t1=>?_];apply#[λi m k l=>∃j n,Le C l/\bF K l j k/\bW K n l/\i+m=it.items.length/\forL it.ok g tb d (it.items.drop i) j n,#[it.items.length,u,G1,Le.refl _,O.le B,c1,(),by rw[Yt];exact t1],?_];rintro i m σ2 M ⟨r,I,A,S,c2,e2,o⟩;by_cases hi:i<it.items.length
 .rw[O6 hi] at o;let#[U,o]:=o;apply .inr #[ir.go i I M A c2 U hi,λk l=>∃j n,Le C l/\bF K l j k/\bW K n l/\forL it.ok g tb d (it.items.drop (i+1)) j n,?_,?_]
  .rintro k l ⟨j,n,a1,a2,a3,a4⟩;exact#[m-1,(),j,n,a1,a2,a3,(),a4]
  .intro x H3 y;let#[c3,Q,e,R,r3]:=ir.qx i I M x H3 A c2 U hi y;rw[B6 hi] at R;cases R;apply#[_,r,I,_,r3,S.le Q,c3,o,λq G4 Z X Df c4 l4 t4=>?_];have N:Le C X:=A.trans (Q.trans l4);have key:lO K X (forL it.ok g tb d (it.items.drop (i+1))) (λk l=>∃j n,Le C l/\bF K l j k/\bW K n l/\forL it.ok g tb d (it.items.drop (i+1)) j n):=
    λp G5 Y H5 L c5 l5 t5=>#[p,G5,N.trans l5,L,c5,t5]
   exact#[q,G4,_,Df,c4,t4,key,f.rt.le (B.trans N),f.nx.le (B.trans N),key]
 .rw[B26 ()] at o;exact .inl #[ir.stop i I M A c2 o.1 (),f.nx _ _ _ _ S c2 (B.trans A) o.2]
def ag.at_{K:W.Frag}{H:Hp}{ds:List D}{xs:List V}{i:Nat}{x:V}(h:ag K H ds xs)(e:xs[i]?=some x):∃d,ds[i]?=some d/\ae K H d x:=by
 have g:i<ds.length:=by rw[h.length];exact(K7.mp e).1
 let#[y,f,r]:=h.get (B6 g);rw[e] at f;cases f;exact#[_,B6 g,r]
def vf8{K:W.Frag}{f:Hp}{a:Addr}{ds:List D}{xs:List V}(s:eC K f a xs)(r:ag K f ds xs):jy K f #[ds,λ_=>True] (Xx K a) where
 go:=λi G H l c _ hi=>#[xs,xs[i]'(by rw[<- r.length];exact hi),l.FA s,B6 _]
 stop:=λi G H l c _ hi=>#[xs,l.FA s,by rw[<- r.length];exact hi]
 qx:=λi G H x k l c _ hi y=>by let#[e,y]:=y;subst e;have g:=y xs (l.FA s);let#[d,h,rd]:=(ag.le l r).at_ g;exact#[c,Le.refl _,d,h,rd]
def bt:Option DO->Option (List D)
 | some (.lst xs)=>some xs| some (.sE xs)=>some xs| _=>none
def eR(c:bW K G H)(h:bt (G a)=some ds):∃xs,eP K H a xs/\ag K H ds xs:=by
 cases e:G a with
 | none=>rw[e] at h;cases h
 | some o =>
  rw[e] at h;have q:=c a o e;cases o with
  | lst xs=>cases h;let#[f,q,r]:=q;exact#[f,.inl (.inl q),r]
  | sE xs=>cases h;let#[o,f,q,r]:=q;exact#[f,.inl (.inr #[o,q]),r]
  | bI _=>cases h
  | Jh _=>cases h
  | qU _=>cases h
  | ins _ _=>cases h
  | exc _ _=>cases h
  | qg _ _=>cases h
  | tb _ _=>cases h
def v52{K:W.Frag}{g:Hp}{a:Addr}{ds:List D}:jy K g #[ds,λG=>bt (G a)=some ds] (Xy K a) where
 go:=λi G H l c ok hi=>by let#[xs,s,r]:=eR c ok;exact#[xs,xs[i]'(by rw[<- r.length];exact hi),s,B6 _]
 stop:=λi G H l c ok hi=>by let#[xs,s,r]:=eR c ok;exact#[xs,s,by rw[<- r.length];exact hi]
 qx:=λi G H x j l c ok hi y=>by let#[e,y]:=y;subst e;let#[xs,s,r]:=eR c ok;let#[d,f,rd]:=r.at_ (y xs s);exact#[c,Le.refl _,d,f,rd]
def bO(lo:Int)(n:Nat):List D:=(F3 n).map λ(i:Nat)=>.int (lo+i)
def uj1:jy K g #[bO lo n,λ_=>True] (JC lo n) where
 go:=λi G H l c _ hi=>by
  have:i<n:=by simpa[bO] using hi
  exact this
 stop:=λi G H l c _ hi=>by
  have:n<=i:=by simpa[bO] using hi
  exact this
 qx:=λi G H x h l c _ hi y=>by
  let#[e,y]:=y;subst e;subst y;apply#[c,Le.refl _,.int (lo+i),?_,by rw[ae]];have:i<n:=by simpa[bO] using hi
  simp[bO,this]
abbrev gu:=List D->Gp->DK->Prop
def mf(K:W.Frag)(S:gu):Sp:=λg H Q _=>∃f G R,ag K H f g/\bW K G H/\S f G R/\jA K H R Q
def jo(S:gu)(h:List D)(t:fk):bu:=λg G q=>t g G λi j=>∃R,S (i++h) j R/\∀d f,R d f->q d f
def qC(C:Addr)(m:Str)(S:gu)(j:List D)(i:bu)(t:fk):bu:=λf G q=>i f G λx g=>match x with
 | .ref a=>(match g a with
  | some (.ins o k)=>o=C/\k.lookup m=none/\t f g λl n=>∃R,S (.ref a::(l++j)) n R/\∀d h,R d h->q d h| _=>False)
 | _=>False
def Ej(C:Addr)(S:gu)(i:List D)(t:fk):bu:=λh G q=>t h G λj f=>∀x,f x=none ->
 ∃R,S (.ref x::(j++i)) (aG f x (.ins C [])) R/\∀d g,R d g->d=.non/\q (.ref x) g
def putD(f:Str)(v:D):List (Str×D)->List (Str×D)
 | []=>[(f,v)]| (g,u)::r=>if g=f then(g,v)::r else(g,u)::putD f v r
def Cb(C:Addr)(i:bu)(f:Str):bu:=λh G q=>i h G λx g=>match x with
 | .ref a=>(match g a with
  | some (.ins k j)=>k=C/\(match j.lookup f with|some d=>q d g|none=>False)
  | _=>False)
 | _=>False
def Ql(C:Addr)(k j:bu)(f:Str):iH:=λE g G=>j g G λy l=>k g l λx i=>match x with
 | .ref a=>(match i a with
  | some (.ins m h)=>m=C/\h.length<1000/\E.nx g (aG i a (.ins C (putD f y h)))| _=>False)
 | _=>False
def Qf(C:Addr)(l k:bu)(r:R3)(f:Str):iH:=λE g G=>l g G λx j=>match x with
 | .ref a=>(match j a with
  | some (.ins p m)=>p=C/\(match m.lookup f with
   | some d=>k g j λy o=>r d y o λz i=>(match i a with
    | some (.ins n h)=>n=C/\h.length<1000/\E.nx g (aG i a (.ins C (putD f z h)))| _=>False)
   | none=>False)
  | _=>False)
 | _=>False
section
variable{K:W.Frag}{σ:St}{H:Hp}{Q:VK}{E:Ends}
def vs0(x:∀H,ag K H u eL)(h:aH K (jo S u t) σ H Q):ZU (mf K S) eL XE (eK K t) σ H Q:=by let#[g,G,q,m,c,t,f]:=h;exact#[g,G,_,m,c,t,λI B C A o c1 r ⟨R,l,k⟩=>#[_,B,R,o.append (x A),c1,l,λd i v y n c2 p j=>f d i v y n c2 (r.trans p) (k d i j)]]
def ae.eW:ae K H (.ref a) (.ref a):=by rw[ae]
def ae.aj{a:Addr}{v:V}(h:ae K H (.ref a) v):v=.ref a:=by rw[ae] at h;exact h
theorem aB.lookup_none{κ:Type}[BEq κ]{k:κ}:∀{ps:List (κ×D)} {qs:List (κ×V)},aB K H ps qs->ps.lookup k=none->qs.lookup k=none
 | [],qs,h,_=>by
  cases qs with
  | nil=>rfl| cons _ _=>have:=h.1;simp at this
 | (g,d)::ps,qs,h,e=>by
  cases qs with
  | nil=>have:=h.1;simp at this| cons q qs =>
   let#[m,v]:=q;have f:=h.1;simp only[C0,Y4] at f;let#[rfl,f]:=f;let#[x,r,l,_,j]:=(show ag K H (d::ps.map (·.2)) (v::qs.map (·.2)) from h.2).au;cases l;rw[F5] at e⊢;cases i:k==g with
   | true=>rw[i] at e;cases e
   | false=>rw[i] at e;exact aB.lookup_none #[f,j] e
theorem aB.lookup{κ:Type}[BEq κ]{k:κ}{d:D}:∀{ps:List (κ×D)} {qs:List (κ×V)},aB K H ps qs->ps.lookup k=some d->∃v,qs.lookup k=some v/\ae K H d v
 | [],qs,h,e=>by cases e
 | (g,n)::ps,qs,h,e=>by
  cases qs with
  | nil=>have:=h.1;simp at this| cons q qs =>
   let#[o,v]:=q;have f:=h.1;simp only[C0,Y4] at f;let#[rfl,f]:=f;let#[x,r,m,j,l]:=(show ag K H (n::ps.map (·.2)) (v::qs.map (·.2)) from h.2).au;cases m;rw[F5] at e⊢;cases i:k==g with
   | true=>rw[i] at e;cases e;exact#[v,rfl,j]
   | false=>rw[i] at e;exact aB.lookup #[f,l] e
theorem aB.nil{κ:Type}:aB (κ:=κ) K H [] []:=#[rfl,.nil]
theorem aB.cons{κ:Type}{k:κ}{d:D}{v:V}{ps:List (κ×D)}{qs:List (κ×V)}(r:ae K H d v)(h:aB K H ps qs):aB K H ((k,d)::ps) ((k,v)::qs):=#[by simp[h.1],.cons r h.2]
theorem aB.au{κ:Type}{k:κ}{d:D}{ps:List (κ×D)}{qs:List (κ×V)}(h:aB K H ((k,d)::ps) qs):∃v r,qs=(k,v)::r/\ae K H d v/\aB K H ps r:=by
 cases qs with
 | nil=>have:=h.1;simp at this| cons q qs =>let#[l,v]:=q;have f:=h.1;simp only[C0,Y4] at f;let#[rfl,f]:=f;let#[x,r,j,g,i]:=(show ag K H (d::ps.map (·.2)) (v::qs.map (·.2)) from h.2).au;cases j;exact#[v,qs,rfl,g,f,i]
def aB.aY{κ:Type}{qs:List (κ×V)}(h:aB K H [] qs):qs=[]:=by
 cases qs with
 | nil=>rfl| cons _ _=>have:=h.1;simp at this
theorem aB.cO{f:Str}{d:D}{v:V}(r:ae K H d v):∀{ps:List (Str×D)} {qs:List (Str×V)},aB K H ps qs->aB K H (putD f d ps) (L2.cO f v qs)
 | [],qs,h=>by rw[h.aY];exact aB.cons r aB.nil| (g,l)::ps,qs,h=>by
  let#[u,i,rfl,k,j]:=h.au;show aB K H (if g=f then(g,d)::ps else(g,l)::putD f d ps) (if g=f then(g,v)::i else(g,u)::L2.cO f v i);split
  .exact aB.cons r j
  .exact aB.cons k (aB.cO r j)
theorem aB.length{κ:Type}{ps:List (κ×D)}{qs:List (κ×V)}(h:aB K H ps qs):ps.length=qs.length:=by have:=h.2.length;simpa using this
def v09(O:∀H,ag K H N eL)(h:aH K (qC C m S N u t) σ H Q):Sh C m (mf K S) eL XE (aH K u) (eK K t) σ H Q:=by
 let#[i,G,q,j,c,t,f]:=h;apply#[i,G,_,j,c,t,λx G1 v H1 k c1 o g=>?_];split at g
 .rename_i a;split at g
  .rename_i C' fs e;let#[rfl,n,g]:=g;let#[X,r,U,I]:=c1 _ _ e;apply#[a,X,r,k.aj,U,I.lookup_none n,i,G1,_,j.le o,c1,g,λds G2 vs H2 L c2 l ⟨R,B,A⟩=>?_];exact#[_,G2,R,.cons (ae.le l k) (L.append (O H2)),c2,B,λd p v Z J Y M y=>f d p v Z J Y (o.trans (l.trans M)) (A d p y)]
  .exact g.elim
 .exact g.elim
def bW.Br(c:bW K G H)(h:H x=none)(h':H f=none)(ne:f≠x):bW K (aG G x (.ins C [])) (upd (upd H f (.own x)) x (.ins C f []))/\Le H (upd (upd H f (.own x)) x (.ins C f [])):=by
 have c1:=c.side (u:=.own x) h';have g:upd H f (.own x) x=none:=by rw[cU (D2 ne)];exact h
 exact#[c1.put (Le.fresh g) #[f,[],hJ,aB.nil],(Le.fresh h').trans (Le.fresh g)]
def vr3(I:∀H,ag K H B eL)(h:aH K (Ej C S B t) σ H Q):ZX C (mf K S) eL XE (eK K t) σ H Q:=by let#[g,G,q,r,c,t,f]:=h;apply#[g,G,_,r,c,t,λO Y M X u c1 A i x N m j ne=>?_];let#[R,p,i]:=i x (c1.fresh m);let#[c2,l]:=c1.Br (C:=C) m j ne;apply#[_,_,R,.cons ae.eW ((ag.le l u).append (I _)),c2,p,λd L v U k J y o=>?_];let#[rfl,n]:=i d L o;exact#[by rw[ae] at k;exact k,f _ _ _ _ ae.eW J (A.trans (l.trans y)) n]
def wj5{C:Addr}{j:bu}{f:Str}(J:jB K C)(o:bD K C f)(h:aH K (Cb C j f) σ H Q):Fv K (aH K j) f σ H Q:=by
 let#[i,G,q,l,c,t,u]:=h;apply#[i,G,_,l,c,t,λx M v L n c1 p g=>?_];split at g
 .rename_i a;split at g
  .rename_i O N e;let#[rfl,g]:=g;let#[I,k,B,m]:=c1 _ _ e;split at g
   .rename_i d A;let#[w,y,r]:=m.lookup A;exact#[a,_,I,k,w,n.aj,B,J,o,y,u d M w L r c1 p g]
   .exact g.elim
  .exact g.elim
 .exact g.elim
def vq6{C:Addr}{u r:bu}{f:Str}(S:jB K C)(M:bD K C f)(h:dM K (Ql C u r f) E σ H):FF K (aH K u) (aH K r) f E σ H:=by
 let#[i,G,d,l,c,t,O]:=h;apply#[i,G,_,l,c,t,λy U v Z L c1 n I=>#[i,U,_,l.le n,c1,I,λx G2 w Y J c2 m g=>?_]];split at g
 .rename_i a;split at g
  .rename_i q R e;let#[rfl,N,g]:=g;let#[p,k,B,A]:=c2 _ _ e;apply#[a,_,p,k,J.aj,B,S,M,by rw[<- A.length];exact N,?_];have j:=Le.ins (C':=q) (uw:=p) (ys:=L2.cO f v k) B;exact O.nx _ _ _ _ (l.le (n.trans (m.trans j))) (c2.put (o:=.ins q (putD f y R)) j #[p,_,hJ,aB.le j (A.cO (ae.le m L))]) (n.trans (m.trans j)) g
  .exact g.elim
 .exact g.elim
def vs4{C:Addr}{B A:bu}{r:R3}{f:Str}(cl:jB K C)(na:bD K C f)(h:dM K (Qf C B A r f) E σ H):va2 K (aH K B) (aH K A) (lF K r) f E σ H:=by
 let#[i,G,d,m,c,t,fu]:=h;apply#[i,G,_,m,c,t,λx G1 v H1 Z c1 J g=>?_];split at g
 .rename_i a;split at g
  .rename_i C' fs e;let#[rfl,g]:=g;let#[dx,p,e2,U]:=c1 _ _ e;split at g
   .rename_i d0 el;let#[w,ew,jL]:=U.lookup el;apply#[a,_,dx,p,w,Z.aj,e2,cl,na,ew,i,G1,_,m.le J,c1,g,λy G2 u H2 Y c2 I S=>?_];apply#[d0,y,G2,_,ae.le I jL,Y,c2,S,λz G3 R H3 X M l3 j=>?_];split at j
    .rename_i N fe e';let#[rfl,hl,j]:=j;let#[l,q,L,k]:=M _ _ e';apply#[l,q,L,by rw[<- k.length];exact hl,?_];have n:=Le.ins (C':=N) (uw:=l) (ys:=L2.cO f R q) L;have O:=J.trans (I.trans (l3.trans n));exact fu.nx _ _ _ _ (m.le O) (M.put (o:=.ins N (putD f z fe)) n #[l,_,hJ,aB.le n (k.cO X)]) O j
    .exact j.elim
   .exact g.elim
  .exact g.elim
 .exact g.elim
def xi9{te:bu}{Q:Bool->Hp->Prop}(h:eJ K (dB te) σ H Q):tB (aH K te) σ H Q:=by
 let#[g,G,q,j,c,t,f]:=h;apply#[g,G,_,j,c,t,λx o v n l c1 m i=>?_];split at i
 .rename_i k;exact#[k,l.b9,f _ _ _ c1 m i]
 .exact i.elim
def vs5(h:aH K (Qe m tb) σ H Q):ZS (aH K m) (aH K tb) σ H Q:=by
 let#[i,G,q,l,c,t,f]:=h;apply#[i,G,_,l,c,t,λx o v p n c1 j g=>?_];split at g
 .rename_i k;apply#[k,n.b9,?_];cases k with
  | true=>rw[if_pos rfl] at g⊢;exact#[i,o,q,l.le j,c1,g,f.le j]| false=>rw[if_neg C8] at g⊢;exact f _ _ _ _ (by rw[ae]) c1 j g
 .exact g.elim
def wj0(h:aH K (B' m tb) σ H Q):Fo (aH K m) (aH K tb) σ H Q:=by
 let#[i,G,q,l,c,t,f]:=h;apply#[i,G,_,l,c,t,λx o v p n c1 j g=>?_];split at g
 .rename_i k;apply#[k,n.b9,?_];cases k with
  | false=>rw[if_neg C8] at g⊢;exact#[i,o,q,l.le j,c1,g,f.le j]| true=>rw[if_pos rfl] at g⊢;exact f _ _ _ _ (by rw[ae]) c1 j g
 .exact g.elim
def vr0(h:aH K (Qi j) σ H Q):ZZ (aH K j) σ H Q:=by
 let#[g,G,q,l,c,t,f]:=h;apply#[g,G,_,l,c,t,λx p v o m c1 n i=>?_];split at i
 .rename_i k;exact#[k,m.b9,f _ _ _ _ (by rw[ae]) c1 n i]
 .exact i.elim
def yx(i:Nat)(te:bu)(r:R3):iH:=λE σ G=>match σ[i]? with
 | some (some x)=>te σ G λy g=>r x y g λz f=>E.nx (σ.set i (some z)) f| _=>False
def wj6(h:dM K (yx i te r) E σ H):Fw i (aH K te) (lF K r) E σ H:=by
 let#[f,G,d,g,c,t,A]:=h;unfold yx at t;split at t
 .rename_i x e;let#[v,q,p]:=g.2 i x e;apply#[v,q,f,G,_,g,c,t,λy B u J o c1 j m=>?_];exact#[x,y,B,_,ae.le j p,o,c1,m,λz L C I n c2 k l=>A.nx _ _ _ _ ((g.le (j.trans k)).set i n) c2 (j.trans k) l]
 .exact t.elim
abbrev DJ:=gY->Gp->(Option Int->Gp->Prop)->Prop
def sm(K:W.Frag)(t:DJ):TO:=λσ H Q=>∃f G q,bF K H f σ/\bW K G H/\t f G q/\∀o h g,bW K h g->Le H g->q o h->Q o g
def Te:DJ:=λ_ G q=>q none G
def Ma(t:bu):DJ:=λσ G q=>t σ G λx f=>match x with|.int i=>q (some i) f|_=>False
def v49{Q:Option Int->Hp->Prop}(h:sm K Te σ H Q):v89 σ H Q:=by let#[g,G,q,i,c,t,f]:=h;exact f _ _ _ c (Le.refl H) t
def vq9{t:bu}{Q:Option Int->Hp->Prop}(h:sm K (Ma t) σ H Q):Z_ (aH K t) σ H Q:=by
 let#[g,G,q,l,c,t,f]:=h;apply#[g,G,_,l,c,t,λx o v n j c1 m i=>?_];split at i
 .rename_i k;rw[ae] at j;exact#[k,j,f _ _ _ c1 m i]
 .exact i.elim
abbrev Og:=D->Option Int->Option Int->Gp->DK->Prop
def Qq(K:W.Frag)(r:Og):V->Option Int->Option Int->Hp->VK->Prop:=λx l u H Q=>∃d G q,ae K H d x/\bW K G H/\r d l u G q/\jA K H q Q
def Xf(r:Og)(te:bu)(f g:DJ):bu:=λσ G q=>te σ G λx j=>f σ j λl i=>g σ i λu h=>r x l u h q
def x74(h:aH K (Xf r te m n) σ H Q):tSl (Qq K r) (aH K te) (sm K m) (sm K n) σ H Q:=by
 let#[g,G,q,i,c,t,f]:=h;exact#[g,G,_,i,c,t,λx L v O B c1 k A=>#[g,L,_,i.le k,c1,A,λo J N c2 j y=>#[g,J,_,i.le (k.trans j),c2,y,λu I M C l p =>
  #[x,I,q,ae.le (j.trans l) B,C,p,f.le (k.trans (j.trans l))]]]]
def Oe(r:C3)(t:fk):bu:=λσ G q=>t σ G λf g=>r f g q
def w17(h:aH K (Oe r t) σ H Q):UE (HQ K r) (eK K t) σ H Q:=by let#[g,G,q,j,c,t,f]:=h;exact#[g,G,_,j,c,t,λm n o p k c1 l i=>#[m,n,q,k,c1,i,f.le l]]
abbrev M3:=D->List D->Gp->DK->Prop
def xY(K:W.Frag)(r:M3):V->List V->Hp->VK->Prop:=λx xs H Q=>∃d f G q,ae K H d x/\ag K H f xs/\bW K G H/\r d f G q/\jA K H q Q
def kR(G:Gp)(T:String):D->Prop
 | .str _=>T = "str"| .int _=>T = "int"| .ref a=>match G a with
  | some (.lst _)=>T = "list"| some (.sE _)=>T = "list"| some (.bI _)=>T = "dict"| _=>False
 | _=>False
def DC(T:String)(r:M3)(to:bu)(t:fk):bu:=λσ G q=>to σ G λx f=>kR f T x/\t σ f λg h=>r x g h q
def Xi(T:String)(r:M3)(to:bu):bu:=λσ G q=>to σ G λx f=>kR f T x/\r x [] f q
def SE(ty:∀G H x v,bW K G H->ae K H x v->kR G T x->Ff K T v H)(h:aH K (DC T r to t) σ H Q):tBM K T (xY K r) (aH K to) (eK K t) σ H Q:=by let#[g,G,q,i,c,t,f]:=h;exact#[g,G,_,i,c,t,λx m v A j c1 l ⟨y,o⟩=>#[ty m A x v c1 j y,g,m,_,i.le l,c1,o,λu B C I p c2 k n=>#[x,u,B,q,ae.le k j,p,c2,n,f.le (l.trans k)]]]
end
end L3
namespace L3
open PySem PySem.Spec PyProof.Rows L2
section
variable{X:Cx}
def dH(h:PE X e t)(w:∀f H Q,t' f H Q->t f H Q):PE X e t':=λpins s f H Q I q=>h pins s f H Q I (w _ _ _ q)
def Mh(h:PT X e t)(w:∀f H Q,t' f H Q->t f H Q):PT X e t':=λpins s f H Q I q=>h pins s f H Q I (w _ _ _ q)
def wq4(h:PW X e t)(w:∀f H Q,t' f H Q->t f H Q):PW X e t':=λg pins s f H Q I q=>h g pins s f H Q I (w _ _ _ q)
def wq8(h:PA X e t)(w:∀f H Q,t' f H Q->t f H Q):PA X e t':=λpos pins s f H Q I q=>h pos pins s f H Q I (w _ _ _ q)
def oZ(h:PS X e t)(w:∀D f H,t' D f H->t D f H):PS X e t':=λpins s f H D I q=>h pins s f H D I (w _ _ _ q)
def vv5(h:oS X e t)(w:∀D f H,t' D f H->t D f H):oS X e t':=λpins s f H D I q=>h pins s f H D I (w _ _ _ q)
def Sj(h:PG X e t)(w:∀v f H Q,t' v f H Q->t v f H Q):PG X e t':=λpins s f H v u Q I r q=>h pins s f H v u Q I r (w _ _ _ _ q)
def vv6(h:zD X e t)(w:∀v f H Q,t' v f H Q->t v f H Q):zD X e t':=λpins s f H v u Q I r q=>h pins s f H v u Q I r (w _ _ _ _ q)
def w46(h:sJ X t)(w:∀o i v H Q,t' o i v H Q->t o i v H Q):sJ X t':=λpins s f H o i v l m u Q I k j g q=>h pins s f H o i v l m u Q I k j g (w _ _ _ _ _ q)
def CF(h:PI X tg e t)(w:∀f H R,t' f H R->t f H R):PI X tg e t':=λpins s f H R I q=>h pins s f H R I (w _ _ _ q)
def rZ(h:cX X f r)(w:∀x y H Q,r' x y H Q->r x y H Q):cX X f r':=λpins s g H x y v u Q I a b q=>h pins s g H x y v u Q I a b (w _ _ _ _ q)
def vv4(h:yC X f r)(w:∀x H Q,r' x H Q->r x H Q):yC X f r':=λpins s g H x v Q I a q=>h pins s g H x v Q I a (w _ _ _ q)
def pb(h:bG X f r)(w:∀x H Q,r' x H Q->r x H Q):bG X f r':=λpins s g H x v Q I a q=>h pins s g H x v Q I a (w _ _ _ q)
def SW{id:String}{r r':V->List V->Hp->VK->Prop}(h:zG X id r)(w:∀x xs H Q,r' x xs H Q->r x xs H Q):zG X id r':=λpins s f H x xs v g Q I a b q=>h pins s f H x xs v g Q I a b (w _ _ _ _ q)
def wq7(h:sM X r)(w:∀x y H Q,r' x y H Q->r x y H Q):sM X r':=λg i pins s f H x y v u Q I a b q=>h g i pins s f H x y v u Q I a b (w _ _ _ _ q)
def wq5(h:uH X r)(w:∀x l u H Q,r' x l u H Q->r x l u H Q):uH X r':=by
 intro pins s f H x lo hi
 intros
 apply h <;> first|assumption|(apply w;assumption)
def wq6(h:PO X e t)(w:∀f H Q,t' f H Q->t f H Q):PO X e t':=by intro pins s f H Q I q;exact h pins s f H Q I (w _ _ _ q)
def w47(h:lN X e t)(w:∀f H Q,t' f H Q->t f H Q):lN X e t':=λpins s f H Q I q=>h pins s f H Q I (w _ _ _ q)
end
def E3(X:Cx)(e:Expr)(t:bu):Prop:=PE X e (aH X.K t)
def T3(X:Cx)(e:Expr)(t:iU):Prop:=PT X e (eJ X.K t)
def W3(X:Cx)(e:Expr)(t:iU):Prop:=PW X e (eJ X.K t)
def A3(X:Cx)(f:List Expr)(t:fk):Prop:=PA X f (eK X.K t)
def S3(X:Cx)(st:Stmt)(t:iH):Prop:=PS X st (dM X.K t)
def wR(X:Cx)(f:List Stmt)(t:iH):Prop:=oS X f (dM X.K t)
def J3(X:Cx)(e:Expr)(t:qu):Prop:=PG X e (lowG X.K t)
def Oh(X:Cx)(f:List Expr)(t:qt):Prop:=zD X f (Md X.K t)
def I3(X:Cx)(tg e:Expr)(t:tw):Prop:=PI X tg e (pZ X.K t)
def O3(X:Cx)(e:Option Expr)(t:DJ):Prop:=PO X e (sm X.K t)
def yH(X:Cx)(f:List Expr)(t:iU):Prop:=lN X f (eJ X.K t)
abbrev fG(X:Cx)(f:Value->Value->Sem Value)(r:R3):Prop:=cX X f (lF X.K r)
abbrev Call3(X:Cx)(f:Value)(r:C3):Prop:=bG X f (HQ X.K r)
section
variable{X:Cx}{a b c e o:Expr}{es:List Expr}{pos apos aN p p2:Pos}{ta tb tc te:bu}{t u:iU}{ts us:fk}
def ev(i:Nat)(j:X.N[i]?=some x:=by rfl)(g:Jw X.env.scope x:=by first|exact Ah rfl|exact wV (Ah rfl)|exact wV (wV rfl))(h:(x==("__debug__" :Str))=false:=by decide)
  (f:(x==("__classdict__" :Str))=false:=by decide):E3 X (.Name x pos) (dP i):=dH (w03 j g h f) λ_ _ _=>wi5
def aA{i j pos}:E3 X (.Constant (.int i) j pos) (dC (.int i)):=dH ww7 λ_ _ _=>Ep λ_=>by rw[ae]
def dy{i j pos}:E3 X (.Constant (.bool i) j pos) (dC (.bl i)):=dH xi3 λ_ _ _=>Ep λ_=>by rw[ae]
def aS{x j pos}:E3 X (.Constant (.str x) j pos) (dC (.str x)):=dH ww3 λ_ _ _=>Ep λ_=>by rw[ae]
def xa4(g:Gl X x)(f:X.mg x=some w)(r:RelV v w)(rd:∀H,ae X.K H d v)(h:(x==("__debug__" :Str))=false:=by decide):E3 X (.Name x pos) (dC d):=dH (wg5 g f r h) λ_ _ _=>Ep rd
def aK(f:fG X (L8 op) r)(h:E3 X a ta)(g:E3 X b tb):E3 X (.BinOp a op b pos) (zy r ta tb):=dH (xi1 f h g) λ_ _ _=>Ms
def sF(f:yC X (DN op) (xX X.K r))(g:E3 X a ta):E3 X (.UnaryOp op a pos) (Od r ta):=dH (xh9 f g) λ_ _ _=>x73
def sP(f:fG X (K2 op) r)(i:E3 X a ta)(h:E3 X b tb)(g:DZ op b=false):E3 X (.Compare a [op] [b] pos) (zy r ta tb):=dH (wg8 f i h g) λ_ _ _=>Ms
def bE(n:fG X (K2 op) r)(B:E3 X a ta)(A:E3 X b tb)(y:DZ op b=false):T3 X (.Compare a [op] [b] pos) (dB (zy r ta tb)):=
 Mh (we8 n B A y) λC H Q h=>by
  let#[g,G,q,j,c,t,f]:=h;exact Ms (K:=X.K) #[g,G,_,j,c,t,λx I v E l c1 m i=>by
   split at i
   .rename_i k;exact#[k,l.b9,f _ _ _ c1 m i]
   .exact i.elim]
def j3(h:E3 X e te)(g:∀f,isTrue e X.env f=(do let v <- f;wW e.pos;holding [v] (truthy v)):=by intro _;rfl):T3 X e (dB te):=Mh (wu9 h g) λ_ _ _=>xi9
def xn(f:T3 X a t):W3 X (.BoolOp .And [a] pos) t:=we7 f
def Et(f:T3 X a t):W3 X (.BoolOp .Or [a] pos) t:=wu7 f
def w_and{rest:List Expr}(g:T3 X a t)(f:W3 X (.BoolOp .And (b::rest) pos) u):W3 X (.BoolOp .And (a::b::rest) pos) (Cc t u):=wq4 (wu8 g f) λ_ _ _=>vs6
def w_or{rest:List Expr}(g:T3 X a t)(f:W3 X (.BoolOp .Or (b::rest) pos) u):W3 X (.BoolOp .Or (a::b::rest) pos) (Xg t u):=wq4 (xh5 g f) λ_ _ _=>wj1
def qF(h:W3 X e t):T3 X e t:=PW.pt h
def AE(f:T3 X a t):T3 X (.UnaryOp .Not a pos) (Ca t):=Mh (wv0 f) λ_ _ _=>vr1
def Cw{op}(h:E3 X a ta):E3 X (.BoolOp op [a] pos) ta:=ww4 h
def En{rest:List Expr}(g:E3 X a ta)(f:E3 X (.BoolOp .And (b::rest) pos) tb):E3 X (.BoolOp .And (a::b::rest) pos) (Qe ta tb):=dH (ww9 g f) λ_ _ _=>vs5
def Xc{rest:List Expr}(g:E3 X a ta)(f:E3 X (.BoolOp .Or (b::rest) pos) tb):E3 X (.BoolOp .Or (a::b::rest) pos) (B' ta tb):=dH (xi0 g f) λ_ _ _=>wj0
def Mb(f:E3 X a ta):E3 X (.UnaryOp .Not a pos) (Qi ta):=dH (ww5 f) λ_ _ _=>vr0
def nZ(f:T3 X c t)(h:E3 X a ta)(g:E3 X b tb):E3 X (.IfExp c a b pos) (Xh t ta tb):=dH (vp1 f h g) λ_ _ _=>x75
def oK:A3 X [] eN:=wq8 w05 λ_ _ _=>ve1
def w32(h:E3 X e te)(g:A3 X es ts)(f:D0 (e::es) X.env=(false,eval e X.env)::D0 es X.env:=by rfl):A3 X (e::es) (me te ts):=wq8 (vb6 h g f) λ_ _ _=>vr9
def bh{f}(h:A3 X es ts):E3 X (.Tuple es f pos) (sG ts):=dH (ww2 h) λ_ _ _=>wi7
def dD(h:A3 X es ts):E3 X (.List es pos) (yw ts):=dH (ww6 h) λ_ _ _=>wj2
def bL(g:sM X (lF X.K r))(i:E3 X a ta)(h:E3 X b tb)(f:vl2 b:=by exact λ_ _=>rfl):E3 X (.Subscript a b pos) (zy r ta tb):=dH (xi2 g i h f) λ_ _ _=>Ms
def w12:O3 X none Te:=wq6 wf7 λ_ _ _=>v49
def EB(h:E3 X e te):O3 X (some e) (Ma te):=wq6 (wf6 h) λ_ _ _=>vq9
def BZ{r:Og}{lo hi:Option Expr}{f g:DJ}(i:uH X (Qq X.K r))(k:E3 X e te)(j:O3 X lo f)(h:O3 X hi g):E3 X (.Subscript e (.Slice lo hi none p2) pos) (Xf r te f g):=dH (vo9 i k j h) λ_ _ _=>x74
end
section
variable{X:Cx}{a b c e o value:Expr}{es:List Expr}{st:Stmt}{Dc Fz:List Stmt}{pos pos' r9 pd:Pos}{te ta tv:bu}{t:iU}{s1 s2:iH}{g:qu}
def cj:wR X [] Qh:=vv5 wf1 λ_ _ _=>vr2
def ar(h1:S3 X st s1)(f:wR X Dc s2):wR X (st::Dc) (gR s1 s2):=vv5 (vn9 h1 f) λ_ _ _=>wi8
def az(h1:S3 X st s1):wR X [st] s1:=wf0 h1
def dI(h:E3 X e te)(f:X7 e none pos.line X.env=pure false:=by rfl):S3 X (.Expr e pos) (Az te):=oZ (wf4 h f) λ_ _ _=>vr8
def aV(f:E3 X e te):S3 X (.Return (some e) pos) (jT te):=oZ (wv3 f) λ_ _ _=>wi9
def wu2:S3 X (.Return none pos) Qk:=oZ wf3 λ_ _ _=>vq7
def aJ(f:T3 X c t)(i:wR X Dc s1)(h:wR X Fz s2):S3 X (.If c Dc Fz pos) (ux t s1 s2):=oZ (xh6 f i h) λ_ _ _=>wj3
def xb3:iH:=λ_ _ _=>False
def Tt:S3 X st xb3:=oZ vo1 λ_ _ _ h=>by let#[_,_,_,_,_,h,_]:=h;exact h.elim
def cI(i:Nat)(j:X.N.Nodup)(hi:X.N[i]?=some x:=by rfl)(f:Loc X.env.scope x:=by first|exact Ah rfl|exact wV rfl)(h:X.fn x=true\/X.env.scope.names.lookup x=some .local:=by first|exact .inl rfl|exact .inr rfl|assumption):J3 X (.Name x pos) (xk i):=Sj (wg1 j hi f h) λ_ _ _ _=>ve2
def AF:Oh X [] Bp:=vv6 wg0 λ_ _ _ _=>vr5
def mq{t:qu}{u:qt}(h1:J3 X e t)(h:Oh X es u)(f:(R7 (e::es) X.env).map (·.2)=assign e X.env::(R7 es X.env).map (·.2):=by rfl):Oh X (e::es) (Qp t u):=vv6 (vo8 h1 h f) λ_ _ _ _=>ve3
def yR{i:Expr}{to j:bu}{t:rb}(l:E3 X o to)(hi:E3 X i j)(k:sJ X (SD X.K t))
  (m:∀v,assign (.Subscript o i pos) X.env v=(do
   let f <- holding [v] (eval o X.env);let h <- holding [v,f] (eval i X.env)
   wW pos
   holding [v,f,h] (Om f h v)
   release [v,f,h] []):=by intro _;rfl):J3 X (.Subscript o i pos) (Bo to j t):=Sj (ww1 l hi k m) λ_ _ _ _=>vr4
def tH(i:E3 X e te)(h:J3 X tg g)(f:swapsWithSole [tg] e pos.line X.env=pure false:=by rfl)(hw:swappedStores [tg] e X.env=pure none:=by rfl)
  (h1:(R7 [tg] X.env).map (·.2)=[assign tg X.env]:=by rfl):S3 X (.Assign [tg] e pos) (jq te g):=oZ (wv7 i h f hw h1) λ_ _ _=>wj7
def aM(i:Nat)(A:X.N.Nodup)(y:E3 X e te)(hi:X.N[i]?=some x:=by rfl)(p:Loc X.env.scope x:=by first|exact Ah rfl|exact wV rfl)(r:X7 e (some (.Name x pos')) pos.line X.env=pure false:=by rfl)
  (u:X.fn x=true\/X.env.scope.names.lookup x=some .local:=by first|exact .inl rfl|exact .inr rfl|assumption):S3 X (.Assign [.Name x pos'] e pos) (jq te (xk i)):=
 oZ (wv2 A hi p y r u) λD B H h=>by let#[j,G,q,k,c,t,f]:=h;exact#[j,G,_,k,c,t,λx E v C n c1 l m=>f.nx _ _ _ _ ((k.le l).set i n) c1 l m]
def Er(i:Nat)(l:X.N.Nodup)(k:E3 X e te)(h:fG X (yM op) r)(hi:X.N[i]?=some x:=by rfl)(f:Loc X.env.scope x:=by first|exact Ah rfl|exact wV rfl)
  (j:X.fn x=true\/X.env.scope.names.lookup x=some .local:=by first|exact .inl rfl|exact .inr rfl|assumption):S3 X (.AugAssign (.Name x pos') op e pos) (yx i te r):=oZ (wv6 l hi f k h j) λ_ _ _=>wj6
def MM(h:T3 X c t)(i:wR X body s1)(f:OL (model X.prog X.w) X.A X.env X.xe:=by exact C20):S3 X (.While c body [] pos) (Sv t s1):=oZ (vo0 f h i) λ_ _ _=>vd7
def j0(hi:I3 X tg iter f)(j:J3 X tg g)(l:wR X body s1)(k:X.calm=true:=by rfl)(i:OL (model X.prog X.w) X.A X.env X.xe:=by exact C20)
  (h:∀x,W0 iter X.env x=pure x:=by intro _;rfl):S3 X (.For tg iter body [] pos) (uy f g s1):=oZ (wv4 i k hi j l h) λ_ _ _=>wj4
def fN(k:jB X.K C)(h:bD X.K C f)(i:E3 X e te)(j:N3 e f X.env (eval e X.env)=eval e X.env:=by rfl):E3 X (.Attribute e f pos) (Cb C te f):=dH (ww8 i j) λ_ _ _=>wj5 k h
def xl(l:jB X.K C)(h:bD X.K C f)(k:E3 X o ta)(i:E3 X value tv)(j:X7 value (some (.Attribute o f pos')) pos.line X.env=pure false:=by rfl):S3 X (.Assign [.Attribute o f pos'] value pos) (Ql C ta tv f):=oZ (wv5 k i j) λ_ _ _=>vq6 l h
def ED(l:jB X.K C)(h:bD X.K C f)(k:E3 X o ta)(i:E3 X value tv)(j:fG X (yM op) r):S3 X (.AugAssign (.Attribute o f pd) op value pos) (Qf C ta tv r f):=oZ (va7 k i j) λ_ _ _=>vs4 l h
end
def vd9{K:W.Frag}{i:L2.St}{H:Hp}{l:fk}{R:It->Hp->Prop}(h:pZ K (λi G r=>l i G λds G1=>match ds with|[.int j]=>(-(2^62)<=j/\j<2^62)/\r #[bO 0 j.toNat,λ_=>True] G1|_=>False) i H R):ZJ (eK K l) i H R:=by
 let#[k,G,q,n,c,t,f]:=h;apply#[k,G,_,n,c,t,λds G1 y A p c1 u g=>?_];split at g
 .rename_i j;let#[x,r,rfl,m,o]:=p.au;rw[ae] at m;subst m;rw[o.aY];exact#[j,rfl,g.1.1,g.1.2,f _ _ _ _ uj1 c1 u g.2]
 .exact g.elim
def vd8{K:W.Frag}{g:L2.St}{H:Hp}{m:fk}{R:It->Hp->Prop}(h:pZ K (λg G r=>m g G λds G1=>match ds with|[.int i,.int j]=>(-(2^62)<=i/\i<2^62/\-(2^62)<=j/\j<2^62)/\r #[bO i (j-i).toNat,λ_=>True] G1|_=>False) g H R):ZK (eK K m) g H R:=by
 let#[l,G,q,p,c,t,f]:=h;apply#[l,G,_,p,c,t,λds G1 E J B c1 C k=>?_];split at k
 .rename_i i j;let#[x,r,rfl,o,u]:=B.au;let#[y,I,rfl,n,A]:=u.au;rw[ae] at o n;subst o n;rw[A.aY];exact#[i,j,rfl,k.1,f _ _ _ _ uj1 c1 C k.2]
 .exact k.elim
def wr2(g:fk):tw:=λf G r=>g f G λh i=>match h with|[.int j]=>(-(2^62)<=j/\j<2^62)/\r #[bO 0 j.toNat,λ_=>True] i|_=>False
def wr1(g:fk):tw:=λf G r=>g f G λh k=>match h with|[.int i,.int j]=>(-(2^62)<=i/\i<2^62/\-(2^62)<=j/\j<2^62)/\r #[bO i (j-i).toNat,λ_=>True] k|_=>False
section
variable{X:Cx}{a b e o tg:Expr}{es:List Expr}{p pos apos aN:Pos}{ta:bu}{ts:fk}
def sR(h:Gl X "range")(g:X.mg "range" = none)(i:A3 X [a] ts)(f:D0 [a] X.env=[(false,eval a X.env)]:=by rfl):I3 X tg (.Call (.Name "range" p) [a] [] pos) (wr2 ts):=CF (vb4 h g i f) λ_ _ _=>vd9
def w21(h:Gl X "range")(g:X.mg "range" = none)(i:A3 X [a,b] ts)(f:D0 [a,b] X.env=[(false,eval a X.env),(false,eval b X.env)]:=by rfl)(j:D0 [b] X.env=[(false,eval b X.env)]:=by rfl):
  I3 X tg (.Call (.Name "range" p) [a,b] [] pos) (wr1 ts):=CF (vb3 h g i f j) λ_ _ _=>vd8
variable{k:Nat}{f C:Addr}{fd:wY}{ps:List Str}{S:gu}{kJ:List D}{eL:List V}{ds:List Value}{x m:Str}
def xa6(F:bz X.prog X.w X.K X.mg X.base oV k f fd ps (mf X.K S))(h:aQ k X.A)(l:Gl X x)(i:X.mg x=some (.ref f))(j:W.keepIn X.K (.ref f)=true)(r:Binds X.K fd ps ds)(q:Vals eL ds)(y:∀H,ag X.K H kJ eL) (t:A3 X (e::es) ts) (g:(x==("__debug__" :Str))=false:=by decide) (n:D0 (e::es) X.env=(false,eval e X.env)::D0 es X.env:=by rfl) (u:(backTo pos (D0 es X.env)).any (·.1)=false:=by rfl):
  E3 X (.Call (.Name x p) (e::es) [] pos) (jo S kJ ts):=dH (wg9 F h l i j r q qK t g n u) λ_ _ _=>vs0 y
def xa2(l:E3 X o ta)(c:jB X.K C)(j:Meth X.K C m f)(F:bz X.prog X.w X.K X.mg X.base oV k f fd ps (mf X.K S))(i:aQ k X.A)(q:Binds X.K fd ps ds)(n:Vals eL ds)(y:∀H,ag X.K H kJ eL)(r:A3 X (e::es) ts) (u:D0 (e::es) X.env=(false,eval e X.env)::D0 es X.env:=by rfl) (t:(backTo pos (D0 es X.env)).any (·.1)=false:=by rfl)
  (h:eval (.Call (.Attribute o m apos) (e::es) [] pos) X.env=(do
   let g <- eval o X.env
   wW apos.atName
   let (f,first) <- holding [g] (Ak g m pl)
   DP pos f first (backTo pos (D0 (e::es) X.env)) (W4 pos (O7 [] X.env))):=by rfl):E3 X (.Call (.Attribute o m apos) (e::es) [] pos) (qC C m S kJ ta ts):=
 dH (wg3 l c j F i q n qK r u t h) λ_ _ _=>v09 y
def wl3(I:E3 X o ta)(c:jB X.K C)(E:Meth X.K C m f)(F:bz X.prog X.w X.K X.mg X.base oV k f fd ps (mf X.K S))(B:aQ k X.A)(L:Binds X.K fd ps ds)(J:Vals eL ds)(BR:∀H,ag X.K H kJ eL)
  (y:eval (.Call (.Attribute o m apos) [] [] pos) X.env=(do
   let i <- eval o X.env
   wW apos.atName
   let (f,first) <- holding [i] (Ak i m pl)
   DP pos f first (backTo pos (D0 [] X.env)) (W4 pos (O7 [] X.env))):=by rfl):E3 X (.Call (.Attribute o m apos) [] [] pos) (qC C m S kJ ta eN):=
 dH (vp0 I c E F B L J qK y) λσ H Q h=>by let#[g,G,q,l,Z,t,N]:=v09 (XE:=E0) BR h;apply#[g,G,q,l,Z,t,λd G1 v H1 n c1 u j=>?_];let#[a,Y,M,U,R,O,r]:=N d G1 v H1 n c1 u j;exact#[a,Y,M,U,R,O,ve1 r]
def w27(M:Mk X.K C f)(F:bz X.prog X.w X.K X.mg X.base oV k f fd ps (mf X.K S))(h:aQ (k+1) X.A)(j:Gl X x)(i:X.mg x=some (.ref C))(q:Binds X.K fd ps ds)(n:Vals eL ds)(u:∀H,ag X.K H kJ eL) (r:A3 X (e::es) ts) (g:(x==("__debug__" :Str))=false:=by decide) (l:D0 (e::es) X.env=(false,eval e X.env)::D0 es X.env:=by rfl) (t:(backTo pos (D0 es X.env)).any (·.1)=false:=by rfl):
  E3 X (.Call (.Name x p) (e::es) [] pos) (Ej C S kJ ts):=dH (wg4 M F h j i q n qK r g l t) λ_ _ _=>vr3 u
variable{id T:String}{r:C3}{rm:M3}{name:Str}
def dJ(q:Call3 X (.builtin id) r)(l:Gl X x)(j:X.mg x=none)(h:Q5 x=some (.builtin id))(t:A3 X (e::es) ts)(i:x ≠ "__name__" := by decide)(g:(x==("__debug__" :Str))=false:=by decide)
  (n:D0 (e::es) X.env=(false,eval e X.env)::D0 es X.env:=by rfl) (u:(backTo pos (D0 es X.env)).any (·.1)=false:=by rfl):E3 X (.Call (.Name x p) (e::es) [] pos) (Oe r ts):=
 dH (vp8 q l j h t i g n u) λ_ _ _=>w17
def oN(q:Call3 X (.type T) r)(l:Gl X x)(j:X.mg x=none)(h:Q5 x=some (.type T))(t:A3 X (e::es) ts)(i:x ≠ "__name__" := by decide)(g:(x==("__debug__" :Str))=false:=by decide)
  (n:D0 (e::es) X.env=(false,eval e X.env)::D0 es X.env:=by rfl) (u:(backTo pos (D0 es X.env)).any (·.1)=false:=by rfl):E3 X (.Call (.Name x p) (e::es) [] pos) (Oe r ts):=
 dH (us1 q l j h t i g n u) λ_ _ _=>w17
end
def CK(ix:List (Option Nat))(f:gY):gY:=ix.map λo=>o.bind λj=>(f[j]?).bind id
def xh(ok:Gp->Prop)(g:qu)(tc:iU)(te:bu)(p:Addr)(q:DK):List D->gY->Gp->Prop
 | [],_,G=>ok G/\q (.ref p) G| x::r,k,G=>ok G/\g x k G λf l=>tc f l λb j =>
  if b=true then te f j λd i=>(match i p with|some (.lst h)=>h.length<sizeLine/\xh ok g tc te p q r f (aG i p (.lst (h++[d])))|_=>False)
  else xh ok g tc te p q r f j
def L_(ix:List (Option Nat))(i:tw)(g:qu)(tc:iU)(te:bu):bu:=λf G q=>i f G λit h=>∀p,h p=none->xh it.ok g tc te p q it.items (CK ix f) (aG h p (.lst []))
def bF.inn{K:W.Frag}{H:Hp}{f:gY}{g:L2.St}(h:bF K H f g)(ix:List (Option Nat)):bF K H (CK ix f) (L2.inner ix g):=by
 apply#[by unfold CK L2.inner;rw[B0,B0],λi d e=>?_];unfold CK at e;unfold L2.inner;rw[F8] at e⊢;cases l:ix[i]? with
 | none=>rw[l] at e;cases e
 | some o =>
  rw[l] at e;cases o with
  | none=>cases e
  | some j =>
   have e:(f[j]?).bind id=some d:=D8 e;have e:f[j]?=some (some d):=by
    cases k:f[j]? with
    | none=>rw[k] at e;cases e
    | some w=>rw[k] at e;cases e;rfl
   let#[v,m,r]:=h.2 j d e;exact#[v,by show some ((g[j]?).bind id)=_;rw[m];rfl,r]
def v12{K:W.Frag}{ix:List (Option Nat)}{Z:tw}{g:qu}{tc:iU}{te:bu}{Y:L2.St}{H:Hp}{Q:VK}(h:aH K (L_ ix Z g tc te) Y H Q):Se ix (pZ K Z) (lowG K g) (eJ K tc) (aH K te) Y H Q:=by
 let#[B,G,q,rs,cc,t,f]:=h;apply#[B,G,_,rs,cc,t,λit J G1 u ir c1 l1 R=>?_];intro p X;have R:=R p (c1.fresh X);have c2:bW K (aG G1 p (.lst [])) (upd u p (.lst [])):=c1.cG X .nil;have l2:Le u (upd u p (.lst [])):=Le.fresh X;apply#[λi m l n=>∃j r,Le (upd u p (.lst [])) n/\bF K n j l/\bW K r n/\i+m=it.items.length/\xh it.ok g tc te p q (it.items.drop i) j r,
  #[it.items.length,CK ix B,_,Le.refl _,(rs.le (l1.trans l2)).inn ix,c2,(),by rw[Yt];exact R],?_]
 rintro i m σ2 M ⟨A,N,U,Nn,c2,e2,o⟩;have L:Le u M:=l2.trans U;by_cases hi:i<it.items.length
 .rw[O6 hi] at o;let#[HB,o]:=o;apply .inr #[ir.go i N M L c2 HB hi,λl n=>∃j r,Le (upd u p (.lst [])) n/\bF K n j l/\bW K r n/\xh it.ok g tc te p q (it.items.drop (i+1)) j r,?_,?_]
  .rintro l n ⟨j,r,a1,a2,a3,a4⟩;exact#[m-1,(),j,r,a1,a2,a3,(),a4]
  .intro x H3 y;let#[c3,S,e,he,r3]:=ir.qx i N M x H3 L c2 HB hi y;rw[B6 hi] at he;cases he;apply#[_,A,N,_,r3,Nn.le S,c3,o,λk G4 σ4 H4 O c4 l5 t4=>?_];apply#[k,G4,_,O,c4,t4,λb G5 H5 c5 C I=>?_];cases b with
   | false =>rw[if_neg C8] at I⊢;exact#[k,G5,U.trans (S.trans (l5.trans C)),O.le C,c5,I]| true =>
    rw[if_pos rfl] at I⊢;apply#[k,G5,_,O.le C,c5,I,λd G6 v H6 r6 c6 l7 E=>?_];split at E
    .rename_i ys eg;let#[xs,ex,rx]:=c6 p _ eg;have l8:=Le.lst (ys:=xs++[v]) ex;exact#[xs,ex,by rw[<- rx.length];exact E.1,k,_,U.trans (S.trans (l5.trans (C.trans (l7.trans l8)))),O.le (C.trans (l7.trans l8)),c6.lE ex (rx.append (.cons r6 .nil)),E.2]
    .exact E.elim
 .rw[B26 ()] at o;exact .inl #[ir.stop i N M L c2 o.1 (),f _ _ _ _ ae.eW c2 (l1.trans L) o.2]
def Jl:iU:=λ_ G q=>q true G
section
variable{X:Cx}{elt tg iter:Expr}{ifs:List Expr}{scope:Scope}{pos:Pos}{N':List Str}{ix:List (Option Nat)}{wi:tw}{g:qu}{tc:iU}{te:bu}
def mn:yH X [] Jl:=w47 vo5 λj H Q h=>by let#[i,G,q,k,c,t,f]:=h;exact f _ _ _ c (Le.refl H) t
def Ti(h:T3 X c tc):yH X [c] tc:=vo4 h
def o7(B:jC X N' ix scope)(hw:I3 X tg iter wi)(i:∀C s H f,J3 (ml X N' scope C s H f) tg g)(hi:∀C s H f,yH (ml X N' scope C s H f) ifs tc)(j:∀C s H f,E3 (ml X N' scope C s H f) elt te) (k:X.calm=true:=by rfl) (h:∀x,W0 iter X.env x=pure x:=by intro _;rfl):E3 X (.ListComp elt [#[tg,iter,ifs,0]] scope pos) (L_ ix wi g tc te):=dH (wg7 (g:=lowG X.K g) (tc:=eJ X.K tc) (te:=aH X.K te) B k hw i hi j h) λ_ _ _=>v12
def EE(i:Nat){y:Str}{n m:Pos}(M:X.N.Nodup)(B:jC X N' ix scope)(hw:I3 X tg iter wi)(E:∀C s H j,J3 (ml X N' scope C s H j) tg g)(hi:∀C s H j,yH (ml X N' scope C s H j) ifs tc)(J:∀C s H j,E3 (ml X N' scope C s H j) elt te) (r:X.N[i]?=some y:=by rfl) (A:Loc X.env.scope y:=by first|exact Ah rfl|exact wV rfl)
  (L:X.calm=true:=by rfl) (O:X7 (.ListComp elt [#[tg,iter,ifs,0]] scope pos) (some (.Name y n)) m.line X.env=pure true:=by rfl)
  (I:X.fn y=true\/X.env.scope.names.lookup y=some .local:=by first|exact .inl rfl|exact .inr rfl|assumption)
  (u:∀x,W0 iter X.env x=pure x:=by intro _;rfl):S3 X (.Assign [.Name y n] (.ListComp elt [#[tg,iter,ifs,0]] scope pos) m) (jq (L_ ix wi g tc te) (xk i)):=
 oZ (wf2 (g:=lowG X.K g) (tc:=eJ X.K tc) (te:=aH X.K te) B L M r A hw E hi J O I u) λD Q H h=>by let#[k,G,d,l,c,t,f]:=h;exact v12 (K:=X.K) #[k,G,_,l,c,t,λx S v R q c1 o p=>f.nx _ _ _ _ ((l.le o).set i q) c1 o p]
end
def ma:R3:=λx y G q=>match x,y with
 | .int i,.int j=>q (.int (i+j)) G| .str a,.str b=>a.length+b.length<=sizeLine/\q (.str (a++b)) G| .tup a,.tup b=>a≠[]/\a.length+b.length<=sizeLine/\q (.tup (a++b)) G| .ref a,.ref b=>(match G a,G b with
  | some (.lst xs),some (.lst f)=>xs.length+f.length<=sizeLine/\∀p,G p=none->q (.ref p) (aG G p (.lst (xs++f)))| _,_=>False)
 | _,_=>False
def l_(f:Int->Int->Int):R3:=λx y G q=>match x,y with|.int i,.int j=>q (.int (f i j)) G|_,_=>False
def yS(C:Int->Int->Prop)(f:Int->Int->Int):R3:=λx y G q=>match x,y with|.int i,.int j=>C i j/\q (.int (f i j)) G|_,_=>False
def Ap:R3:=l_ λi j=>i-j
def xa:R3:=λx y G q=>match x,y with
 | .int i,.int j=>iV i j/\q (.int (i*j)) G| .ref a,.int k=>(match G a with
  | some (.lst xs)=>(-(2^63)<=k/\k<2^63/\xs.length*k.toNat<=sizeLine)/\∀p,G p=none->q (.ref p) (aG G p (.lst (D6 k.toNat xs).flatten))| _=>False)
 | _,_=>False
def LW(_ j:Int):Prop:=0<j/\j<18446744073709551616
def Eh:R3:=yS LW λi j=>i / j
def Ef:R3:=yS (λ_ j=>0<j) λi j=>i%j
def Ee:R3:=yS jZ λi j=>i^j.toNat
def Ed:R3:=yS jZ λi j=>i*2^j.toNat
def Ec:R3:=yS (λ_ j=>0<=j) λi j=>i / 2^j.toNat
def Ei:R3:=l_ P1
def ZC:R3:=l_ LK
def Eb:R3:=l_ LL
def PZ:R3:=λx y G q=>match x,y with|.int i,.int j=>q (.bl (decide (i<j))) G|.str a,.str b=>q (.bl (decide (a.cps.toList<b.cps.toList))) G|_,_=>False
def ZD:R3:=λx y G q=>match x,y with|.int i,.int j=>q (.bl (decide (i<=j))) G|_,_=>False
def ZE:R3:=λx y G q=>match x,y with|.int i,.int j=>q (.bl (decide (j<i))) G|_,_=>False
def ZF:R3:=λx y G q=>match x,y with|.int i,.int j=>q (.bl (decide (j<=i))) G|_,_=>False
section
variable{X:Cx}{K:W.Frag}{H:Hp}
def ae.int_inv(h:ae K H (.int i) v):v=.int i:=by rw[ae] at h;exact h
def ae.str_inv(h:ae K H (.str i) v):v=.str i:=by rw[ae] at h;exact h
def ae.d6(h:ae K H .non v):v=.non:=by rw[ae] at h;exact h
def ae.aO(h:ae K H (.tup ds) v):∃a xs,v=.ref a/\eC K H a xs/\ag K H ds xs:=by rw[ae] at h;exact h
def ae.cY:ae K H (.int i) (.int i):=by rw[ae]
def ae.AV:ae K H (.str i) (.str i):=by rw[ae]
def ae.lY:ae K H (.bl i) (.bl i):=by rw[ae]
def ae.xW:ae K H .non .non:=by rw[ae]
def CG(h:cX X f (pS λi j=>.int (g i j))):fG X f (l_ g):=rZ h λx y H Q ⟨d,e,G,q,l,k,c,t,f⟩=>by
 unfold l_ at t;split at t
 .exact#[_,_,l.int_inv,k.int_inv,f _ _ _ _ ae.cY c (Le.refl H) t]
 .exact t.elim
def EF(h:cX X f (rI C λi j=>.int (g i j))):fG X f (yS C g):=rZ h λx y H Q ⟨d,e,G,q,l,k,c,t,f⟩=>by
 unfold yS at t;split at t
 .exact#[_,_,l.int_inv,k.int_inv,t.1,f _ _ _ _ ae.cY c (Le.refl H) t.2]
 .exact t.elim
def gp:fG X (L8 .Sub) Ap:=CG wx4
def vp9:cX X (L8 .FloorDiv) (rI LW λi j=>.int (i / j)):=Dh λi j _ _ _ _ _ f q=>by
 have h:j.natAbs.log2<9000:=by
  have l:=f.1;have k:=f.2;have g:j.natAbs≠0:=()
  have:j.natAbs.log2<64:=(Nat.log2_lt g).mpr ();omega
 apply floordiv_int (by have:=f.1;omega) ?_ (.inl (PyProof.noPylong_of_log2 h));rw[Z0 i (by have:=f.1;omega)];exact q
def wq0:fG X (L8 .FloorDiv) Eh:=EF vp9
def tI:fG X (L8 .Mod) Ef:=EF wy0
def Ex:fG X (L8 .Pow) Ee:=EF wx8
def v30:fG X (L8 .LShift) Ed:=EF wx6
def wp6:fG X (L8 .RShift) Ec:=EF wx5
def Mi:fG X (L8 .BitAnd) Ei:=CG wy3
def PX:fG X (L8 .BitOr) ZC:=CG xi4
def xg2:fG X (L8 .BitXor) Eb:=CG wx3
def wp9:fG X (yM .Sub) Ap:=CG wk5
def xo:fG X (yM .Add) (l_ λi j=>i+j):=CG wk6
def cf:fG X (L8 .Add) ma:=rZ (Bb.or (pT.or (qL.or wy2))) <| by
 rintro x y H Q ⟨d,e,G,q,l,k,c,t,f⟩;unfold ma at t;cases d <;> cases e <;> first|exact t.elim|dsimp only at t
 .exact .inl ⟨_,_,l.int_inv,k.int_inv,f _ _ _ _ ae.cY c (Le.refl H) t⟩
 .exact .inr (.inl ⟨_,_,l.str_inv,k.str_inv,t.1,f _ _ _ _ ae.AV c (Le.refl H) t.2⟩)
 .let#[a,xs,rfl,n,g]:=l.aO;let#[b,m,rfl,A,j]:=k.aO;apply .inr (.inr (.inl #[a,b,xs,m,rfl,rfl,n,A,λz=>t.1 ?_,by rw[<- g.length,<- j.length];exact t.2.1,λz=>?_,λ_ p i=>?_]))
  .have:=g.length;rw[z] at this;exact E4 this
  .apply f (.tup _) G (.ref a) _ ?_ c (Le.refl _) t.2.2;rw[ae];subst z;have e:∀{o:List D},ag X.K H o []->o=[]:=λh=>E4 h.length;rw[e j,E5];exact#[a,_,rfl,n,g]
  .apply f (.tup _) G (.ref p) _ ?_ (c.side i) (Le.fresh i) t.2.2;rw[ae];exact#[p,_,rfl,eC.of hJ,ag.le (Le.fresh i) (g.append j)]
 .rename_i a b;split at t
  .rename_i xs m I E;let#[u,C,g]:=c _ _ I;let#[r,B,j]:=c _ _ E;exact .inr (.inr (.inr #[a,b,u,r,l.aj,k.aj,C,B,by rw[<- g.length,<- j.length];exact t.1,λp i=>f _ _ _ _ ae.eW (c.cG i (g.append j)) (Le.fresh i) (t.2 p (c.fresh i))]))
  .exact t.elim
def mj:fG X (L8 .Mult) xa:=rZ (Ba.or wx7) <| by
 rintro x y H Q ⟨d,e,G,q,i,h,c,t,f⟩;unfold xa at t;cases d <;> cases e <;> first|exact t.elim|dsimp only at t
 .exact .inl ⟨_,_,i.int_inv,h.int_inv,t.1,f _ _ _ _ ae.cY c (Le.refl H) t.2⟩
 .rename_i a k;split at t
  .rename_i xs n;let#[l,m,j]:=c _ _ n;apply .inr #[a,k,l,i.aj,h.int_inv,m,t.1.1,t.1.2.1,by rw[<- j.length];exact t.1.2.2,?_];intro p g;exact f _ _ _ _ ae.eW (c.cG g (j.rep _)) (Le.fresh g) (t.2 p (c.fresh g))
  .exact t.elim
def SY{f:Value->Value->Sem Value}{g:Int->Int->Bool}(h:cX X f (pS λi j=>.bl (g i j))):fG X f (λx y G q=>match x,y with|.int i,.int j=>q (.bl (g i j)) G|_,_=>False):=rZ h λx y H Q ⟨d,e,G,q,l,k,c,t,f⟩=>by
 dsimp only at t;split at t
 .exact#[_,_,l.int_inv,k.int_inv,f _ _ _ _ ae.lY c (Le.refl H) t]
 .exact t.elim
def oX:fG X (K2 .LtE) ZD:=SY xi5
def oY:fG X (K2 .Gt) ZE:=SY xi6
def PY:fG X (K2 .GtE) ZF:=SY xi7
def oW:fG X (K2 .Lt) PZ:=rZ (Hz.or vb9) <| by
 rintro x y H Q ⟨d,e,G,q,h,g,c,t,f⟩;unfold PZ at t;cases d <;> cases e <;> first|exact t.elim|dsimp only at t
 .exact .inl ⟨_,_,h.int_inv,g.int_inv,f _ _ _ _ ae.lY c (Le.refl H) t⟩
 .exact .inr ⟨_,_,h.str_inv,g.str_inv,f _ _ _ _ ae.lY c (Le.refl H) t⟩
def ae.xV(h:ae K H d v)(n:d≠.non):v≠.non:=by
 cases d with
 | non=>exact absurd rfl n| bl _=>rw[h.b9];exact λz=>nomatch z| int _=>rw[h.int_inv];exact λz=>nomatch z| str _=>rw[h.str_inv];exact λz=>nomatch z| ref _=>rw[h.aj];exact λz=>nomatch z| ty _=>rw[ae] at h;rw[h];exact λz=>nomatch z| tup _=>let#[a,xs,e,_]:=h.aO;rw[e];exact λz=>nomatch z
def w_:U3:=λx G q=>match x with|.int i=>q (.int (-i)) G|_=>False
def Ew:yC X (DN .USub) (xX X.K w_):=vv4 wr4 <| by
 rintro x H Q ⟨d,G,q,g,c,t,f⟩;unfold w_ at t;split at t
 .exact#[_,g.int_inv,f _ _ _ _ ae.cY c (Le.refl H) t]
 .exact t.elim
def Ar:R3:=λx y G q=>match x,y with
 | .tup f,.int i=>(match dg f i with|some d=>q d G|none=>False)
 | .ref a,.int i=>(match bt (G a) with|some f=>(match dg f i with|some d=>q d G|none=>False)|none=>False)
 | .str z,.int i=>z.length<=sizeLine/\(match dg z.cps.toList i with|some c=>q (.str #[[c].toArray]) G|none=>False)
 | _,_=>False
theorem ag.dg(h:ag K H ds xs)(e:L2.dg ds i=some d):∃v,L2.dg xs i=some v/\ae K H d v:=by
 rw[Cv] at e⊢;rw[<- h.length];cases f:iO ds.length i with
 | none=>rw[f] at e;cases e
 | some j =>rw[f] at e;exact h.get e
def bJ:sM X (lF X.K Ar):=wq7 x85 <| by
 rintro x y H Q ⟨d,e,G,q,l,k,c,t,f⟩;unfold Ar at t;cases d <;> cases e <;> first|exact t.elim|dsimp only at t
 .rename_i z i;let#[o,t]:=t;split at t
  .rename_i w g;exact .inr (.inr #[z,i,w,l.str_inv,k.int_inv,o,g,f _ _ _ _ ae.AV c (Le.refl H) t])
  .exact t.elim
 .rename_i r i;let#[a,xs,rfl,h,m]:=l.aO;split at t
  .rename_i w g;let#[v,n,j]:=m.dg g;exact .inr (.inl #[a,xs,i,v,rfl,k.int_inv,h,n,f _ _ _ _ j c (Le.refl H) t])
  .exact t.elim
 .rename_i a i;split at t
  .rename_i r p;let#[xs,h,m]:=eR c p;split at t
   .rename_i w g;let#[v,n,j]:=m.dg g;exact .inl #[a,xs,i,v,l.aj,k.int_inv,h,n,f _ _ _ _ j c (Le.refl H) t]
   .exact t.elim
  .exact t.elim
def cutD{f:Type}(xs:List f)(lo hi:Option Int):List f:=(xs.drop (HT.bR xs.length 0 lo)).take (HT.bR xs.length xs.length hi-HT.bR xs.length 0 lo)
def ag.cut(h:ag K H ds xs)(lo hi:Option Int):ag K H (cutD ds lo hi) (n_ xs lo hi):=by unfold cutD n_;rw[h.length];exact(h.drop _).take _
def Aq:rb:=λo i v G q=>match o,i with
 | .ref a,.int k=>(match G a with|some (.lst f)=>(match iO f.length k with|some j=>q (aG G a (.lst (f.set j v)))|none=>False)|_=>False)
 | _,_=>False
def yT:sJ X (SD X.K Aq):=w46 set_list <| by
 rintro o i v H Q ⟨d,e,x,G,q,n,m,l,c,t,f⟩;unfold Aq at t;split at t
 .rename_i a k;split at t
  .rename_i u r;let#[xs,g,h]:=c _ _ r;split at t
   .rename_i j p;exact#[a,xs,k,j,n.aj,m.int_inv,g,by rw[<- h.length];exact p,f _ _ (c.lE g (h.set l j)) (Le.lst g) t]
   .exact t.elim
  .exact t.elim
 .exact t.elim
end
inductive Sn where
 | non|bl (b:Bool)|int (i:Int)|str (x:Str)|tup (xs:List Sn)|lst (xs:List Sn)
def snap(G:Gp):Nat->D->Option Sn
 | _,.non=>some .non| _,.bl b=>some (.bl b)| _,.int i=>some (.int i)| _,.str x=>some (.str x)| n+1,.tup f=>(f.mapM (snap G n)).map .tup| n+1,.ref a=>(bt (G a)).bind λf=>(f.mapM (snap G n)).map .lst| _,_=>none
def gy:Sn->Bool
 | .non=>true|.bl _=>true|.int _=>true|.str _=>true|_=>false
def DB:Sn->Sn->Bool
 | .non,.non=>true| .bl a,.bl b=>a==b| .bl a,.int b=>(if a then 1 else 0)==b| .int a,.bl b=>a==(if b then 1 else 0)| .int a,.int b=>a==b| .str a,.str b=>a==b| _,_=>false
def dY:Nat->Sn->Sn->Option Bool
 | n+1,.tup xs,.tup f=>if xs.length=f.length then((xs.zip f).mapM λp=>dY n p.1 p.2).map λg=>g.all id else none| n+1,.lst xs,.lst f=>if xs.length=f.length then((xs.zip f).mapM λp=>dY n p.1 p.2).map λg=>g.all id else some false| _,x,y=>if(gy x&&gy y)=true then some (DB x y) else none
theorem tL{l k:Type}{f:l->Option k}:∀{xs:List l} {ys:List k},xs.mapM f=some ys->xs.length=ys.length/\∀(i:Nat) x,xs[i]?=some x->∃y,ys[i]?=some y/\f x=some y
 | [],ys,h=>by
  have:ys=[]:=by simpa using h.symm
  subst this;exact#[rfl,λi x e=>by simp at e]
 | x::xs,ys,h=>by
  rw[U9] at h;cases g:f x with
  | none=>rw[g] at h;cases h
  | some y =>
   rw[g] at h;cases j:xs.mapM f with
   | none=>rw[j] at h;cases h
   | some r =>
    rw[j] at h;have e:y::r=ys:=D8 h;subst e;let#[n,m]:=tL j;apply#[by simp[n],λi z e=>?_];cases i with
    | zero=>cases(show x=z from D8 e);exact#[y,rfl,g]
    | succ i=>exact m i z e
def Mj{bs:List Bool}{e:Nat->Bool}{n:Nat}(j:bs.length=n)(h:∀(i:Nat) b,bs[i]?=some b->e i=b):(F3 n).all e=bs.all id:=by
 rw[V4,Z8,Z8];constructor
 .intro q b f;let#[i,hi,g]:=B52.mp f;have:=q i (N7.mpr ());rw[h i b (by rw[B6 hi,g])] at this;exact this
 .intro q i hi;have hi:=N7.mp hi;rw[h i bs[i] (B6 ())];exact q _ (M6 _)
section
variable{X:Cx}{pins:List (Addr×Obj)}{σ:L2.St}{H:Hp}{s:Shared}{G:Gp}
def Tg{u:Value}(h:snap G n d=some sd)(fl:gy sd=true)(r:ae X.K H d x):tG x=true/\∀(e:D) (se:Sn) (y:V),snap G n e=some se->gy se=true->ae X.K H e y->yv x y=DB sd se:=by
  have key:∀(d:D) (sd:Sn) (x:V),snap G n d=some sd->gy sd=true->ae X.K H d x->(sd=.non/\x=.non)\/(∃b,sd=.bl b/\x=.bl b)\/(∃i,sd=.int i/\x=.int i)\/(∃z,sd=.str z/\x=.str z):=by
    intro d sd x h fl r;cases d with
    | non => have e: Sn.non = sd:= by cases n <;> exact Option.some.inj h
             subst e;exact .inl ⟨rfl,r.d6⟩
    | bl b => have e: Sn.bl b = sd:= by cases n <;> exact Option.some.inj h
              subst e;exact .inr (.inl ⟨b,rfl,r.b9⟩)
    | int b => have e: Sn.int b = sd:= by cases n <;> exact Option.some.inj h
               subst e;exact .inr (.inr (.inl ⟨b,rfl,r.int_inv⟩))
    | str b => have e: Sn.str b = sd:= by cases n <;> exact Option.some.inj h
               subst e;exact .inr (.inr (.inr ⟨b,rfl,r.str_inv⟩))
    | tup ds =>
      cases n with
      | zero=>cases h
      | succ n =>have h:(ds.mapM (snap G n)).map Sn.tup=some sd:=h;let#[a,_,rfl]:=E8.mp h;cases fl
    | ref a =>
      cases n with
      | zero=>cases h
      | succ n =>have h:((bt (G a)).bind λds=>(ds.mapM (snap G n)).map Sn.lst)=some sd:=h;let#[ds,_,h]:=Zb.mp h;let#[a,_,rfl]:=E8.mp h;cases fl
    | ty t=>cases n <;> cases h
  rcases key d sd x h fl r with⟨rfl,rfl⟩|⟨b,rfl,rfl⟩|⟨b,rfl,rfl⟩|⟨b,rfl,rfl⟩ <;> apply⟨rfl,λe se y h' fl' r'=>?_⟩ <;>
    rcases key e se y h' fl' r' with⟨rfl,rfl⟩|⟨c,rfl,rfl⟩|⟨c,rfl,rfl⟩|⟨c,rfl,rfl⟩ <;> rfl
def bT(h:snap G n (.tup ds)=some g):∃m f,n=m+1/\g=.tup f/\ds.mapM (snap G m)=some f:=by
 cases n with
 | zero=>cases h
 | succ n =>let#[f,i,rfl]:=E8.mp (show(ds.mapM (snap G n)).map Sn.tup=some g from h);exact#[n,f,rfl,rfl,i]
def bU(h:snap G n (.ref a)=some g):∃m ds f,n=m+1/\g=.lst f/\bt (G a)=some ds/\ds.mapM (snap G m)=some f:=by
 cases n with
 | zero=>cases h
 | succ n =>let#[ds,j,h]:=Zb.mp (show((bt (G a)).bind λds=>(ds.mapM (snap G n)).map Sn.lst)=some g from h);let#[f,i,rfl]:=E8.mp h;exact#[n,ds,f,rfl,rfl,j,i]
def v16(f:gy x=true):dY n x y=if(gy x&&gy y)=true then some (DB x y) else none:=by
 cases x with
 | tup _=>cases f
 | lst _=>cases f
 | non=>cases n <;> rfl
 | bl _=>cases n <;> rfl
 | int _=>cases n <;> rfl
 | str _=>cases n <;> rfl
def EV(h:dY n x y=some b)(f:¬ (gy x&&gy y)=true):(∃m xs ys,n=m+1/\x=.tup xs/\y=.tup ys)\/(∃m xs ys,n=m+1/\x=.lst xs/\y=.lst ys):=by
 unfold dY at h;split at h
 .exact .inl #[_,_,_,rfl,rfl,rfl]
 .exact .inr #[_,_,_,rfl,rfl,rfl]
 .rw[if_neg f] at h;cases h
def CW(h:snap G n d=some (.tup g)):∃ds,d=.tup ds:=by
 cases d with
 | tup ds=>exact#[ds,rfl]| ref a=>let#[_,_,_,_,f,_]:=bU h;cases f
 | _=>cases n <;> cases h
def CV(h:snap G n d=some (.lst g)):∃a,d=.ref a:=by
 cases d with
 | ref a=>exact#[a,rfl]| tup i=>let#[_,_,_,f,_]:=bT h;cases f
 | _=>cases n <;> cases h
def ur4(l:ae X.K H d x)(j:ae X.K H e x)(h1:snap G n d=some h)(o:snap G n e=some g)(m:dY n h g=some b)(f:(gy h&&gy g)=true):b=true:=by
 rw[O2] at f;have z:=m;rw[v16 f.1,if_pos (by rw[f.1,f.2];rfl)] at z;let#[p,k]:=Tg (u:=W6) h1 f.1 l;rw[<- D8 z,<- k e g x o f.2 j];cases x with
 | non=>rfl| bl b=>exact beq_self_eq_true b| int i=>exact beq_self_eq_true i| str w=>exact beq_self_eq_true w| _=>cases p
def va0(I:Inv X pins σ H s)(c:bW X.K G H):∀(n:Nat) (d e:D) (x:V) (A y:Sn) (b:Bool),ae X.K H d x->ae X.K H e x->snap G n d=some A->snap G n e=some y->dY n A y=some b->b=true:=by
 intro n;induction n with
 | zero =>
  intro d e x A y b E C r q f;by_cases L:(gy A&&gy y)=true
  .exact ur4 E C r q f L
  .rcases EV f L with⟨_,_,_,z,_⟩|⟨_,_,_,z,_⟩ <;> cases z
 | succ m ih =>
  intro d e x A y b E C r q f;by_cases L:(gy A&&gy y)=true
  .exact ur4 E C r q f L
  have items:∀(j l:List D) (xs:List V) (g k:List Sn) (u:List Bool),ag X.K H j xs->ag X.K H l xs->j.mapM (snap G m)=some g->l.mapM (snap G m)=some k->((g.zip k).mapM λp=>dY m p.1 p.2)=some u->u.all id=true:=by
   intro j l xs g k u N M o B J;rw[Z8];intro b f;let#[i,hi,eb]:=B52.mp f;let#[l1,f1]:=tL o;let#[l2,f2]:=tL B;let#[l3,f3]:=tL J;have hz:(g.zip k).length=min g.length k.length:=YA;have e1:=N.length;have e2:=M.length;have S:i<j.length:=()
   have IU:i<l.length:=()
   let#[R,g1,s1]:=f1 i j[i] (B6 S);let#[Q,g2,s2]:=f2 i l[i] (B6 IU);have Bs:(g.zip k)[i]?=some (R,Q):=by rw[Zh];exact#[g1,g2]
   let#[b',g3,s3]:=f3 i _ Bs;rw[B6 hi,eb] at g3;cases g3;let#[z1,Bt,UL]:=N.get (B6 S);let#[z2,NF,UK]:=M.get (B6 IU);rw[Bt] at NF;cases NF;exact ih j[i] l[i] z1 R Q b UL UK s1 s2 s3
  rcases EV f L with⟨m',g,k,em,rfl,rfl⟩|⟨m',g,k,em,rfl,rfl⟩
  .cases em;let#[j,rfl]:=CW r;let#[l,rfl]:=CW q;let#[_,_,em,t,o]:=bT r;cases em;cases t;let#[_,_,em,t,B]:=bT q;cases em;cases t;let#[a,xs,rfl,N,tR]:=E.aO;let#[a',ys,O,M,r_]:=C.aO;cases O;have:=I.j7 N M;subst this;unfold dY at f;split at f
   .let#[u,J,rfl]:=E8.mp f;exact items j l xs g k u tR r_ o B J
   .cases f
  .cases em;let#[a,rfl]:=CV r;let#[a',rfl]:=CV q;cases E.aj;have O:=C.aj;cases O;let#[_,j,_,em,t,Y,o]:=bU r;cases em;cases t;let#[_,l,_,em,t,Z,B]:=bU q;cases em;cases t;rw[Y] at Z;cases Z;rw[o] at B;cases B;let#[xs,_,U]:=eR c Y;unfold dY at f;split at f
   .let#[u,J,rfl]:=E8.mp f;exact items j j xs g g u U U o o J
   .rename_i h;exact absurd rfl h
structure rg(G:Gp)(K:W.Frag)(H:Hp)(m:Nat)(its bj:List Value)(bs:List Bool):Prop where
 len:its.length=bj.length
 bl:bs.length=its.length
 at_:∀(j:Nat) (h1:j<its.length) (h2:j<bj.length) (h3:j<bs.length),∃d e x y sd se,ae K H d x/\RelV x its[j]/\ae K H e y/\RelV y bj[j]/\snap G m d=some sd/\snap G m e=some se/\dY m sd se=some bs[j]
def MO{m:Nat}{ds i:List D}{xs ys:List V}{its y:List Value}{g f:List Sn}{bs:List Bool}(x:ag X.K H ds xs)(t:Vals xs its)(u:ag X.K H i ys)(r:Vals ys y) (M:ds.mapM (snap G m)=some g) (k2:i.mapM (snap G m)=some f) (hl:g.length=f.length) (L:((g.zip f).mapM λp=>dY m p.1 p.2)=some bs):rg G X.K H m its y bs:=by
 let#[l1,f1]:=tL M;let#[l2,f2]:=tL k2;let#[l3,R]:=tL L;have hz:(g.zip f).length=min g.length f.length:=YA;have e1:=x.length;have e2:=u.length;have e3:=t.length;have e4:=r.length;apply#[(),(),λj Q O N=>?_];have q:j<ds.length:=()
 have A:j<i.length:=()
 let#[o,g1,J]:=f1 j ds[j] (B6 q);let#[n,g2,I]:=f2 j i[j] (B6 A);have Bs:(g.zip f)[j]?=some (o,n):=by rw[Zh];exact#[g1,g2]
 let#[b',g3,E]:=R j _ Bs;rw[B6 N] at g3;cases g3;let#[C,Z,S]:=x.get (B6 q);let#[B,Y,U]:=u.get (B6 A);let#[u1,h,l]:=t.get Z;let#[u2,zp,k]:=r.get Y;rw[B6 Q] at h;rw[B6 O] at zp;cases h;cases zp;exact#[ds[j],i[j],C,B,o,n,S,l,U,k,J,I,E]
end
section
variable{X:Cx}{pins:List (Addr×Obj)}{σ:L2.St}{H:Hp}{s:Shared}{G:Gp}
def vh4(I:Inv X pins σ H s)(o:ae X.K H d x)(m:RelV x u)(i:ae X.K H e y)(l:RelV y v)(h1:snap G n d=some h)(j:snap G n e=some g)(q:dY n h g=some b)(f:(gy h&&gy g)=true):Cu A s u v b:=by
 rw[O2] at f;have p:b=DB h g:=by have z:=q;rw[v16 f.1,if_pos (by rw[f.1,f.2];rfl)] at z;exact(D8 z).symm
 let#[t,k]:=Tg (u:=u) h1 f.1 o;let#[r,_]:=Tg (u:=v) j f.2 i;rw[p,<- k e g y j f.2 i];exact w26 m l t r
def ZG(I:Inv X pins σ H s)(c:bW X.K G H):∀(n:Nat) (A:Around) (d e:D) (x y:V) (u v:Value) (B t:Sn) (b:Bool),ae X.K H d x->RelV x u->ae X.K H e y->RelV y v->snap G n d=some B->snap G n e=some t->dY n B t=some b->A.units+n<cLine->Cu A s u v b:=by
 intro n;induction n with
 | zero =>
  intro A d e x y u v B t b q J p E o l f hu;by_cases L:(gy B&&gy t)=true
  .exact vh4 I q J p E o l f L
  .rcases EV f L with⟨_,_,_,z,_⟩|⟨_,_,_,z,_⟩ <;> cases z
 | succ m ih =>
  intro A d e x y u v B t b q J p E o l f hu;by_cases L:(gy B&&gy t)=true
  .exact vh4 I q J p E o l f L
  .have inner:∀(its k:List Value) (h:List Bool),rg G X.K H m its k h->∀j (o:j<its.toArray.size) (l:j<k.toArray.size),Cu A.in1 s its.toArray[j] k.toArray[j] ((h[j]?).getD true):=by
    intro its k h P j o l;have sC:j<its.length:=by simpa using o
    have yt:j<k.length:=by simpa using l
    have wL:j<h.length:=by rw[P.bl];exact sC
    let#[d',e',x',y',FE,FD,a1,a2,a3,a4,a5,a6,a7]:=P.at_ j sC yt wL;rw[B6 wL];have Ie:A.in1.units+m<cLine:=by have:A.in1.units=A.units+1:=rfl;omega
    have:=ih A.in1 d' e' x' y' _ _ FE FD _ a1 a2 a3 a4 a5 a6 a7 Ie;simpa using this
   rcases EV f L with⟨m',ss,ts,em,rfl,rfl⟩|⟨m',ss,ts,em,rfl,rfl⟩
   .cases em;let#[ds,rfl]:=CW o;let#[es,rfl]:=CW l;let#[_,_,em,r,Z]:=bT o;cases em;cases r;let#[_,_,em,r,Y]:=bT l;cases em;cases r;let#[a,xs,rfl,q1,O]:=q.aO;let#[a',ys,rfl,q2,U]:=p.aO;cases J;cases E;by_cases C:a=a'
    .subst C;rw[va0 I c (m+1) (.tup ds) (.tup es) (.ref a) _ _ b q p o l f];exact YB _
    .unfold dY at f;split at f
     .rename_i g;let#[h,kb,rfl]:=E8.mp f;let#[its,N,S,_]:=I.tuple q1;let#[k,M,Q,_]:=I.tuple q2;have P:=MO O N U M Z Y g kb;have R:=B91 (A:=A) (s:=s) (e:=λj=>(h[j]?).getD true) (show s.heap.IsTuple a its.toArray from S) (show s.heap.IsTuple a' k.toArray from Q) () (inner its k h P);have e1:((F3 (min its.toArray.size k.toArray.size)).all (λj=>(h[j]?).getD true)&&its.toArray.size==k.toArray.size)=h.all id:=by
       have el:its.toArray.size=k.toArray.size:=by simpa using P.len
       rw[el,C73,beq_self_eq_true,C63];exact Mj (by rw[<- el];simpa using P.bl) λi b f=>by rw[f];rfl
      rw[e1] at R;exact YN C R
     .cases f
   .cases em;let#[a,rfl]:=CV o;let#[a',rfl]:=CV l;let#[_,ds,_,em,r,iE,Z]:=bU o;cases em;cases r;let#[_,es,_,em,r,dG,Y]:=bU l;cases em;cases r;cases q.aj;cases p.aj;cases J;cases E;by_cases C:a=a'
    .subst C;rw[va0 I c (m+1) (.ref a) (.ref a) (.ref a) _ _ b q p o l f];exact YB _
    .let#[xs,q1,O]:=eR c iE;let#[ys,q2,U]:=eR c dG;let#[its,N,S,_]:=I.list q1;let#[k,M,Q,_]:=I.list q2;unfold dY at f;split at f
     .rename_i g;let#[h,kb,rfl]:=E8.mp f;have P:=MO O N U M Z Y g kb;have el:its.toArray.size=k.toArray.size:=by simpa using P.len
      have R:=C02 (A:=A) (s:=s) (e:=λj=>(h[j]?).getD true) S.isList Q.isList el () (inner its k h P);have e1:((F3 its.toArray.size).all (λj=>(h[j]?).getD true))=h.all id:=
       Mj (by simpa using P.bl) λi b f=>by rw[f];rfl
      rw[e1] at R;exact YN C R
     .rename_i g;cases f;have n1:=(tL Z).1;have n2:=(tL Y).1;have m1:=O.length;have m2:=U.length;have m3:=N.length;have m4:=M.length;exact YN C (A97 S.isList Q.isList (by simp;omega) ())
end
def FP(K:W.Frag)(neg:Bool):R2:=λx y H Q=>∃(d e:D) (G:Gp) (n:Nat) (f g:Sn) (b:Bool),ae K H d x/\ae K H e y/\bW K G H/\n<=40/\snap G n d=some f/\snap G n e=some g/\dY n f g=some b/\gy f=false/\Q (.bl (if neg then !b else b)) H
section
variable{X:Cx}{k:Nat}
def v17(hr:aQ k X.A)(I:Inv X pins σ H s)(rx:RelV x v)(ry:RelV y u)(r1:ae X.K H d x)(r2:ae X.K H e y)(c:bW X.K G H)(hn:n<=40)(h1:snap G n d=some sd)(h2:snap G n e=some se)(hb:dY n sd se=some b)(fl:gy sd=false):SeqAt.RcAt X.A s v u b/\SeqAt.RcNeAt X.A s v u (!b):=by
  have hu:=hr.units;rcases EV hb (λz=>by rw[fl] at z;cases z) with⟨m,ss,ts,rfl,rfl,rfl⟩|⟨m,ss,ts,rfl,rfl,rfl⟩
  · let#[ds,rfl]:=CW h1
    let#[es,rfl]:=CW h2
    · · · obtain ⟨_,ss',em,ez,k1⟩:= bT h1
          cases em;cases ez;obtain⟨m',ts',em,zx,k2⟩:=bT h2;cases em;cases zx;obtain⟨a,xs,rfl,q1,tR⟩:=r1.aO;obtain⟨a',ys,rfl,q2,r_⟩:=r2.aO;cases rx;cases ry;unfold dY at hb;split at hb
          · rename_i hlen
            obtain⟨bs,kb,rfl⟩:=E8.mp hb;obtain⟨its,w1,t1,_⟩:=I.tuple q1;obtain⟨bj,w2,t2,_⟩:=I.tuple q2;have P:=MO tR w1 r_ w2 k1 k2 hlen kb;have he:∀j (h1:j<its.toArray.size) (h2:j<bj.toArray.size),Cu X.A.in1 s its.toArray[j] bj.toArray[j] ((bs[j]?).getD true):=by
              intro j h1 h2;have sC:j<its.length:=by simpa using h1
              have yt:j<bj.length:=by simpa using h2
              have wL:j<bs.length:=by rw[P.bl];exact sC
              obtain⟨d',e',x',y',FE,FD,a1,a2,a3,a4,a5,a6,a7⟩:=P.at_ j sC yt wL;rw[B6 wL];have:=ZG I c m X.A.in1 d' e' x' y' _ _ FE FD _ a1 a2 a3 a4 a5 a6 a7 (by have:X.A.in1.units=X.A.units+1:=rfl;omega);simpa using this
            have e1:((F3 (min its.toArray.size bj.toArray.size)).all (λj=>(bs[j]?).getD true)&&its.toArray.size==bj.toArray.size)=bs.all id:=by
              have el:its.toArray.size=bj.toArray.size:=by simpa using P.len
              rw[el,C73,beq_self_eq_true,C63];exact Mj (by rw[<- el];simpa using P.bl) λi b hb=>by rw[hb];rfl
            rw[<- e1];exact⟨B91 (e:=λj=>(bs[j]?).getD true) (show s.heap.IsTuple a its.toArray from t1) (show s.heap.IsTuple a' bj.toArray from t2) () he,D07 (e:=λj=>(bs[j]?).getD true) (show s.heap.IsTuple a its.toArray from t1) (show s.heap.IsTuple a' bj.toArray from t2) () he⟩
          · cases hb
  · let#[a,rfl]:=CV h1
    let#[a',rfl]:=CV h2
    · · · obtain ⟨_,ds,ss',em,ez,iE,k1⟩:= bU h1
          cases em;cases ez;obtain⟨m',es,ts',em,zx,dG,k2⟩:=bU h2;cases em;cases zx;cases r1.aj;cases r2.aj;cases rx;cases ry;obtain⟨xs,q1,tR⟩:=eR c iE;obtain⟨ys,q2,r_⟩:=eR c dG;obtain⟨its,w1,t1,_⟩:=I.list q1;obtain⟨bj,w2,t2,_⟩:=I.list q2;unfold dY at hb;split at hb
          · rename_i hlen
            obtain⟨bs,kb,rfl⟩:=E8.mp hb;have P:=MO tR w1 r_ w2 k1 k2 hlen kb;have el:its.toArray.size=bj.toArray.size:=by simpa using P.len
            have he:∀j (h1:j<its.toArray.size) (h2:j<bj.toArray.size),Cu X.A.in1 s its.toArray[j] bj.toArray[j] ((bs[j]?).getD true):=by
              intro j h1 h2;have sC:j<its.length:=by simpa using h1
              have yt:j<bj.length:=by simpa using h2
              have wL:j<bs.length:=by rw[P.bl];exact sC
              obtain⟨d',e',x',y',FE,FD,a1,a2,a3,a4,a5,a6,a7⟩:=P.at_ j sC yt wL;rw[B6 wL];have:=ZG I c m X.A.in1 d' e' x' y' _ _ FE FD _ a1 a2 a3 a4 a5 a6 a7 (by have:X.A.in1.units=X.A.units+1:=rfl;omega);simpa using this
            have e1:((F3 its.toArray.size).all (λj=>(bs[j]?).getD true))=bs.all id:=
              Mj (by simpa using P.bl) λi b hb=>by rw[hb];rfl
            rw[<- e1];exact⟨C02 (e:=λj=>(bs[j]?).getD true) t1.isList t2.isList el () he,D13 (e:=λj=>(bs[j]?).getD true) t1.isList t2.isList el () he⟩
          · rename_i hlen
            cases hb;have n1:=(tL k1).1;have n2:=(tL k2).1;have m1:=tR.length;have m2:=r_.length;have m3:=w1.length;have m4:=w2.length;exact⟨A97 t1.isList t2.isList (by simp;omega) (),C29 t1.isList t2.isList (by simp;omega) ()⟩
def wy1(l:aQ k X.A):cX X (K2 .Eq) (FP X.K false):=by intro pins s B H x y v u Q I g f h;let#[d,e,G,n,E,C,b,j,i,c,m,r,p,o,t,q]:=h;exact(v17 l I g f j i c m r p o t).1 X.prog X.w X.xe _ #[.bl b,H,I,rfl,q]
def wx9(l:aQ k X.A):cX X (K2 .NotEq) (FP X.K true):=by intro pins s B H x y v u Q I g f h;let#[d,e,G,n,E,C,b,j,i,c,m,r,p,o,t,q]:=h;exact(v17 l I g f j i c m r p o t).2 X.prog X.w X.xe _ #[.bl (!b),H,I,rfl,q]
end
structure FnAt(K:W.Frag)(x qual:Str)(st:Stmt)(ps:List Str) where
 a:Addr
 fd:wY
 ex:∃(oc:Value) (od:Option Addr) (dV kV doc pm:Value) (an:Option Addr) (iS ct:Value) (zf:Array (Option Value)),
  fd=W.fnOf x qual (sT st) (qE st) (bf st) dV kV doc pm an iS ct/\K.lookup a=some #[oc,od,.func fd,zf]/\W.codeIn K iS qual=true
 kp:W.keepIn K (.ref a)=true
 b:Binds K fd ps []
abbrev Ok(P:Program)(w:World){K:W.Frag}(mg:Str->Option Value)(base:Heap)(n:Nat){x f:Str}{st:Stmt}{ps:List Str}(d:FnAt K x f st ps)(S:gu):Prop:=bz P w K mg base oV n d.a d.fd ps (mf K S)
def rY:List Str->List D->gY
 | [],f=>f.map some| _::N,d::f=>some d::rY N f| _::N,[]=>none::rY N []
def uz0(x:Str)(N:List Str)(d:D)(ds:List D):rY (x::N) (d::ds)=some d::rY N ds:=rfl
def uy9(x:Str)(N:List Str):rY (x::N) []=none::rY N []:=rfl
def vn2:rY [] []=[]:=rfl
theorem Ub:∀(N:List Str) (ds:List D),rY N ds=ds.map some++D6 (N.length-ds.length) none
 | [],ds=>by simp[rY]| _::N,d::ds=>by rw[uz0,Ub N ds];simp[Nat.add_sub_add_right]| _::N,[]=>by rw[uy9,Ub N []];simp[K0]
def v38{K:W.Frag}{H:Hp}{N:List Str}{ds:List D}{vs:List V}(r:ag K H ds vs):bF K H (rY N ds) (L2.start N vs):=by
 rw[Ub];unfold L2.start;apply#[by simp[r.length],λi d e=>?_];by_cases hi:i<ds.length
 .rw[F9 (by simpa using hi),F8] at e;rw[F9 (by simpa[<- r.length] using hi),F8];cases h:ds[i]? with
  | none=>rw[h] at e;cases e
  | some j =>rw[h] at e;cases e;let#[v,g,f]:=r.get h;exact#[v,by rw[g];rfl,f]
 .rw[E6 (by simpa using hi),B10] at e;split at e <;> cases e
section
variable{P:Program}{w:World}{K:W.Frag}{mg:Str->Option Value}{base:Heap}
def CI{x g:Str}{st:Stmt}{ps N:List Str}{k:Nat}(d:FnAt K x g st ps){S:gu}(J:af N ps (bf st))(Y:∀ds G R,S ds G R->ds.length=ps.length){t:iH} (U:∀(i:Value) (A:Around) (outer:List Env) (s:Shared) (H:Hp) (E:XK),aQ k (A.deeper (envOfC g (bf st) s.heap.objs.size d.a i))->wR (qq oV P w K mg base N g (bf st) d.a i A outer s H E).xU (qE st) t) (Z:∀ds G R,S ds G R->t { nx:=λ_ m=>R .non m,rt:=R} (rY N ds) G):Ok P w mg base (k+1) d S:=by
 let#[M,od,p,kV,doc,o,an,i,u,C,e,lk,L]:=d.ex;have j:K.lookup d.a=some #[M,od,.func (W.fnOf x g (sT st) (qE st) (bf st) p kV doc o an i u),C]:=e▸lk;have F:bz P w K mg base oV (k+1) d.a (W.fnOf x g (sT st) (qE st) (bf st) p kV doc o an i u) ps (mf K S):=by
  apply xj1 j L J (λI H Q E h=>?_) λA outer s H I Q E X h=>?_
  .let#[ds,G,R,r,_,l,_]:=h;rw[<- r.length];exact Y ds G R l
  .let#[ds,G,R,r,c,l,f]:=h;apply#[_,(show oS _ _ _ from U i A outer s H E X).xU,rY N ds,G,_,v38 r,c,Z ds G R l,λn m B H' _ c' O q=>?_,f,λ_ _ _ _ _ _ _ q=>q.elim,λ_ _ _ _ _ _ _ q=>q.elim];exact f .non m .non H' ae.xW c' O q
 have y:=F;rw[<- e] at y;exact y
end
section
variable{X:Cx}{e o:Expr}{es:List Expr}{p pos apos:Pos}{ta:bu}{ts:fk}{k n:Nat}{S:gu}{x m qual:Str}{st:Stmt}{ps:List Str}{C:Addr}
def ec(d:FnAt X.K x qual st ps)(h:X.mg x=some (.ref d.a))(G:bz X.prog X.w X.K X.mg X.base oV k d.a d.fd ps (mf X.K S))(g:aQ k X.A)(l:A3 X (e::es) ts)(i:Gl X x:=by rfl)(f:(x==("__debug__" :Str))=false:=by decide)
  (j:D0 (e::es) X.env=(false,eval e X.env)::D0 es X.env:=by rfl) (q:(backTo pos (D0 es X.env)).any (·.1)=false:=by rfl):E3 X (.Call (.Name x p) (e::es) [] pos) (jo S [] ts):=
 xa6 G g i h d.kp d.b .nil (λ_=>.nil) l f j q
def em(c:jB X.K C)(d:FnAt X.K m qual st ps)(j:Meth X.K C m d.a)(G:bz X.prog X.w X.K X.mg X.base oV k d.a d.fd ps (mf X.K S))(i:aQ k X.A)(l:E3 X o ta)(q:A3 X (e::es) ts) (t:D0 (e::es) X.env=(false,eval e X.env)::D0 es X.env:=by rfl) (r:(backTo pos (D0 es X.env)).any (·.1)=false:=by rfl)
  (h:eval (.Call (.Attribute o m apos) (e::es) [] pos) X.env=(do
   let g <- eval o X.env
   wW apos.atName
   let (f,first) <- holding [g] (Ak g m pl)
   DP pos f first (backTo pos (D0 (e::es) X.env)) (W4 pos (O7 [] X.env))):=by rfl):E3 X (.Call (.Attribute o m apos) (e::es) [] pos) (qC C m S [] ta ts):=
 xa2 l c j G i d.b .nil (λ_=>.nil) q t r h
def fV(c:jB X.K C)(d:FnAt X.K m qual st ps)(j:Meth X.K C m d.a)(G:bz X.prog X.w X.K X.mg X.base oV k d.a d.fd ps (mf X.K S))(i:aQ k X.A)(l:E3 X o ta)
  (h:eval (.Call (.Attribute o m apos) [] [] pos) X.env=(do
   let g <- eval o X.env
   wW apos.atName
   let (f,first) <- holding [g] (Ak g m pl)
   DP pos f first (backTo pos (D0 [] X.env)) (W4 pos (O7 [] X.env))):=by rfl):E3 X (.Call (.Attribute o m apos) [] [] pos) (qC C m S [] ta eN):=
 wl3 l c j G i d.b .nil (λ_=>.nil) h
end
def spec(pre:List D->Gp->Prop)(post:List D->Gp->D->Gp->Prop):gu:=λf G R=>pre f G/\∀d g,post f G d g->R d g
def v94{pre:List D->Gp->Prop}{post:List D->Gp->D->Gp->Prop}{ds:List D}{G:Gp}{q:DK}(h:pre ds G)(k:∀d f,post ds G d f->q d f):∃R,spec pre post ds G R/\∀d f,R d f->q d f:=#[post ds G,#[h,λ_ _ z=>z],k]
def Zw(Nu:Scope)(N N':List Str)(ix:List (Option Nat))(scope:Scope):Bool:=
 (scope.kind == .function)&&scope.names.all (λy=>y.2 != .cell)&&scope.names.all (λy=>y.2 != .local||scope.names.lookup y.1==some .local) &&
 scope.names.all (λy=>y.2 != .free||Nu.names.lookup y.1==some .cell||Nu.names.lookup y.1==some .free)&&(ix.length==N'.length) &&
 (N'.zip ix).all (λp=>match p.2 with|none=>true|some j=>N[j]?==some p.1&&scope.names.lookup p.1==some .free)
def jI{X:Cx}(h1:X.env.scope=u)(o:X.N=N)(h:Zw u N N' ix scope=true):jC X N' ix scope:=by
 unfold Zw at h;simp only[O2] at h;let#[#[#[#[#[t,m],l],k],r],g]:=h;rw[Z8] at m l k g;apply#[eq_of_beq t,λy f=>by simpa using m y f,λy f e=>?_,λy f e=>?_,eq_of_beq r,λi j x q p=>?_]
 .have:=l y f;simp only[e,bne_self_eq_false,D_] at this;exact eq_of_beq this
 .have:=k y f;simp only[e,bne_self_eq_false,D_,C21,beq_iff_eq] at this;unfold Env.kindOf;rw[h1];exact this
 .have n:(N'.zip ix)[i]?=some (x,some j):=by rw[Zh];exact#[q,p]
  have:=g _ (K9 n);simp only[O2,beq_iff_eq] at this;rw[o];exact this
section
variable{X:Cx}{K:W.Frag}{H:Hp}
def MA:Og:=λx lo hi G q=>match x with
 | .ref a=>(match bt (G a) with|some f=>∀p,G p=none->q (.ref p) (aG G p (.lst (cutD f lo hi)))|none=>False)
 | .tup f=>¬ (HT.bR f.length 0 lo=0/\HT.bR f.length f.length hi=f.length)/\q (.tup (cutD f lo hi)) G| _=>False
def Ao:uH X (Qq X.K MA):=wq5 (xG.or wt9) <| by
 rintro x lo hi H Q ⟨d,G,q,j,c,t,f⟩;unfold MA at t;split at t
 .rename_i a;split at t
  .rename_i k e;let#[xs,i,h]:=eR c e;exact .inl #[a,xs,j.aj,i,λp g=>f _ _ _ _ ae.eW (c.cG g (h.cut lo hi)) (Le.fresh g) (t p (c.fresh g))]
  .exact t.elim
 .rename_i k;let#[a,xs,rfl,i,h]:=j.aO;apply .inr #[a,xs,rfl,i,by rw[<- h.length];exact t.1,λp g=>?_];apply f (.tup _) G (.ref p) _ ?_ (c.side g) (Le.fresh g) t.2;rw[ae];exact#[p,_,rfl,eC.of hJ,ag.le (Le.fresh g) (h.cut lo hi)]
 .exact t.elim
def xb:C3:=λf G q=>match f with
 | [.str z]=>z.length<=sizeLine/\q (.int z.length) G| [.tup xs]=>q (.int xs.length) G| [.ref a]=>(match bt (G a) with|some xs=>q (.int xs.length) G|none=>False)
 | _=>False
def ag.one(h:ag K H [d] vs):∃v,vs=[v]/\ae K H d v:=by let#[x,r,rfl,g,f]:=h.au;rw[f.aY];exact#[x,rfl,g]
def ag.two(h:ag K H [d,e] vs):∃v u,vs=[v,u]/\ae K H d v/\ae K H e u:=by let#[x,r,rfl,i,g]:=h.au;let#[y,rfl,f]:=g.one;exact#[x,y,rfl,i,f]
def gn:Call3 X (.builtin "len") xb:=pb (lJ.or ut6) <| by
 rintro xs H Q ⟨k,G,q,r,c,t,f⟩;unfold xb at t;rcases k with _|⟨d,_|⟨_,_⟩⟩ <;> first|exact t.elim|(cases d <;> first|exact t.elim|dsimp only at t)
 .let#[v,rfl,g]:=r.one;cases g.str_inv;exact .inr #[_,rfl,t.1,f _ _ _ _ ae.cY c (Le.refl H) t.2]
 .let#[v,rfl,g]:=r.one;let#[a,h,rfl,i,j]:=g.aO;apply .inl #[a,h,rfl,.inr i,?_];rw[<- j.length];exact f _ _ _ _ ae.cY c (Le.refl H) t
 .let#[v,rfl,g]:=r.one;cases g.aj;split at t
  .rename_i k e;let#[h,i,j]:=eR c e;apply .inl #[_,h,rfl,.inl i,?_];rw[<- j.length];exact f _ _ _ _ ae.cY c (Le.refl H) t
  .exact t.elim
def Av:C3:=λf G q=>match f with|[.int i]=>q (.int (if i<0 then -i else i)) G|_=>False
def xg4:Call3 X (.builtin "abs") Av:=pb vu6 <| by
 rintro xs H Q ⟨h,G,q,r,c,t,f⟩;unfold Av at t;split at t
 .let#[v,rfl,g]:=r.one;cases g.int_inv;exact#[_,rfl,f _ _ _ _ ae.cY c (Le.refl H) t]
 .exact t.elim
def TB:C3:=λf G q=>match f with|[.int i,.int j]=>yJ i j/\q (.tup [.int (i / j),.int (i%j)]) G|_=>False
def vm2:Call3 X (.builtin "divmod") TB:=pb ux6 <| by
 rintro xs H Q ⟨j,G,q,r,c,t,f⟩;unfold TB at t;split at t
 .let#[v,u,rfl,i,h]:=r.two;cases i.int_inv;cases h.int_inv;apply#[_,_,rfl,t.1,λp g=>f (.tup _) G (.ref p) _ ?_ (c.side g) (Le.fresh g) t.2];rw[ae];exact#[p,_,rfl,eC.of hJ,.cons ae.cY (.cons ae.cY .nil)]
 .exact t.elim
def xg5:C3:=λf G q=>match f with|[.int i,.int j]=>q (.int (if j>i then j else i)) G|_=>False
def Sl:C3:=λf G q=>match f with|[.int i,.int j]=>q (.int (if j<i then j else i)) G|_=>False
def wp7(i:X.calm=true:=by rfl):Call3 X (.builtin "min") Sl:=pb (vj7 i) <| by
 rintro xs H Q ⟨j,G,q,r,c,t,f⟩;unfold Sl at t;split at t
 .let#[v,u,rfl,h,g]:=r.two;cases h.int_inv;cases g.int_inv;exact#[_,_,rfl,f _ _ _ _ ae.cY c (Le.refl H) t]
 .exact t.elim
def MB:C3:=λf G q=>match f with|[.int i]=>q (.int i) G|[.bl b]=>q (.int (if b then 1 else 0)) G|_=>False
def ES:Call3 X (.type "int") MB:=pb vk0 <| by
 rintro xs H Q ⟨h,G,q,r,c,t,f⟩;unfold MB at t;split at t
 .let#[v,rfl,g]:=r.one;cases g.int_inv;exact .inl #[_,rfl,f _ _ _ _ ae.cY c (Le.refl H) t]
 .let#[v,rfl,g]:=r.one;cases g.b9;exact .inr #[_,rfl,f _ _ _ _ ae.cY c (Le.refl H) t]
 .exact t.elim
def MS:C3:=λf G q=>match f with
 | [.tup xs]=>∀p,G p=none->q (.ref p) (aG G p (.lst xs))| [.ref a]=>(match bt (G a) with|some xs=>∀p,G p=none->q (.ref p) (aG G p (.lst xs))|none=>False)
 | _=>False
def Ui:Call3 X (.type "list") MS:=pb ut5 <| by
 rintro xs H Q ⟨l,G,q,r,c,t,f⟩;unfold MS at t;split at t
 .let#[v,rfl,j]:=r.one;let#[a,h,rfl,i,k]:=j.aO;exact#[a,h,rfl,.inr i,λp g=>f _ _ _ _ ae.eW (c.cG g k) (Le.fresh g) (t p (c.fresh g))]
 .let#[v,rfl,j]:=r.one;cases j.aj;split at t
  .rename_i l e;let#[h,i,k]:=eR c e;exact#[_,h,rfl,.inl i,λp g=>f _ _ _ _ ae.eW (c.cG g k) (Le.fresh g) (t p (c.fresh g))]
  .exact t.elim
 .exact t.elim
def MY:C3:=λf G q=>match f with
 | [.tup xs]=>q (.tup xs) G| [.ref a]=>(match bt (G a) with|some xs=>q (.tup xs) G|none=>False)
 | _=>False
def Nd:Call3 X (.type "tuple") MY:=pb uq1 <| by
 rintro xs H Q ⟨l,G,q,r,c,t,f⟩;unfold MY at t;split at t
 .let#[v,rfl,g]:=r.one;let#[a,h,rfl,i,k]:=g.aO;exact#[a,h,rfl,.inr #[i,f _ _ _ _ g c (Le.refl H) t]]
 .let#[v,rfl,g]:=r.one;cases g.aj;split at t
  .rename_i l e;let#[h,i,k]:=eR c e;apply#[_,h,rfl,.inl #[i,λp j=>f (.tup _) G (.ref p) _ ?_ (c.side j) (Le.fresh j) t]];rw[ae];exact#[p,_,rfl,eC.of hJ,ag.le (Le.fresh j) k]
  .exact t.elim
 .exact t.elim
def Qb:List D->Option (List Bool)
 | []=>some []| .bl b::r=>(Qb r).map (b::·)| _=>none
def P_:C3:=λf G q=>match f with
 | [.ref a]=>(match bt (G a) with|some xs=>(match Qb xs with|some g=>q (.bl (g.all id)) G|none=>False)|none=>False)
 | _=>False
def yU:List D->Option (List Int)
 | []=>some []| .int b::r=>(yU r).map (b::·)| _=>none
theorem Nf:∀{ds:List D} {bs:List Int} {vs:List V},yU ds=some bs->ag K H ds vs->vs=bs.map V.int
 | [],bs,vs,e,r=>by cases e;rw[r.aY];rfl
 | .int b::ds,bs,vs,e,r=>by let#[x,xs,rfl,g,f]:=r.au;let#[i,h,rfl]:=E8.mp (show(yU ds).map (b::·)=some bs from e);rw[g.int_inv,Nf h f];rfl| .non::_,_,_,e,_=>by cases e
 | .bl _::_,_,_,e,_=>by cases e
 | .str _::_,_,_,e,_=>by cases e
 | .tup _::_,_,_,e,_=>by cases e
 | .ref _::_,_,_,e,_=>by cases e
 | .ty _::_,_,_,e,_=>by cases e
def tE:C3:=λf G q=>match f with
 | [.ref a]=>(match bt (G a) with|some xs=>(match yU xs with|some g=>q (.int g.sum) G|none=>False)|none=>False)
 | _=>False
def wp5(j:X.calm=true:=by rfl):Call3 X (.builtin "sum") tE:=pb (vu5 j) <| by
 rintro xs H Q ⟨l,G,q,r,c,t,f⟩;unfold tE at t;split at t
 .let#[v,rfl,h]:=r.one;cases h.aj;split at t
  .rename_i l e;let#[n,g,i]:=eR c e;split at t
   .rename_i m k;have:=Nf k i;subst this;exact#[_,m,rfl,g,f _ _ _ _ ae.cY c (Le.refl H) t]
   .exact t.elim
  .exact t.elim
 .exact t.elim
def Cz(G:Gp):D->Option String
 | .non=>some "NoneType"| .bl _=>some "bool"| .int _=>some "int"| .str _=>some "str"| .ref a=>match G a with|some (.lst _)=>some "list"| some (.sE _)=>some "list"| some (.bI _)=>some "dict"| _=>none
 | _=>none
def TC:C3:=λf G q=>match f with
 | [x,.ty T]=>(T = "int" \/ T = "str" \/ T = "bool" \/ T = "list" \/ T = "tuple" \/ T = "dict")/\(match Cz G x with|some n=>q (.bl (r8 n T)) G|none=>False)
 | _=>False
def vm0:Call3 X (.builtin "isinstance") TC:=pb ux5 <| by
 rintro xs H Q ⟨p,G,q,r,c,t,f⟩;unfold TC at t;split at t
 .rename_i d T;let#[v,u,rfl,i,l]:=r.two;rw[ae] at l;subst l;let#[m,t]:=t;split at t
  .rename_i n g;apply#[v,n,T,rfl,?_,m,f _ _ _ _ ae.lY c (Le.refl H) t];unfold Cz at g;split at g
   .cases i.d6;cases g;rfl
   .cases i.b9;cases g;rfl
   .cases i.int_inv;cases g;rfl
   .cases i.str_inv;cases g;rfl
   .rename_i a;cases i.aj;split at g
    .rename_i xs k;cases g;let#[h,j,_]:=c _ _ k;exact .inl #[rfl,.inl #[h,j]]
    .rename_i xs k;cases g;let#[o,h,j,_]:=c _ _ k;exact .inl #[rfl,.inr #[o,h,j]]
    .rename_i xs k;cases g;let#[h,j,_]:=c _ _ k;exact .inr (.inr #[rfl,h,j])
    .cases g
   .cases g
  .exact t.elim
 .exact t.elim
def xa0(h:X.mg x=none)(f:Q5 x=some (.type T))(i:Gl X x:=by rfl)(g:x ≠ "__name__" := by decide)(j:(x==("__debug__" :Str))=false:=by decide):E3 X (.Name x pos) (dC (.ty T)):=dH (wh1 (v:=.ty T) i h f rfl g j) λ_ _ _=>Ep λ_=>by rw[ae]
def Eg:R3:=λx y G q=>match y with
 | .non=>(match x with|.non=>q (.bl true) G|_=>q (.bl false) G)
 | .bl b=>(match x with|.bl c=>q (.bl (decide (c=b))) G|_=>q (.bl false) G)
 | _=>False
def MR:R3:=λx y G q=>match y with
 | .non=>(match x with|.non=>q (.bl false) G|_=>q (.bl true) G)
 | .bl b=>(match x with|.bl c=>q (.bl (!decide (c=b))) G|_=>q (.bl true) G)
 | _=>False
def ae.Be(h:ae K H d v)(b:Bool)(n:∀c,d≠.bl c):v≠.bl b:=by
 cases d with
 | bl c=>exact absurd rfl (n c)| non=>rw[h.d6];exact λz=>nomatch z| int _=>rw[h.int_inv];exact λz=>nomatch z| str _=>rw[h.str_inv];exact λz=>nomatch z| ref _=>rw[h.aj];exact λz=>nomatch z| ty _=>rw[ae] at h;rw[h];exact λz=>nomatch z| tup _=>let#[a,xs,e,_]:=h.aO;rw[e];exact λz=>nomatch z
def v22:decide (V.bl c=V.bl b)=decide (c=b):=by cases c <;> cases b <;> rfl
def vm1:fG X (K2 .IsNot) MR:=rZ (xQ.or vc0) <| by
 rintro x y H Q ⟨d,e,G,q,g,i,c,t,f⟩;unfold MR at t;split at t
 .apply .inl #[i.d6,?_];split at t
  .rw[g.d6];exact f _ _ _ _ ae.lY c (Le.refl H) t
  .rename_i h;rw[decide_eq_false (g.xV λz=>h z)];exact f _ _ _ _ ae.lY c (Le.refl H) t
 .rename_i b;apply .inr #[b,i.b9,?_];split at t
  .rw[g.b9,v22];exact f _ _ _ _ ae.lY c (Le.refl H) t
  .rename_i h;rw[decide_eq_false (g.Be b λz j=>h z j)];exact f _ _ _ _ ae.lY c (Le.refl H) t
 .exact t.elim
end
def x_(n:Nat)(t:qt):qu:=λd g G q=>match d with
 | .tup f=>f.length=n/\t f g G q| .ref a=>(match bt (G a) with|some f=>f.length=n/\t f g G q|none=>False)
 | _=>False
def xg(te:bu):tw:=λh G r=>te h G λx g=>match x with
 | .ref a=>(match bt (g a) with|some f=>r #[f,λG=>bt (G a)=some f] g|none=>False)
 | .tup f=>r #[f,λ_=>True] g| _=>False
section
variable{X:Cx}{es:List Expr}{e tg:Expr}{te:bu}{pos:Pos}
def AA(u:X.calm=true)(h:Oh X es t)(p:(R7 es X.env).length=n:=by rfl)(o:(R7 es X.env).findIdx? (·.1)=none:=by rfl):J3 X (.Tuple es k pos) (x_ n t):=
 Sj (xh8 (ww0 u h p o) (wg2 u h p o)) λv y H Q x=>by
  let#[d,g,G,q,r,j,c,t,f]:=x;unfold x_ at t;split at t
  .rename_i i;let#[a,xs,rfl,s,l]:=r.aO;exact .inl #[a,xs,rfl,s,by rw[<- l.length];exact t.1,i,g,G,q,l,j,c,t.2,f]
  .rename_i a;split at t
   .rename_i i e;let#[xs,s,m]:=eR c e;exact .inr #[a,xs,r.aj,s,by rw[<- m.length];exact t.1,i,g,G,q,m,j,c,t.2,f]
   .exact t.elim
  .exact t.elim
def jK(h:E3 X e te):I3 X tg e (xg te):=CF (wv8 h) λo H R m=>by
 let#[i,G,q,l,c,t,f]:=m;apply#[i,G,_,l,c,t,λx u v p j c1 k g=>?_];split at g
 .rename_i a;split at g
  .rename_i n e;let#[xs,s,_]:=eR c1 e;exact#[a,j.aj,.inl #[#[xs,s],f _ _ _ _ v52 c1 k g]]
  .exact g.elim
 .rename_i n;let#[a,xs,rfl,s,r]:=j.aO;exact#[a,rfl,.inr #[#[xs,s],f _ _ _ _ (vf8 s r) c1 k g]]
 .exact g.elim
end
section
variable{X:Cx}{e o:Expr}{es:List Expr}{to:bu}{ts:fk}{apos aN:Pos}
def ty_list(K:W.Frag):∀G H x v,bW K G H->ae K H x v->kR G "list" x->Ff K "list" v H:=by
 intro G H x v c r t;cases x with
 | ref a =>
  cases r.aj;cases e:G a with
  | none=>simp[kR,e] at t| some o =>
   cases o with
   | lst f=>let#[xs,s,_]:=eR (ds:=f) c (by rw[e];rfl);exact .inl #[rfl,xs,s]| sE f=>let#[xs,s,_]:=eR (ds:=f) c (by rw[e];rfl);exact .inl #[rfl,xs,s]| bI _=>simp[kR,e] at t| Jh _=>simp[kR,e] at t| qU _=>simp[kR,e] at t| ins _ _=>simp[kR,e] at t| exc _ _=>simp[kR,e] at t| qg _ _=>simp[kR,e] at t| tb _ _=>simp[kR,e] at t
 | str _=>simp[kR] at t| int _=>simp[kR] at t| _=>exact t.elim
def EJ:M3:=λx f G q=>match x,f with
 | .ref a,[d]=>(match G a with|some (.lst xs)=>xs.length<sizeLine/\q .non (aG G a (.lst (xs++[d])))|_=>False)
 | _,_=>False
def o_(p:E3 X o to)(r:A3 X (e::es) ts)(A:N3 o "append" X.env (eval o X.env)=eval o X.env:=by rfl)
  (m:((backTo aN (D0 (e::es) X.env)).all (λx=>!x.1)&&(W4 aN (O7 [] X.env)).all (λx=>x.1.isSome)
   && decide ((e::es).length+([]:List Keyword).length+(if([]:List Keyword).isEmpty then 0 else 1)<30))=true:=by rfl)
  (B:(apos.endLine==aN.line)=true:=by rfl) (n:D0 (e::es) X.env=(false,eval e X.env)::D0 es X.env:=by rfl) (u:(backTo aN (D0 es X.env)).any (·.1)=false:=by rfl):
  E3 X (.Call (.Attribute o "append" apos) (e::es) [] aN) (DC "list" EJ to ts):=
 dH (Qs B12 PySem.F.slot_list_append PySem.F.type_list_append (SW (r':=xY X.K EJ) us5 <| by
  rintro x xs H Q ⟨d,I,G,q,l,k,c,t,f⟩;unfold EJ at t;split at t
  .rename_i a J;split at t
   .rename_i C y;cases l.aj;let#[v,rfl,j]:=k.one;let#[i,g,h]:=c _ _ y;exact#[a,i,v,rfl,rfl,g,by rw[<- h.length];exact t.1,f _ _ _ _ ae.xW (c.lE g (h.append (.cons j .nil))) (Le.lst g) t.2]
   .exact t.elim
  .exact t.elim) p r A m B n u) λ_ _ _=>SE (ty_list X.K)
def MF:M3:=λx g G q=>match x,g with
 | .ref a,[.ref b]=>(match G a,G b with|some (.lst xs),some (.lst f)=>xs.length+f.length<=sizeLine/\q .non (aG G a (.lst (xs++f)))|_,_=>False)
 | _,_=>False
def MU(u:E3 X o to)(y:A3 X (e::es) ts)(I:N3 o "extend" X.env (eval o X.env)=eval o X.env:=by rfl)
  (p:((backTo aN (D0 (e::es) X.env)).all (λx=>!x.1)&&(W4 aN (O7 [] X.env)).all (λx=>x.1.isSome)
   && decide ((e::es).length+([]:List Keyword).length+(if([]:List Keyword).isEmpty then 0 else 1)<30))=true:=by rfl)
  (J:(apos.endLine==aN.line)=true:=by rfl) (r:D0 (e::es) X.env=(false,eval e X.env)::D0 es X.env:=by rfl) (B:(backTo aN (D0 es X.env)).any (·.1)=false:=by rfl):
  E3 X (.Call (.Attribute o "extend" apos) (e::es) [] aN) (DC "list" MF to ts):=
 dH (Qs B12 PySem.F.slot_list_extend PySem.F.type_list_extend (SW (r':=xY X.K MF) vd0 <| by
  rintro x xs H Q ⟨d,O,G,q,n,m,c,t,f⟩;unfold MF at t;split at t
  .rename_i a b;split at t
   .rename_i M L E C;cases n.aj;let#[v,rfl,l]:=m.one;cases l.aj;let#[k,g,i]:=c _ _ E;let#[j,A,h]:=c _ _ C;exact#[a,b,k,j,rfl,rfl,g,A,by rw[<- i.length,<- h.length];exact t.1,f _ _ _ _ ae.xW (c.lE g (i.append h)) (Le.lst g) t.2]
   .exact t.elim
  .exact t.elim) u y I p J r B) λ_ _ _=>SE (ty_list X.K)
def wi4:M3:=λx f G q=>match x,f with
 | .ref a,[]=>(match G a with|some (.lst _)=>q .non (aG G a (.lst []))|_=>False)
 | _,_=>False
end
def gw(neg:Bool):R3:=λx y G q=>match x,y with
 | .int i,.int j=>q (.bl (if neg then !decide (i=j) else decide (i=j))) G| .str i,.str j=>q (.bl (if neg then !decide (i=j) else decide (i=j))) G| .bl i,.bl j=>q (.bl (if neg then !decide (i=j) else decide (i=j))) G| .non,.non=>q (.bl (!neg)) G| .non,.int _=>q (.bl neg) G| .int _,.non=>q (.bl neg) G| .non,.bl _=>q (.bl neg) G| .bl _,.non=>q (.bl neg) G| .non,.str _=>q (.bl neg) G| .str _,.non=>q (.bl neg) G| .int _,.str _=>q (.bl neg) G| .str _,.int _=>q (.bl neg) G| .tup xs,.tup h=>∃n g f b,n<=40/\snap G n (.tup xs)=some g/\snap G n (.tup h)=some f/\dY n g f=some b/\q (.bl (if neg then !b else b)) G| .ref a,.ref c=>∃n g f b,n<=40/\snap G n (.ref a)=some g/\snap G n (.ref c)=some f/\dY n g f=some b/\q (.bl (if neg then !b else b)) G| _,_=>False
section
variable{X:Cx}{k:Nat}
def vt8:decide (V.int i=V.int j)=decide (i=j):=by
 by_cases h:i=j
 .subst h;simp
 .simp[h]
def vt7:decide (V.str i=V.str j)=decide (i=j):=by
 by_cases h:i=j
 .subst h;simp
 .simp[h]
def ug0(h:snap G n (.tup xs)=some f):gy f=false:=by let#[_,_,_,rfl,_]:=bT h;rfl
def ug1(h:snap G n (.ref a)=some f):gy f=false:=by let#[_,_,_,_,rfl,_]:=bU h;rfl
def vv1{K:W.Frag}{G:Gp}{H:Hp}{neg:Bool}{q:DK}{d e:D}{x y:V}(t:gw neg d e G q)(o:ae K H d x)(l:ae K H e y):(AX x y=true/\q (.bl (if neg then !decide (x=y) else decide (x=y))) G)\/∃n f g b,n<=40/\snap G n d=some f/\snap G n e=some g/\dY n f g=some b/\gy f=false/\q (.bl (if neg then !b else b)) G:=by
 rcases d with _|b|i|s|xs|a|m <;> rcases e with _|b'|j|s'|ys|c|m' <;> first|exact P6 t|((first|cases o.d6|cases o.b9|cases o.int_inv|cases o.str_inv);(first|cases l.d6|cases l.b9|cases l.int_inv|cases l.str_inv);exact .inl ⟨rfl,by first|exact t|(rw[vt8];exact t)|(rw[vt7];exact t)|(rw[v22];exact t)|(cases neg <;> exact t)⟩)|skip
 .let#[n,f,g,b,p,h,u,r,t]:=t;exact .inr #[n,f,g,b,p,h,u,r,ug0 h,t]
 .let#[n,f,g,b,p,h,u,r,t]:=t;exact .inr #[n,f,g,b,p,h,u,r,ug1 h,t]
def aR(m:aQ k X.A):fG X (K2 .Eq) (gw false):=rZ (HA.or (wy1 m)) <| by
 rintro x y H Q ⟨d,e,G,q,i,g,c,t,f⟩;rcases vv1 t i g with⟨h,t⟩|⟨n,l,j,b,o,B,u,p,r,t⟩
 .exact .inl ⟨h,f _ _ _ _ ae.lY c (Le.refl H) t⟩
 .exact .inr ⟨_,_,G,n,l,j,b,i,g,c,o,B,u,p,r,f _ _ _ _ ae.lY c (Le.refl H) t⟩
def rT(m:aQ k X.A):fG X (K2 .NotEq) (gw true):=rZ (Hy.or (wx9 m)) <| by
 rintro x y H Q ⟨d,e,G,q,i,g,c,t,f⟩;rcases vv1 t i g with⟨h,t⟩|⟨n,l,j,b,o,B,u,p,r,t⟩
 .exact .inl ⟨h,f _ _ _ _ ae.lY c (Le.refl H) t⟩
 .exact .inr ⟨_,_,G,n,l,j,b,i,g,c,o,B,u,p,r,f _ _ _ _ ae.lY c (Le.refl H) t⟩
end
section
variable{X:Cx}{e:Expr}{es:List Expr}{p pos:Pos}{ts:fk}{k:Nat}{S:gu}{x m qual:Str}{st:Stmt}{ps:List Str}{C:Addr}
def Xb{f g:Str}{d:FnAt X.K f g st ps}(M:Mk X.K C d.a)(j:X.mg x=some (.ref C))(G:bz X.prog X.w X.K X.mg X.base oV k d.a d.fd ps (mf X.K S))(i:aQ (k+1) X.A)(o:A3 X (e::es) ts)(l:Gl X x:=by rfl)(h:(x==("__debug__" :Str))=false:=by decide)
  (n:D0 (e::es) X.env=(false,eval e X.env)::D0 es X.env:=by rfl) (q:(backTo pos (D0 es X.env)).any (·.1)=false:=by rfl):E3 X (.Call (.Name x p) (e::es) [] pos) (Ej C S [] ts):=
 w27 M G i l j d.b .nil (λ_=>.nil) o h n q
end
section
variable{X:Cx}{e:Expr}{es:List Expr}{p pos:Pos}{ts:fk}{k:Nat}{S:gu}{x m qual:Str}{st:Stmt}{ps:List Str}{C f:Addr}{fd:wY}
def Xa(M:Mk X.K C f)(j:X.mg x=some (.ref C))(o:∃t,Binds X.K fd ps [.int i t])(G:bz X.prog X.w X.K X.mg X.base oV k f fd ps (mf X.K S))(h:aQ (k+1) X.A)(r:A3 X (e::es) ts)(l:Gl X x:=by rfl)(g:(x==("__debug__" :Str))=false:=by decide)
  (n:D0 (e::es) X.env=(false,eval e X.env)::D0 es X.env:=by rfl) (u:(backTo pos (D0 es X.env)).any (·.1)=false:=by rfl):E3 X (.Call (.Name x p) (e::es) [] pos) (Ej C S [.int i] ts):=by
 let#[t,q]:=o;exact w27 (eL:=[.int i]) M G h l j q (.cons #[t,rfl] .nil) (λ_=>.cons ae.cY .nil) r g n u
def AH(h:∃t,X.mg x=some (.int i t))(j:Gl X x:=by rfl)(g:(x==("__debug__" :Str))=false:=by decide):E3 X (.Name x pos) (dC (.int i)):=by let#[t,h]:=h;exact xa4 j h (v:=.int i) #[t,rfl] (λ_=>ae.cY) g
end
def fH{c A B:Prop}[Decidable c](h1:c->A)(f:¬ c->B):if decide c=true then A else B:=by
 by_cases h:c
 .simpa[h] using h1 h
 .simpa[h] using f h
def v97:bt (some (.lst xs))=some xs:=rfl
def v98:bt (some (.sE xs))=some xs:=rfl
def xk2{f:Type}{x:f}{xs:List f}:dg (x::xs) 0=some x:=rfl
def xk1{f:Type}{x y:f}{xs:List f}:dg (x::y::xs) 1=some y:=rfl
def xk0{f:Type}{x y z:f}{xs:List f}:dg (x::y::z::xs) 2=some z:=rfl
def xj9{f:Type}{x y z u:f}{xs:List f}:dg (x::y::z::u::xs) 3=some u:=rfl
def xj8{f:Type}{x y z u v:f}{xs:List f}:dg (x::y::z::u::v::xs) 4=some v:=rfl
def x88:iO 3 0=some 0:=rfl
def x87:iO 3 1=some 1:=rfl
def x86:iO 3 2=some 2:=rfl
def x90:iO 2 0=some 0:=rfl
def x89:iO 2 1=some 1:=rfl
def w20{n j:Nat}(h:j<n):iO n (j:Int)=some j:=by unfold iO;rw[if_pos (),if_pos ()];simp
def wk4{n:Nat}{i:Int}(f:0<=i)(h:i<n):iO n i=some i.toNat:=by unfold iO;rw[if_pos f,if_pos h]
def vk4{f:Type}{xs:List f}{i:Int}(g:0<=i)(h:i<xs.length):dg xs i=some (xs[i.toNat]'()):=by rw[Cv,wk4 g h];exact B6 _
def wo8{g j:Type}{f:g->j}{xs:List g}{i:Int}(k:0<=i)(h:i<xs.length):dg (xs.map f) i=some (f (xs[i.toNat]'())):=by rw[vk4 k (by simpa using h)];simp
def yV(f:0<=i)(h:i<18446744073709551616):iV i j:=.inl #[(),()]
def xb5(f:0<=j)(h:j<18446744073709551616):iV i j:=.inr #[(),()]
def Ml(f:0<=j)(h:j<=1000):jZ 1 j:=#[f,(),∅]
end L3
namespace L3
def fY{S:gu}{ds:List D}{G G1:Gp}{v:D}{q:DK}(h:∀R:DK,R v G1->S ds G R)(k:q v G1):∃R,S ds G R/\∀d f,R d f->q d f:=#[λd f=>d=v/\f=G1,h _ #[rfl,rfl],λ_ _ ⟨i,g⟩=>by subst i;subst g;exact k]
def jF{S:gu}{ds:List D}{G:Gp}{post:DK}{q:DK}(h:∀R:DK,(∀d f,post d f->R d f)->S ds G R)(k:∀d f,post d f->q d f):∃R,S ds G R/\∀d f,R d f->q d f:=#[post,h _ λ_ _ z=>z,k]
def j5{E:kQ}(I:List D->gY->Gp->Prop)(l:I items f G)(nil:∀f G,I [] f G->ok G/\E.nx f G) (cons:∀x r f G,I (x::r) f G->(∀i k,I r i k->forL ok g tb E r i k)->ok G/\g x f G λj G1=>tb { E with nx:=forL ok g tb E r,ct:=forL ok g tb E r,bk:=E.nx} j G1):forL ok g tb E items f G:=by
 induction items generalizing f G with
 | nil=>exact nil f G l| cons x r m=>exact cons x r f G l λi k h=>m h
def j6(I:List D->gY->Gp->Prop)(l:I items i G)(nil:∀i G,I [] i G->ok G/\q (.ref p) G) (cons:∀x r i G,I (x::r) i G->(∀j k,I r j k->xh ok g tc te p q r j k)->ok G/\g x i G λf t=>tc f t λb n => if b=true then te f n λd m=>(match m p with|some (.lst ys)=>ys.length<PySem.sizeLine/\xh ok g tc te p q r f (aG m p (.lst (ys++[d])))|_=>False)
   else xh ok g tc te p q r f n):xh ok g tc te p q items i G:=by
 induction items generalizing i G with
 | nil=>exact nil i G l| cons x r o=>exact cons x r i G l λj k h=>o h
def Nc(I:Nat->gY->Gp->Prop)(k:I m g G) (step:∀m g G N,I m g G->(∀f j i,m=i+1->I i f j->N f j)->c g G λb G1=>if b=true then tb { E with nx:=N,ct:=N,bk:=E.nx} g G1 else E.nx g G1):Sv c tb E g G:=by
 apply#[m+1,?_];induction m generalizing g G with
 | zero=>exact step 0 g G (Aw c tb E 0) k λf j i e=>absurd e ()| succ m l=>exact step (m+1) g G (Aw c tb E (m+1)) k λf j i e h=>l (by cases e;exact h)
end L3
namespace L3
open PySem
def eF:(F6 a=F6 b)=(a=b):=propext #[λh=>by rw[B27,B27] at h;injection h with h;exact String.ext (List.map_inj_right (λx y e=>Char.ext (UInt32.toNat_inj.mp e)) |>.mp (congrArg Yk h)),λh=>by rw[h]]
def str_beq:(F6 a==F6 b)=decide (a=b):=by rw[V4,beq_iff_eq,decide_eq_true_iff,eF]
end L3
namespace Rw
open PySem PyProof.Rows L2 L3
inductive oU where
 | num (n:Int)|box (y:Nat)
 deriving DecidableEq
inductive Row where
 | add (x:Nat) (o:oU)|take (x:Nat) (o:oU)|turn (x i:Nat) (cs:List (Nat×Nat))|swap (x y:Nat)|go (x:Nat) (n:Int) (k:Nat)|aT (x:Nat) (n:Int) (k:Nat)
 deriving DecidableEq
def oU.d:oU->D
 | .num n=>.tup [.str "num",.int n]| .box y=>.tup [.str "box",.int (y:Int)]
def cd(c:Nat×Nat):D:=.tup [.int (c.1:Int),.int (c.2:Int)]
def Row.d:Row->D
 | .add x o=>.tup [.str "add",.int (x:Int),o.d]| .take x o=>.tup [.str "take",.int (x:Int),o.d]| .turn x i f=>.tup [.str "turn",.int (x:Int),.int (i:Int),.tup (f.map cd)]| .swap x y=>.tup [.str "swap",.int (x:Int),.int (y:Int)]| .go x n k=>.tup [.str "go",.int (x:Int),.int n,.int (k:Int)]| .aT x n k=>.tup [.str "come",.int (x:Int),.int n,.int (k:Int)]
def oU.ok(sz x:Nat):oU->Prop
 | .num n=>0<=n/\n<4294967296| .box y=>y<sz/\y≠x
def Row.ok(sz:Nat):Row->Prop
 | .add x o=>x<sz/\o.ok sz x| .take x o=>x<sz/\o.ok sz x| .turn x i f=>x<sz/\i<32/\f.length<=2/\∀c∈f,c.1<sz/\c.1≠x/\c.2<32| .swap x y=>x<sz/\y<sz/\y≠x| .go x n _=>x<sz/\0<=n/\n<4294967296| .aT x n _=>x<sz/\0<=n/\n<4294967296
def Row.plain:Row->Bool
 | .go _ _ _=>false| .aT _ _ _=>false| _=>true
def gt(bs:List Int)(x:Nat):Int:=bs.getD x 0
def bit(v:Int)(j:Nat):Int:=v / 2^j%2
def eQ(v:Int)(i:Nat):Int:=v+2^i*(1-2*bit v i)
def val(bs:List Int):oU->Int
 | .num n=>n| .box y=>gt bs y
def con(bs:List Int)(cs:List (Nat×Nat)):Bool:=cs.all λc=>!decide (bit (gt bs c.1) c.2=0)
def df(s:Int)(bs:List Int):Row->List Int
 | .add x o=>bs.set x ((gt bs x+s*val bs o)%4294967296)| .take x o=>bs.set x ((gt bs x-s*val bs o)%4294967296)| .turn x i f=>if con bs f=true then bs.set x (eQ (gt bs x) i) else bs| .swap x y=>(bs.set x (gt bs y)).set y (gt bs x)| .go _ _ _=>bs| .aT _ _ _=>bs
structure dA(sz:Nat)(bs:List Int):Prop where
 len:bs.length=sz
 Dg:∀v∈bs,0<=v/\v<4294967296
def Sw{bs:List Int}(h:x<bs.length):gt bs x=bs[x]:=by unfold gt;rw[K4,B6 h];rfl
def EA(h:dA sz bs)(f:x<sz):0<=gt bs x/\gt bs x<4294967296:=by rw[Sw (by rw[h.len];exact f)];exact h.Dg _ (M6 _)
def sQ{bs:List Int}(h:x<bs.length):gt (bs.set x v) y=if y=x then v else gt bs y:=by
 unfold gt;rw[K4,K4,B90];by_cases e:x=y
 .subst e;simp[h]
 .rw[if_neg e,if_neg (D2 e)]
def tK{bs:List Int}{x:Nat}(h:x<bs.length):dg (bs.map D.int) (x:Int)=some (.int (gt bs x)):=by rw[xq (v:=.int (gt bs x))];rw[F8,B6 h,Sw h];rfl
def E'{bs:List Int}{x:Nat}(h:x<bs.length):iO (bs.map D.int).length (x:Int)=some x:=w20 (by simpa using h)
def xH{bs:List Int}{x:Nat}{v:Int}:(bs.map D.int).set x (.int v)=(bs.set x v).map D.int:=by rw[OH]
def Ni{rs:List Row}{x:Nat}{r:Row}(h:rs[x]?=some r):dg (rs.map Row.d) (x:Int)=some r.d:=xq (by rw[F8,h];rfl)
def v67:LL v (1*2^i)=eQ v i:=by rw[OC,bitXor_and,W.kbt_bit];unfold eQ bit;rw[C89,OD,C74 (2^i) (2*(v / 2^i%2)),Int.mul_assoc 2 (v / 2^i%2) (2^i)];omega
def vk8:P1 (v / 2^j) 1=bit v j:=by rw[bitAnd_m1];rfl
def CH(v:Int)(j:Nat):bit v j=0\/bit v j=1:=by unfold bit;omega
theorem pow_pos(i:Nat):(0:Int)<2^i:=Int.pow_pos ∅
def v93(v:Int)(i:Nat):∃a r:Int,v=2^i*(2*a+bit v i)+r/\0<=r/\r<2^i:=by
 apply#[v / 2^i / 2,v%2^i,?_,V5 _ (C75 (pow_pos i)),R5 _ (pow_pos i)];have g:=Int.mul_ediv_add_emod v (2^i);have f:2*(v / 2^i / 2)+bit v i=v / 2^i:=by unfold bit;omega
 rw[f];omega
def xa8{a r p:Int}(f:0<p)(g:0<=r)(h1:r<p):(p*a+r) / p=a:=by rw[Int.add_comm,Int.add_mul_ediv_left _ _ (C75 f),Int.ediv_eq_zero_of_lt g h1];omega
def w23(v:Int)(i:Nat):∃a r:Int,v=2^i*(2*a+bit v i)+r/\eQ v i=2^i*(2*a+(1-bit v i))+r/\0<=r/\r<2^i:=by
 let#[a,r,h,g,f]:=v93 v i;apply#[a,r,h,?_,g,f];have e:eQ v i=v+2^i*(1-2*bit v i):=rfl;rw[e];rcases CH v i with hb|hb
 .rw[hb] at h⊢;have:(2:Int)^i*(1-2*0)=2^i:=()
  have j:(2:Int)^i*(2*a+(1-0))=2^i*(2*a+0)+2^i:=by rw[DW,DW];omega
  omega
 .rw[hb] at h⊢;have:(2:Int)^i*(1-2*1)=- 2^i:=()
  have j:(2:Int)^i*(2*a+1)=2^i*(2*a+(1-1))+2^i:=by rw[DW,DW];omega
  omega
def wo6(v:Int)(i:Nat):bit (eQ v i) i=1-bit v i:=by let#[a,r,h,e,g,f]:=w23 v i;show eQ v i / 2^i%2=_;rw[e,xa8 (pow_pos i) g f];rcases CH v i with hb|hb <;> rw[hb] <;> omega
def wl1(v:Int)(i:Nat):eQ (eQ v i) i=v:=by
 have e:eQ (eQ v i) i=eQ v i+2^i*(1-2*bit (eQ v i) i):=rfl;rw[e,wo6];have f:eQ v i=v+2^i*(1-2*bit v i):=rfl;rw[f];have:(1-2*(1-bit v i))=-(1-2*bit v i):=()
 rw[this,Int.mul_neg];omega
def wl0(hi:i<32)(n:0<=v)(h1:v<4294967296):0<=eQ v i/\eQ v i<4294967296:=by
 let#[a,r,h,e,l,k]:=w23 v i;have f:=pow_pos i;have m:0<=a:=by
  by_cases q:0<=a
  .exact q
  .have:(2:Int)^i*(2*a+bit v i)<=2^i*(-1):=X8 (by rcases CH v i with hb|hb <;> omega) (V8 f);omega
 have g:(4294967296:Int)=2^i*(2*2^(31-i)):=by
  have j:(2:Int)*2^(31-i)=2^(32-i):=by rw[C74,<- Int.pow_succ];congr 1;omega
  rw[j,<- Int.pow_add];have:i+(32-i)=32:=()
  rw[this];rfl
 have o:a<2^(31-i):=by
  by_cases q:a<2^(31-i)
  .exact q
  .have:(2:Int)^i*(2*2^(31-i))<=2^i*(2*a+bit v i):=X8 (by rcases CH v i with hb|hb <;> omega) (V8 f);omega
 rw[e];constructor
 .have:0<=(2:Int)^i*(2*a+(1-bit v i)):=Int.mul_nonneg (V8 f) (by rcases CH v i with hb|hb <;> omega);omega
 .have:(2:Int)^i*(2*a+(1-bit v i))<=2^i*(2*2^(31-i)-1):=X8 (by rcases CH v i with hb|hb <;> omega) (V8 f);rw[C89,<- g] at this;omega
def My{r:Row}(h:dA sz bs)(k:r.ok sz):dA sz (df s bs r):=by
 have f:∀{g:List Int} {x:Nat} {v:Int},dA sz g->0<=v->v<4294967296->dA sz (g.set x v):=λ{g x v} h p n =>
  #[by rw[J9];exact h.len,λu m=>by
   rcases Zg m with q|q
   .exact h.Dg u q
   .subst q;exact⟨p,n⟩]
 cases r with
 | add x o=>exact f h (V5 _ ∅) (R5 _ ∅)| take x o=>exact f h (V5 _ ∅) (R5 _ ∅)| turn x i g =>
  show dA sz (if con bs g=true then bs.set x (eQ (gt bs x) i) else bs);split
  .let#[j,hi,_]:=k;let#[a,b]:=EA h j;let#[c,d]:=wl0 hi a b;exact f h c d
  .exact h
 | swap x y =>let#[j,l,_]:=k;let#[a,b]:=EA h j;let#[c,d]:=EA h l;exact f (f h c d) a b| go _ _ _=>exact h| aT _ _ _=>exact h
def CQ{bs:List Int}{x:Nat}(h:x<bs.length):bs.set x (gt bs x)=bs:=by rw[Sw h,List.set_getElem_self]
def Ud{s:Int}(E:s=1\/s=-1){sz:Nat}{bs:List Int}{r:Row}(h:dA sz bs)(m:r.ok sz):df (-s) (df s bs r) r=bs:=by
 have G:=h.len;cases r with
 | add x o =>
  let#[j,q]:=m;have p:val (bs.set x ((gt bs x+s*val bs o)%4294967296)) o=val bs o:=by
   cases o with
   | num n=>rfl| box y=>show gt _ y=gt bs y;rw[sQ (),if_neg q.2]
  show(bs.set x _).set x ((gt (bs.set x _) x+-s*val (bs.set x _) o)%4294967296)=bs;rw[p,sQ (),if_pos rfl,LI];have u:=EA h j;have e:((gt bs x+s*val bs o)%4294967296+-s*val bs o)%4294967296=gt bs x:=by rw[C90];omega
  rw[e,CQ ()]
 | take x o =>
  let#[j,q]:=m;have p:val (bs.set x ((gt bs x-s*val bs o)%4294967296)) o=val bs o:=by
   cases o with
   | num n=>rfl| box y=>show gt _ y=gt bs y;rw[sQ (),if_neg q.2]
  show(bs.set x _).set x ((gt (bs.set x _) x - -s*val (bs.set x _) o)%4294967296)=bs;rw[p,sQ (),if_pos rfl,LI];have u:=EA h j;have e:((gt bs x-s*val bs o)%4294967296 - -s*val bs o)%4294967296=gt bs x:=by rw[C90];omega
  rw[e,CQ ()]
 | turn x i f =>
  let#[j,hi,_,A]:=m;show(if con (if con bs f=true then bs.set x (eQ (gt bs x) i) else bs) f=true then _ else _)=bs;by_cases g:con bs f=true
  .have B:con (bs.set x (eQ (gt bs x) i)) f=true:=by unfold con at g⊢;rw[Z8] at g⊢;intro c k;rw[sQ (),if_neg (A c k).2.1];exact g c k
   show(if con (if con bs f=true then bs.set x (eQ (gt bs x) i) else bs) f=true then(if con bs f=true then bs.set x (eQ (gt bs x) i) else bs).set x (eQ (gt (if con bs f=true then bs.set x (eQ (gt bs x) i) else bs) x) i) else(if con bs f=true then bs.set x (eQ (gt bs x) i) else bs))=bs;rw[if_pos g,if_pos B,sQ (),if_pos rfl,LI,wl1,CQ ()]
  .show(if con (if con bs f=true then bs.set x (eQ (gt bs x) i) else bs) f=true then(if con bs f=true then bs.set x (eQ (gt bs x) i) else bs).set x (eQ (gt (if con bs f=true then bs.set x (eQ (gt bs x) i) else bs) x) i) else(if con bs f=true then bs.set x (eQ (gt bs x) i) else bs))=bs;rw[if_neg g,if_neg g]
 | swap x y =>
  let#[j,C,l]:=m;show(((bs.set x (gt bs y)).set y (gt bs x)).set x (gt ((bs.set x (gt bs y)).set y (gt bs x)) y)).set y (gt ((bs.set x (gt bs y)).set y (gt bs x)) x)=bs;rw[sQ (by rw[J9];omega),if_pos rfl,sQ (by rw[J9];omega),if_neg (D2 l),sQ (),if_pos rfl];rw[OS _ _ l,LI,OS _ _ (D2 l)];have t:(bs.set x (gt bs y)).set x (gt bs x)=bs:=by rw[LI,CQ ()]
  rw[OS _ _ l] at *;first
   | (rw[t];exact CQ ())
   | (rw[OS _ _ (D2 l),t];exact CQ ())
 | go _ _ _=>rfl| aT _ _ _=>rfl
end Rw
namespace Rw
open PySem L2 L3
theorem uk5:∀ks:List Int,(ks.map D.int).mapM (snap G 0)=some (ks.map Sn.int)
 | []=>rfl| k::ks=>by rw[C0,U9,uk5 ks];rfl
def Us{G:Gp}{a:Addr}{ks:List Int}(h:bt (G a)=some (ks.map .int)):snap G 1 (.ref a)=some (.lst (ks.map .int)):=by show((bt (G a)).bind λf=>(f.mapM (snap G 0)).map Sn.lst)=_;rw[h,YS,uk5];rfl
theorem w24:∀ks ms:List Int,ks.length=ms.length->∃bs,(((ks.map Sn.int).zip (ms.map Sn.int)).mapM λp=>dY 0 p.1 p.2)=some bs/\bs.all id=decide (ks=ms)
 | [],[],_=>#[[],rfl,rfl]| [],_::_,h=>by simp at h| _::_,[],h=>by simp at h| k::ks,m::ms,h=>by
  let#[bs,e,q]:=w24 ks ms (by simpa using h);apply#[(k==m)::bs,?_,?_]
  .rw[C0,C0,N6,U9,e];rfl
  .rw[W8,q];by_cases f:k=m
   .subst f;simp
   .simp[f]
def wl2{ks ms:List Int}:dY 1 (.lst (ks.map .int)) (.lst (ms.map .int))=some (decide (ks=ms)):=by
 show(if(ks.map Sn.int).length=(ms.map Sn.int).length then(((ks.map Sn.int).zip (ms.map Sn.int)).mapM λp=>dY 0 p.1 p.2).map (λf=>f.all id) else some false)=_;by_cases h:ks.length=ms.length
 .rw[if_pos (by simpa using h)];let#[f,e,q]:=w24 ks ms h;rw[e,Yz,q]
 .rw[if_neg (by simpa using h)];have:ks≠ms:=λe=>h (by rw[e]);simp[this]
def vu3{G:Gp}{a b:Addr}{ks ms:List Int}{Q:Bool->Prop}(h1:bt (G a)=some (ks.map .int))(i:bt (G b)=some (ms.map .int))(h:Q (decide (ks=ms))): ∃n g f r,n<=40/\snap G n (.ref a)=some g/\snap G n (.ref b)=some f/\dY n g f=some r/\Q r:=#[1,_,_,_,∅,Us h1,Us i,wl2,h]
def i9(lo:Int)(n:Nat):bO lo (n+1)=.int lo::bO (lo+1) n:=by
 unfold bO;rw[B29,C0,Q1];congr 1
 .simp
 .apply M5;intro i _;show D.int _=D.int _;congr 1;simp;omega
structure ax(G G':Gp):Prop where
 kp:∀b o,G b=some o->G' b=some o
def ax.refl:ax G G:=#[λ_ _ h=>h]
def ax.trans(a:ax G G1)(b:ax G1 f):ax G f:=#[λc o h=>b.kp c o (a.kp c o h)]
def ax.new(a:ax G G1)(h:G1 p=none):ax G (aG G1 p o):=#[λb u e=>by rw[ay (aP (a.kp b u e) h)];exact a.kp b u e]
def ax.own(a:ax G G1)(h:G p=none):ax G (aG G1 p o):=#[λb u e=>by rw[ay (aP e h)];exact a.kp b u e]
theorem ax.none(a:ax G G1)(h:G1 p=none):G p=none:=by
 cases e:G p with
 | none=>rfl| some o=>rw[a.kp p o e] at h;cases h
end Rw
namespace L3
open PySem PySem.Spec PyProof.Rows L2
def PU(i j G q):gw false (.int i) (.int j) G q=q (.bl (decide (i=j))) G:=rfl
def PR(i j G q):gw true (.int i) (.int j) G q=q (.bl (!decide (i=j))) G:=rfl
def PQ(i j G q):gw false (.str i) (.str j) G q=q (.bl (decide (i=j))) G:=rfl
def PN(i j G q):gw true (.str i) (.str j) G q=q (.bl (!decide (i=j))) G:=rfl
def PL(a c G q):gw false (.ref a) (.ref c) G q=∃n g f b,n<=40/\snap G n (.ref a)=some g/\snap G n (.ref c)=some f/\dY n g f=some b/\q (.bl b) G:=rfl
def PK(a c G q):gw true (.ref a) (.ref c) G q=∃n g f b,n<=40/\snap G n (.ref a)=some g/\snap G n (.ref c)=some f/\dY n g f=some b/\q (.bl (!b)) G:=rfl
def PJ(a c G q):gw false (.tup a) (.tup c) G q=∃n g f b,n<=40/\snap G n (.tup a)=some g/\snap G n (.tup c)=some f/\dY n g f=some b/\q (.bl b) G:=rfl
def PH(a c G q):gw true (.tup a) (.tup c) G q=∃n g f b,n<=40/\snap G n (.tup a)=some g/\snap G n (.tup c)=some f/\dY n g f=some b/\q (.bl (!b)) G:=rfl
def PF(i j G q):ma (.int i) (.int j) G q=q (.int (i+j)) G:=rfl
def PD(i j G q):xa (.int i) (.int j) G q=(iV i j/\q (.int (i*j)) G):=rfl
def xg0(a k G q):xa (.ref a) (.int k) G q=(match G a with|some (.lst xs)=>(-(2^63)<=k/\k<2^63/\xs.length*k.toNat<=sizeLine)/\∀p,G p=none->q (.ref p) (aG G p (.lst (D6 k.toNat xs).flatten))|_=>False):=rfl
def xf9(i j G q):PZ (.int i) (.int j) G q=q (.bl (decide (i<j))) G:=rfl
def xf8(ds i G q):Ar (.tup ds) (.int i) G q=(match dg ds i with|some d=>q d G|none=>False):=rfl
def xf7(a i G q):Ar (.ref a) (.int i) G q=(match bt (G a) with|some ds=>(match dg ds i with|some d=>q d G|none=>False)|none=>False):=rfl
def xf6(xs G q):xb [.tup xs] G q=q (.int xs.length) G:=rfl
def xf5(a G q):xb [.ref a] G q=(match bt (G a) with|some xs=>q (.int xs.length) G|none=>False):=rfl
def PB(f i j G q):l_ f (.int i) (.int j) G q=q (.int (f i j)) G:=rfl
def Pz(C f i j G q):yS C f (.int i) (.int j) G q=(C i j/\q (.int (f i j)) G):=rfl
def Py(i j G q):ZD (.int i) (.int j) G q=q (.bl (decide (i<=j))) G:=rfl
def Px(i j G q):ZE (.int i) (.int j) G q=q (.bl (decide (j<i))) G:=rfl
def Pw(i j G q):ZF (.int i) (.int j) G q=q (.bl (decide (j<=i))) G:=rfl
def Pu(i G q):w_ (.int i) G q=q (.int (-i)) G:=rfl
def Pt(a k v G q):Aq (.ref a) (.int k) v G q=(match G a with|some (.lst ds)=>(match iO ds.length k with|some j=>q (aG G a (.lst (ds.set j v)))|none=>False)|_=>False):=rfl
def Pr(a lo hi G q):MA (.ref a) lo hi G q=(match bt (G a) with|some ds=>∀p,G p=none->q (.ref p) (aG G p (.lst (cutD ds lo hi)))|none=>False):=rfl
def Pq(ds lo hi G q):MA (.tup ds) lo hi G q=(¬ (HT.bR ds.length 0 lo=0/\HT.bR ds.length ds.length hi=ds.length)/\q (.tup (cutD ds lo hi)) G):=rfl
def Pp(x G q):Eg x .non G q=(match x with|.non=>q (.bl true) G|_=>q (.bl false) G):=rfl
def xf4(x b G q):Eg x (.bl b) G q=(match x with|.bl c=>q (.bl (decide (c=b))) G|_=>q (.bl false) G):=rfl
def xf3(x G q):MR x .non G q=(match x with|.non=>q (.bl false) G|_=>q (.bl true) G):=rfl
def xf2(x b G q):MR x (.bl b) G q=(match x with|.bl c=>q (.bl (!decide (c=b))) G|_=>q (.bl true) G):=rfl
def xf1(i G q):Av [.int i] G q=q (.int (if i<0 then -i else i)) G:=rfl
def xf0(i j G q):TB [.int i,.int j] G q=(yJ i j/\q (.tup [.int (i / j),.int (i%j)]) G):=rfl
def xe9(i j G q):xg5 [.int i,.int j] G q=q (.int (if j>i then j else i)) G:=rfl
def xe8(i j G q):Sl [.int i,.int j] G q=q (.int (if j<i then j else i)) G:=rfl
def xe7(i G q):MB [.int i] G q=q (.int i) G:=rfl
def xe6(b G q):MB [.bl b] G q=q (.int (if b then 1 else 0)) G:=rfl
def xe5(xs G q):MS [.tup xs] G q=∀p,G p=none->q (.ref p) (aG G p (.lst xs)):=rfl
def xe4(a G q):MS [.ref a] G q=(match bt (G a) with|some xs=>∀p,G p=none->q (.ref p) (aG G p (.lst xs))|none=>False):=rfl
def xe3(xs G q):MY [.tup xs] G q=q (.tup xs) G:=rfl
def xe2(a G q):MY [.ref a] G q=(match bt (G a) with|some xs=>q (.tup xs) G|none=>False):=rfl
def xe1(a G q):P_ [.ref a] G q=(match bt (G a) with|some xs=>(match Qb xs with|some bs=>q (.bl (bs.all id)) G|none=>False)|none=>False):=rfl
def xe0(x T G q):TC [x,.ty T] G q=((T = "int" \/ T = "str" \/ T = "bool" \/ T = "list" \/ T = "tuple" \/ T = "dict")/\(match Cz G x with|some n=>q (.bl (r8 n T)) G|none=>False)):=rfl
def xd9(a d G q):EJ (.ref a) [d] G q=(match G a with|some (.lst xs)=>xs.length<sizeLine/\q .non (aG G a (.lst (xs++[d])))|_=>False):=rfl
def xd8(a b G q):MF (.ref a) [.ref b] G q=(match G a,G b with|some (.lst xs),some (.lst ys)=>xs.length+ys.length<=sizeLine/\q .non (aG G a (.lst (xs++ys)))|_,_=>False):=rfl
def xd7(a G q):wi4 (.ref a) [] G q=(match G a with|some (.lst _)=>q .non (aG G a (.lst []))|_=>False):=rfl
def Vv{g h:Type}(f:g->h)(a:g)(l:List g):Cq f (a::l)=f a::Cq f l:=rfl
def Vu{h g:Type}(f:h->g):Cq f []=[]:=rfl
end L3
namespace L2
open PySem PySem.Spec PyProof.Rows
section
variable{X:Cx}{e:Expr}{st:Expr}{te:TE}{ts:TO}{pos p2:Pos}
def vb2(its:List Value):Ov its.toArray none none (some (-1))=its.reverse.toArray:=by
 unfold Ov Z6 sliceRange;simp only[Option.getD_some,show¬ ((-1:Int)>0) by decide,if_false,D9];congr 1;have u:(if(its.length:Int)-1 > -1 then((its.length:Int)-1 - -1 - -1-1) / (- -1) else 0).toNat=its.length:=by
  cases its with
  | nil=>rfl| cons x xs =>rw[if_pos (by simp;omega)];simp
 rw[u,B73];apply List.ext_getElem?;intro i;have t:∀(n:Nat) (f:Nat->Option Value),(∀k,k<n->∃v,f k=some v)->∀i,((F3 n).filterMap f)[i]?=if i<n then f i else none:=by
  intro n f h;obtain⟨g,o⟩:∃g:Nat->Value,∀k,k<n->f k=some (g k):=#[λk=>(f k).getD .none,λk j=>by let#[v,r]:=h k j;show f k=some ((f k).getD .none);rw[r];rfl];have e:(F3 n).filterMap f=(F3 n).map g:=by
   have go:∀l:List Nat,(∀k∈l,k<n)->l.filterMap f=l.map g:=by
    intro l;induction l with
    | nil=>intro _;rfl| cons k l p=>intro m;rw[Po,o k (m k C6),C0,p λz q=>m z (C2 _ q)]
   exact go _ λk j=>N7.mp j
  intro i;rw[e,F8];by_cases hi:i<n
  .rw[List.getElem?_range hi,if_pos hi,o i hi];rfl
  .rw[O8 (by simpa using hi),if_neg hi];rfl
 rw[t]
 .by_cases hi:i<its.length
  .rw[if_pos hi,YV hi];show its.toArray[((its.length:Int)-1+-1*(i:Int)).toNat]?=_;have:((its.length:Int)-1+-1*(i:Int)).toNat=its.length-1-i:=()
   rw[this];simp
  .rw[if_neg hi,O8 (by simpa using hi)]
 .intro k j;show∃v,its.toArray[((its.length:Int)-1+-1*(k:Int)).toNat]?=some v;have:((its.length:Int)-1+-1*(k:Int)).toNat=its.length-1-k:=()
  rw[this];exact#[its[its.length-1-k]'(),by simp]
def ZT(K:W.Frag)(te:TE)(ts:TO):TE:=λg H Q=>te g H λx h=>ts g h λk f=>k=some (-1)/\∃a xs,x=.ref a/\eP K f a xs/\∀p,f p=none->Q (.ref p) (upd f p (.lst xs.reverse))
def wh2(N:PE X e te)(M:PO X (some st) ts):PE X (.Subscript e (.Slice none none (some st) p2) pos) (ZT X.K te ts):=by intro pins s g H Q I h;apply Oy (aZ (N pins s g H _ I h) λv t ⟨x,S,O,u,B⟩=>?_);apply wpAny_Slice ?_;rw[Yn];apply C4 (C4 (aZ (M pins t g S _ O B) λl f ⟨k,R,I3,C,y⟩=>?_));let#[rfl,a,xs,rfl,L,q]:=y;cases u;have j:Inv X pins g R { f with heap:=f.heap.push { cls:=.type "slice",data:=.fields [.none,.none,l].toArray}}:=I3.kept (t':=f.toks) λb G q=>B8 _ q;let#[its,r,m,J]:=j.list L;have n:=r.length;show wpAny (model X.prog X.w) X.A (OP e (.Slice none none (some st) p2) (.ref a) (.ref f.heap.objs.size)) (EP X pins g Q) X.xe { f with heap:=f.heap.push { cls:=.type "slice",data:=.fields [.none,.none,l].toArray}};apply XJ (ops:=[.ref a,.ref f.heap.objs.size]) m.isList.typeIs YF.lookup ?_ (by with_unfolding_all rfl);apply wpAny_getItem_list_slice m.isList (B74 ..) .none .none C ∅ ?_ (by rw[D9] <;> omega);rw[vb2];apply#[.ref _,_,j.laid (t':=f.toks) (o:=.lst xs.reverse) (λb G q=>B8 _ q) (B9 _) ?_,rfl,q _ (j.aE.fresh (B9 _))];exact#[by rw[Q8];exact J,_,0,r.reverse,E1 _ rfl]
end
end L2
namespace L3
open PySem PySem.Spec PyProof.Rows L2
section
variable{X:Cx}{e:Expr}{te:bu}{pos p2 p3 p4:Pos}{K:W.Frag}{σ:L2.St}{H:Hp}{Q:VK}
def Qg(te:bu):bu:=λσ G q=>te σ G λx f=>match x with
 | .ref a=>(match bt (f a) with|some g=>∀p,f p=none->q (.ref p) (aG f p (.lst g.reverse))|none=>False)
 | _=>False
def vs3(h:aH K (Qg te) σ H Q):ZT K (aH K te) (sm K (Ma (Od w_ (dC (.int 1))))) σ H Q:=by
 let#[g,G,q,k,c,t,f]:=h;apply#[g,G,_,k,c,t,λx n v I u c1 l i=>#[g,n,λo m=>o=some (-1)/\m=n,k.le l,c1,#[rfl,rfl],λo m E c2 A B=>?_]];let#[rfl,rfl]:=B;apply#[rfl,?_];split at i
 .rename_i a;split at i
  .rename_i C e;let#[xs,r,y]:=eR c2 e;exact#[a,xs,u.aj,r,λp j=>f _ _ _ _ ae.eW (c2.cG j y.reverse) ((l.trans A).trans (Le.fresh j)) (i p (c2.fresh j))]
  .exact i.elim
 .exact i.elim
def xa7(f:E3 X e te):E3 X (.Subscript e (.Slice none none (some (.UnaryOp .USub (.Constant (.int 1) k p3) p4)) p2) pos) (Qg te):=dH (wh2 f (EB (sF Ew aA))) λ_ _ _=>vs3
end
def strsOf:List D->Option (List Str)
 | []=>some []| .str x::r=>(strsOf r).map (x::·)| _=>none
def intsOf:List D->Option (List Int)
 | []=>some []| .int x::r=>(intsOf r).map (x::·)| _=>none
section
variable{X:Cx}{K:W.Frag}{H:Hp}
theorem Uy:∀{ds:List D} {f:List Str} {vs:List V},strsOf ds=some f->ag K H ds vs->vs=f.map V.str
 | [],f,vs,e,r=>by cases e;rw[r.aY];rfl
 | .str b::ds,f,vs,e,r=>by let#[x,xs,rfl,i,h]:=r.au;let#[g,j,rfl]:=E8.mp (show(strsOf ds).map (b::·)=some f from e);rw[i.str_inv,Uy j h];rfl| .non::_,_,_,e,_=>by cases e
 | .bl _::_,_,_,e,_=>by cases e
 | .int _::_,_,_,e,_=>by cases e
 | .tup _::_,_,_,e,_=>by cases e
 | .ref _::_,_,_,e,_=>by cases e
 | .ty _::_,_,_,e,_=>by cases e
theorem Uv:∀{ds:List D} {f:List Int} {vs:List V},intsOf ds=some f->ag K H ds vs->vs=f.map V.int
 | [],f,vs,e,r=>by cases e;rw[r.aY];rfl
 | .int b::ds,f,vs,e,r=>by let#[x,xs,rfl,i,h]:=r.au;let#[g,j,rfl]:=E8.mp (show(intsOf ds).map (b::·)=some f from e);rw[i.int_inv,Uv j h];rfl| .non::_,_,_,e,_=>by cases e
 | .bl _::_,_,_,e,_=>by cases e
 | .str _::_,_,_,e,_=>by cases e
 | .tup _::_,_,_,e,_=>by cases e
 | .ref _::_,_,_,e,_=>by cases e
 | .ty _::_,_,_,e,_=>by cases e
def vg2{w:Str}{f:List Str}:Ds (V.str w) (f.map V.str)=decide (w∈f):=by
 unfold Ds;induction f with
 | nil=>rfl| cons x xs g =>
  rw[C0,O0,g];show((x==w)||decide (w∈xs))=_;by_cases h:x=w
  .subst h;simp
  .have i:¬ w=x:=λe=>h e.symm;have:(x==w)=false:=by simpa using h
   rw[this];simp[i]
def vg3{w:Int}{f:List Int}:Ds (V.int w) (f.map V.int)=decide (w∈f):=by
 unfold Ds;induction f with
 | nil=>rfl| cons x xs g =>
  rw[C0,O0,g];show((x==w)||decide (w∈xs))=_;by_cases h:x=w
  .subst h;simp
  .have i:¬ w=x:=λe=>h e.symm;have:(x==w)=false:=by simpa using h
   rw[this];simp[i]
theorem Uo:∀f:List Str,(f.map V.str).all tG=true
 | []=>rfl| _::f=>by rw[C0,W8,Uo f];rfl
theorem Um:∀f:List Int,(f.map V.int).all tG=true
 | []=>rfl| _::f=>by rw[C0,W8,Um f];rfl
def g_(neg:Bool):R3:=λx y G q=>match x,y with
 | .str w,.tup g=>(match strsOf g with|some f=>q (.bl (if neg then !decide (w∈f) else decide (w∈f))) G|none=>False)
 | .str w,.ref a=>(match bt (G a) with|some g=>(match strsOf g with|some f=>q (.bl (if neg then !decide (w∈f) else decide (w∈f))) G|none=>False)|none=>False)
 | .int w,.tup g=>(match intsOf g with|some f=>q (.bl (if neg then !decide (w∈f) else decide (w∈f))) G|none=>False)
 | .int w,.ref a=>(match bt (G a) with|some g=>(match intsOf g with|some f=>q (.bl (if neg then !decide (w∈f) else decide (w∈f))) G|none=>False)|none=>False)
 | _,_=>False
def w16{neg:Bool}{x y:V}{Q:VK}(h:lF K (g_ neg) x y H Q):UT K neg x y H Q:=by
 let#[d,e,G,q,m,l,c,t,f]:=h;unfold g_ at t;cases d <;> cases e <;> first|exact t.elim|dsimp only at t
 .rename_i w n;split at t
  .rename_i g k;let#[a,xs,rfl,i,j]:=l.aO;cases m.int_inv;obtain rfl:=Uv k j;exact#[a,_,rfl,.inr i,rfl,Um g,f _ _ _ _ (by rw[vg3];exact ae.lY) c (Le.refl H) t]
  .exact t.elim
 .rename_i w a;split at t
  .rename_i n eq;split at t
   .rename_i g k;let#[xs,i,j]:=eR c eq;cases m.int_inv;obtain rfl:=Uv k j;exact#[a,_,l.aj,.inl i,rfl,Um g,f _ _ _ _ (by rw[vg3];exact ae.lY) c (Le.refl H) t]
   .exact t.elim
  .exact t.elim
 .rename_i w n;split at t
  .rename_i g k;let#[a,xs,rfl,i,j]:=l.aO;cases m.str_inv;obtain rfl:=Uy k j;exact#[a,_,rfl,.inr i,rfl,Uo g,f _ _ _ _ (by rw[vg2];exact ae.lY) c (Le.refl H) t]
  .exact t.elim
 .rename_i w a;split at t
  .rename_i n eq;split at t
   .rename_i g k;let#[xs,i,j]:=eR c eq;cases m.str_inv;obtain rfl:=Uy k j;exact#[a,_,l.aj,.inl i,rfl,Uo g,f _ _ _ _ (by rw[vg2];exact ae.lY) c (Le.refl H) t]
   .exact t.elim
  .exact t.elim
def tD(_:aQ k A):fG X (K2 .In) (g_ false):=rZ vc1 λ_ _ _ _ h=>w16 h
def w38(_:aQ k A):fG X (K2 .NotIn) (g_ true):=rZ us2 λ_ _ _ _ h=>w16 h
end
end L3
namespace L2
open PySem PySem.Spec PyProof.Rows
def Xz(K:W.Frag)(a:Addr):It:=#[λi H=>∃xs x,eP K H a xs/\xs[i]?=some x,λi H v f=>∃p x,v=.ref p/\H p=none/\f=upd H p (.tup [.int (i:Int),x])/\∀xs,eP K H a xs->xs[i]?=some x,λi H=>∃xs,eP K H a xs/\xs.length<=i]
def Inv.xE{h':Heap}(I:Inv X pins l H s)(k:∀b o,b≠e->b≠it->s.heap.get? b=some o->h'.get? b=some o) (f:∀b∈[e,it],iB X pins H b) (new:bg X.prog X.w (upd H s.heap.objs.size o) h' s.heap.objs.size o):Inv X pins l (upd H s.heap.objs.size o) { s with heap:=h',toks:=t'}:=by
 have t:H s.heap.objs.size=none:=I.aE.fresh (B9 _);have f1:=f e (by simp);have f2:=f it (by simp);have old:∀b u,H b=some u->b≠s.heap.objs.size:=λb u q z=>by rw[z,t] at q;cases q
 have j:∀b u,H b=some u->b≠e/\b≠it:=λb u q=>#[λz=>(by rw[z,f1.1] at q;cases q),λz=>(by rw[z,f2.1] at q;cases q)];have h:∀{b:Addr},b∉[e,it]->b≠e/\b≠it:=λg=>#[λz=>g (by simp[z]),λz=>g (by simp[z])];apply I.step (g':=s.gens) (d':=s.drawn) (ch:=[e,it]) (λb i=>?_) (λb o _ _ g q _=>k b o (h g).1 (h g).2 q) (λb o _ _ g q _=>#[o.slots,k b o (h g).1 (h g).2 q]) (λb u _ q n=>?_)
  (λb o g q=>#[o,k b o (h g).1 (h g).2 q]) (λb xs q=>?_) (λb o u q=>?_) (λb G q=>#[[].toArray,?_]) (λm x=>?_) (λb u q=>?_) I.bare
 .let#[J,g1,g2,g3,B,A]:=f b i;exact#[g3,g1,B,A]
 .rw[cU (J0 (D5 q))];exact n
 .rw[cU (old b _ q)];exact q
 .rw[cU (old b _ q)];exact q
 .rw[cU (old b _ q),q];simp
 .let#[o,C,E,p,r]:=x;exact#[o,C,E,k _ o (D2 f1.2.1) (D2 f2.2.1) p,r]
 .by_cases i:b=s.heap.objs.size
  .subst i;rw[hJ] at q;cases q;exact new
  .rw[cU i] at q;apply(I.aE b u q).fZ (λc v g z=>?_) (λc z=>by rw[cU (old c _ z)];exact z) (λc xs z=>by rw[cU (old c _ z)];exact z) λc _ _ z=>by rw[cU (old c _ z)];exact z
   rcases g with y|y
   .subst y;exact k _ v (j _ u q).1 (j _ u q).2 z
   .exact k c v (j c _ y).1 (j c _ y).2 z
def v84{P:Program}{w:World}{K:W.Frag}{m:List Expr}{x1}{pos:Pos}(a e it:Addr)(S:e≠it):Turn P w K (.Tuple m x1 pos) (Xz K a) [e,it] e (λi h=>(∃old,IsEnum h e it (i:Int) old)/\h.IsListIter it a i) where
 mem:=by simp
 obj:=λi h st b j=>by
  let#[#[old,f],g]:=st;rcases D4.mp j with q|q
  .subst q;exact⟨_,f,λv z=>by have Y:C84 _=D20 v:=z;cases Y⟩
  .have q:b=it:=by simpa using q
   subst q;let#[o,e,c,d]:=g;exact#[o,e,λv z=>by rw[d] at z;cases z]
 keep:=λi h h' st k=>#[st.1.elim λold q=>#[old,k e (by simp) _ q],st.2.at λo q=>k it (by simp) o q]
 item:=by
  intro X M hw N Q i pins s U H E I t st L;subst M hw N;let#[#[old,f],g]:=st;let#[xs,x,r,B]:=L;let#[its,A,p,hz]:=I.list r;let#[u,hu,ru]:=A.get B;have l:e<s.heap.objs.size:=D5 f;have hn:H s.heap.objs.size=none:=I.aE.fresh (B9 _);apply wpAny_pyNext_enum_item f g p.isList (x:=u) (by simpa using hu) S λh1 ho Ws G Bt J=>?_;apply#[_,rfl,wpAny_letOwnedTupleGo_enum ho λR IV n=>?_];replace n:U4 e h1 R:=n;have IP:∀b o,b≠e->b≠it->s.heap.get? b=some o->R.get? b=some o:=λb o O Z q=>(n.2 b O).trans (J b o O Z q);have C:=(n.2 s.heap.objs.size (Y0 l)).trans G;apply#[.ref s.heap.objs.size,upd H s.heap.objs.size (.tup [.int (i:Int),x]),I.xE (t':=s.toks+1) IP t ?_,rfl,#[_,x,rfl,hn,rfl,λys hy=>by rw[I.jg hy r];exact B],#[#[u,by simpa using IV],?_],λb j=>?_]
  .exact#[show 2<=sizeLine by decide,[.int i s.toks,u],.cons #[s.toks,rfl] (.cons ru .nil),#[_,C,rfl,#[_,rfl],rfl]]
  .exact Ws.at λo q=>(n.2 it (D2 S)).trans q
  .rw[cU ?_];exact(t b j).1;intro z;rcases D4.mp j with q|q
   .exact J0 l (q▸z)
   .have q:b=it:=by simpa using q
    let#[o,y,_]:=g;exact J0 (D5 y) (q▸z)
 done:=by intro X M hw N Q i pins s U H E I t st L;subst M hw N;let#[#[old,f],g]:=st;let#[xs,r,B]:=L;let#[its,A,p,hz]:=I.list r;let#[f0,f1,f2,f3,f4,f5]:=t it (by simp);have hl:=A.length;exact wpAny_pyNext_enum_end (I.ok.hd Q) f g p.isList (by simp;omega) λh' eb=>#[rfl,I.turned (t':=s.toks) (λb o j q=>eb b o j q) f0 f1 f3 f4 f5]
 self:=λ_ _ _ _ _ st h=>st.1.elim λ_ q=>wpAny_pyIter_enum q h
def ZI(K:W.Frag)(i:TA):TI:=λg H R=>i g H λh f=>∃a,h=[.ref a]/\(∃xs,eP K f a xs)/\R (Xz K a) f
def vk2:Q5 "enumerate" = some (.type "enumerate"):=∅
def wf9{X:Cx}{g:List Expr}{u}{C:Pos}{a:Expr}{n:TA}{p pos:Pos}(M:Gl X "enumerate")(J:X.mg "enumerate" = none)(N:PA X [a] n)(E:D0 [a] X.env=[(false,eval a X.env)]:=by rfl):
  PI X (.Tuple g u C) (.Call (.Name "enumerate" p) [a] [] pos) (ZI X.K n):=by
 intro pins s m H R I h;apply Call_ (rX I M J vk2 (J6 (aZ (N pos pins s m H _ I h) λU f ⟨S,t,j,y,A⟩=>?_) E rfl));let#[l,e,#[xs,G],q]:=A;subst e;cases y with
 | cons r x =>
  cases x;cases r;let#[its,Z,B,hz]:=j.list G;apply call_enumerate_list B.isList λO o k hsz L=>?_;apply wpAny_pyIter_enum o ?_;have Q:Inv X pins m t { f with heap:=O}:=j.kept (t':=f.toks) L;apply#[f.heap.objs.size+1,[f.heap.objs.size+1,f.heap.objs.size],_,_,t,rfl,Q,v84 l _ _ (Nat.succ_ne_self _),#[#[.none,o],k],λb i=>?_,q];have i:f.heap.objs.size<=b:=by
   rcases D4.mp i with z|z
   .rw[z];exact U8 _
   .have e:b=f.heap.objs.size:=by simpa using z
    rw[e];exact B9 _
  exact j.qh i (j.aE.fresh i)
end L2
namespace L3
open PySem PySem.Spec PyProof.Rows L2
def wN:Nat->List D->List D
 | _,[]=>[]| i,d::r=>.tup [.int (i:Int),d]::wN (i+1) r
theorem Ut:∀{i:Nat} {ds:List D},(wN i ds).length=ds.length
 | _,[]=>rfl| _,_::r=>by show(wN _ r).length+1=r.length+1;rw[Ut]
theorem vh5:∀{j i:Nat} {ds:List D} {d:D},ds[i]?=some d->(wN j ds)[i]?=some (.tup [.int ((j+i:Nat):Int),d])
 | j,0,d::r,_,h=>by cases h;rfl
 | j,i+1,d::r,e,h=>by have:=vh5 (j:=j+1) (i:=i) (ds:=r) (d:=e) (by simpa using h);show(wN (j+1) r)[i]?=_;rw[this,show j+1+i=j+(i+1) by omega]| _,_,[],_,h=>by simp at h
def v53{K:W.Frag}{h:Hp}{a:Addr}{ds:List D}:jy K h #[wN 0 ds,λG=>bt (G a)=some ds] (Xz K a) where
 go:=λi G H l c ok hi=>by let#[xs,s,r]:=eR c ok;rw[Ut] at hi;exact#[xs,xs[i]'(by rw[<- r.length];exact hi),s,B6 _]
 stop:=λi G H l c ok hi=>by let#[xs,s,r]:=eR c ok;rw[Ut] at hi;exact#[xs,s,by rw[<- r.length];exact hi]
 qx:=λi G H x k l c ok hi y=>by let#[p,v,rfl,f,rfl,y]:=y;let#[xs,s,r]:=eR c ok;let#[d,g,rd]:=r.at_ (y xs s);apply#[c.side f,Le.fresh f,.tup [.int (i:Int),d],by rw[vh5 g,U6],?_];rw[ae];exact#[p,_,rfl,eC.of hJ,.cons ae.cY (.cons (ae.le (Le.fresh f) rd) .nil)]
def Es(t:fk):tw:=λh G r=>t h G λf g=>match f with
 | [.ref a]=>(match bt (g a) with|some f=>r #[wN 0 f,λG=>bt (G a)=some f] g|none=>False)
 | _=>False
def ve0{K:W.Frag}{t:fk}{j:L2.St}{H:Hp}{R:It->Hp->Prop}(h:pZ K (Es t) j H R):ZI K (eK K t) j H R:=by
 let#[i,G,q,m,c,t,f]:=h;apply#[i,G,_,m,c,t,λp y r x n c1 o g=>?_];split at g
 .rename_i a;split at g
  .rename_i p e;let#[v,rfl,l]:=n.one;cases l.aj;let#[xs,k,u]:=eR c1 e;exact#[a,rfl,#[xs,k],f _ _ _ _ v53 c1 o g]
  .exact g.elim
 .exact g.elim
def Uz{g}(k:Gl X "enumerate")(j:X.mg "enumerate" = none)(l:A3 X [a] h)(i:D0 [a] X.env=[(false,eval a X.env)]:=by rfl):
  I3 X (.Tuple f g m) (.Call (.Name "enumerate" p) [a] [] pos) (Es h):=CF (wf9 k j l i) λ_ _ _=>ve0
end L3
namespace L2
open PySem PySem.Spec PyProof.Rows
def Xw(K:W.Frag)(a:Addr)(n:Nat):It:=#[λi H=>i<n/\∃xs,eP K H a xs/\xs.length=n,λi H x f=>f=H/\∀xs,eP K H a xs->xs[n-1-i]?=some x,λi _=>n<=i]
def vm9{P:Program}{w:World}{K:W.Frag}{tg:Expr}(a it:Addr)(n:Nat):Turn P w K tg (Xw K a n) [it] it (λi h=>i<=n/\h.IsRevIter it a ((n:Int)-1-(i:Nat))) where
 mem:=by simp
 obj:=λi h st b f=>by
  have e:b=it:=by simpa using f
  subst e;let#[o,e,c,d]:=st.2;exact#[o,e,λv z=>by rw[d] at z;cases z]
 keep:=λi h m st k=>#[st.1,st.2.at λo e=>k it (by simp) o e]
 item:=by
  intro X r hw t Q i pins s J H E I l st j;subst r hw t;let#[hi,xs,O,hn]:=j;let#[its,L,p,hz]:=I.list O;have hl:=L.length;let#[C,f1,f2,B,A,y]:=l it (by simp);have N:xs[n-1-i]?=some (xs[n-1-i]'()):=B6 _;let#[u,hu,U]:=L.get N;have G:(n:Int)-1-(i:Nat)=((n-1-i:Nat):Int):=()
  have g:=st.2;rw[G] at g;apply wpAny_pyNext_rev_item g p.isList (x:=u) (by simpa using hu) λm M S=>?_;have I1:Inv X pins J H { s with heap:=m}:=I.turned (t':=s.toks) (λb o f e=>(S.2 b f).trans e) C f1 B A y;let#[o,e,c,d]:=id M;apply#[u,rfl,Eo (s:={ s with heap:=m}) e c d ∅ #[_,H,I1,U,#[rfl,λys Z=>by rw[I.jg Z O];exact N],#[(),?_],λb f=>(l b f).1]];have e2:(n:Int)-1-((i+1:Nat):Int)=((n-1-i:Nat):Int)-1:=()
  rw[e2];exact M
 done:=by
  intro X r hw t Q i pins s J H E I l st j;subst r hw t;have j:n<=i:=j;let#[C,f1,f2,B,A,y]:=l it (by simp);have G:(n:Int)-1-(i:Nat)=-1:=by have:=st.1;omega
  have g:=st.2;rw[G] at g;exact wpAny_pyNext_rev_end (I.ok.hd Q) g λm eb=>#[rfl,I.turned (t':=s.toks) (λb o f q=>eb b o f q) C f1 B A y]
 self:=λ_ _ _ _ _ st h=>wpAny_pyIter_revIter st.2 h
def H_(K:W.Frag)(i:TA):TI:=λg H R=>i g H λh f=>∃a xs,h=[.ref a]/\eP K f a xs/\R (Xw K a xs.length) f
def wv9{X:Cx}{tg:Expr}{a:Expr}{j:TA}{p pos:Pos}(C:Gl X "reversed")(B:X.mg "reversed" = none)(G:PA X [a] j)(y:D0 [a] X.env=[(false,eval a X.env)]:=by rfl):
  PI X tg (.Call (.Name "reversed" p) [a] [] pos) (H_ X.K j):=by
 intro pins s i H R I h;apply Call_ (rX I C B boot_reversed (J6 (aZ (G pos pins s i H _ I h) λN f ⟨M,k,g,t,u⟩=>?_) y rfl));let#[l,xs,e,A,q]:=u;subst e;cases t with
 | cons r n =>
  cases n;cases r;let#[its,m,x,Q]:=g.list A;have S:=m.length;apply call_reversed_list x.isList ?_;have st:(f.heap.push (revObj l ((its.toArray.size:Int)-1))).IsRevIter f.heap.objs.size l ((its.toArray.size:Int)-1):=#[_,E1 _ rfl,rfl,rfl];have L:Inv X pins i k { f with heap:=f.heap.push (revObj l ((its.toArray.size:Int)-1))}:=g.kept (t':=f.toks) λb o e=>B8 _ e;apply wpAny_pyIter_revIter st ?_;apply#[f.heap.objs.size,[f.heap.objs.size],_,_,k,rfl,L,vm9 l _ xs.length,#[J8 _,?_],λb E=>?_,q]
  .have J:(xs.length:Int)-1-((0:Nat):Int)=(its.toArray.size:Int)-1:=by simp;omega
   rw[J];exact st
  .have e:b=f.heap.objs.size:=by simpa using E
   subst e;exact g.qh (B9 _) (g.aE.fresh (B9 _))
end L2
namespace L3
open PySem PySem.Spec PyProof.Rows L2
def vf9{K:W.Frag}{h:Hp}{a:Addr}{ds:List D}{n:Nat}(f:ds.length=n):jy K h #[ds.reverse,λG=>bt (G a)=some ds] (Xw K a n) where
 go:=λi G H l c ok hi=>by let#[xs,s,r]:=eR c ok;rw[Q8] at hi;exact#[(),xs,s,by rw[<- r.length];exact f]
 stop:=λi G H l c ok hi=>by rw[Q8] at hi;show n<=i;omega
 qx:=λi G H x k l c ok hi y=>by let#[rfl,y]:=y;let#[xs,s,r]:=eR c ok;rw[Q8] at hi;let#[d,g,rd]:=r.at_ (y xs s);apply#[c,Le.refl _,d,?_,rd];rw[YV hi,f];exact g
def Ax(t:fk):tw:=λh G r=>t h G λf g=>match f with
 | [.ref a]=>(match bt (g a) with|some f=>r #[f.reverse,λG=>bt (G a)=some f] g|none=>False)
 | _=>False
def vq4{K:W.Frag}{t:fk}{j:L2.St}{H:Hp}{R:It->Hp->Prop}(h:pZ K (Ax t) j H R):H_ K (eK K t) j H R:=by
 let#[i,G,q,m,c,t,f]:=h;apply#[i,G,_,m,c,t,λr y u x n c1 p g=>?_];split at g
 .rename_i a;split at g
  .rename_i r e;let#[v,rfl,l]:=n.one;cases l.aj;let#[xs,k,o]:=eR c1 e;exact#[a,xs,rfl,k,f _ _ _ _ (vf9 o.length) c1 p g]
  .exact g.elim
 .exact g.elim
def v55(i:Gl X "reversed")(h:X.mg "reversed" = none)(j:A3 X [a] f)(g:D0 [a] X.env=[(false,eval a X.env)]:=by rfl):
  I3 X tg (.Call (.Name "reversed" p) [a] [] pos) (Ax f):=CF (wv9 i h j g) λ_ _ _=>vq4
end L3
namespace Law
open PySem L2 L3 Rw
def mm(h:0<=v):∃x:Nat,v=(x:Int):=#[v.toNat,()]
def wu5{m:Nat}(h:m<=100000):-(2^62)<=(m:Int)/\(m:Int)<2^62:=#[(),()]
structure cq(G:Gp)(st:Addr):Prop where
 ex:∃(a:Addr) (ns:List Int) (k r:Int),G st=some (.lst [.ref a,.int k,.int r])/\G a=some (.sE (ns.map .int))/\0<=k/\0<=r/\a≠st/\ns.length<=63
structure cC(st:Addr)(G G':Gp):Prop where
 at_:cq G' st
 kp:∀b o,b≠st->G b=some o->G' b=some o
structure uG(a:Addr)(bs:List Int)(G G':Gp):Prop where
 at_:G' a=some (.lst (bs.map .int))
 kp:∀b,b≠a->G' b=G b
def cn(f g:Addr)(s:Nat):List (Str×D):=[("rows",.ref f),("held",.ref g),("spot",.int (s:Int))]
structure aX(C:Addr)(G:Gp)(p ra ha:Addr)(rs:List Row)(bs:List Int)(s:Nat):Prop where
 ob:G p=some (.ins C (cn ra ha s))
 ro:G ra=some (.lst (rs.map Row.d))
 he:G ha=some (.lst (bs.map .int))
 ne:ra≠ha
structure i7(sz:Nat)(rs:List Row)(bs:List Int)(s:Nat):Prop where
 bo:dA sz bs
 ro:∀r∈rs,r.ok sz
 le:s<=rs.length
def bQ(rs:List Row)(bs:List Int)(s:Nat):Bool:=match rs[s]? with
 | none=>false| some (.aT x n _)=>!decide (gt bs x=n)| some _=>true
def cF(rs:List Row)(bs:List Int)(s:Nat):Bool:=if s=0 then false else match rs[s-1]? with
 | none=>false| some (.go x n _)=>!decide (gt bs x=n)| some _=>true
def cP(rs:List Row)(bs:List Int)(s:Nat):Nat×List Int:=match rs[s]? with
 | some (.go x n k)=>if gt bs x=n then(k+1,bs) else(s+1,bs)| some r=>(s+1,df 1 bs r)| none=>(s,bs)
def dF(rs:List Row)(bs:List Int)(s:Nat):Nat×List Int:=match rs[s-1]? with
 | some (.aT x n k)=>if gt bs x=n then(k,bs) else(s-1,bs)| some r=>(s-1,df (-1) bs r)| none=>(s,bs)
def aX.pr(h:aX C G p f g rs bs s):p≠f:=by intro e;have:=h.ob;rw[e,h.ro] at this;cases this
def aX.ph(h:aX C G p g f rs bs s):p≠f:=by intro e;have:=h.ob;rw[e,h.he] at this;cases this
def cq.new(h:cq G st)(f:G p=none):cq (aG G p o) st:=by let#[a,j,k,r,i,g,l]:=h.ex;exact#[a,j,k,r,by rw[ay (aP i f)];exact i,by rw[ay (aP g f)];exact g,l]
def cq.ne(h:cq G st)(f:G p=none):p≠st:=by let#[a,i,k,r,g,l,j]:=h.ex;exact D2 (aP g f)
def cq.set(h:cq G st)(i:G p=some (.lst xs))(m:p≠st):cq (aG G p (.lst ys)) st:=by
 let#[a,g,k,r,l,f,j]:=h.ex;have:a≠p:=by intro e;rw[e,i] at f;cases f
 exact#[a,g,k,r,by rw[ay (D2 m)];exact l,by rw[ay this];exact f,j]
def cC.refl(h:cq G st):cC st G G:=#[h,λ_ _ _ e=>e]
def cC.trans(a:cC st G G1)(b:cC st G1 g):cC st G g:=#[b.at_,λc o f e=>b.kp c o f (a.kp c o f e)]
theorem cC.new(a:cC st G G1)(f:G1 p=none):cC st G (aG G1 p o):=#[a.at_.new f,λc u g e=>by rw[ay (aP (a.kp c u g e) f)];exact a.kp c u g e]
def cC.own(a:cC st G G1)(f:G p=none)(h1:G1 p=some (.lst xs))(h:p≠st):cC st G (aG G1 p (.lst ys)):=#[a.at_.set h1 h,λc u g e=>by rw[ay (aP e f)];exact a.kp c u g e]
theorem cC.none(a:cC st G G1)(f:G1 p=none)(g:p≠st):G p=none:=by
 cases e:G p with
 | none=>rfl| some o=>rw[a.kp p o g e] at f;cases f
def FH(rs:List Row)(bs:List Int):List Int:=rs.foldl (df 1) bs
def FI(rs:List Row)(bs:List Int):List Int:=rs.reverse.foldl (df (-1)) bs
theorem vz8:∀{rs:List Row} {bs:List Int},dA sz bs->(∀r∈rs,r.ok sz)->dA sz (rs.foldl (df s) bs)
 | [],_,h,_=>h| r::rs,bs,h,f=>vz8 (rs:=rs) (My h (f r C6)) λq g=>f q (C2 _ g)
theorem tQ:∀{rs:List Row} {bs:List Int},dA sz bs->(∀r∈rs,r.ok sz)->FH rs (FI rs bs)=bs
 | [],_,_,_=>rfl| r::rs,bs,h,i=>by unfold FH FI;rw[T9,List.foldl_append,Y6,Y6,List.foldl_nil];have f:∀q∈rs,q.ok sz:=λq g=>i q (C2 _ g);have j:dA sz (rs.reverse.foldl (df (-1)) bs):=vz8 h λq g=>f q (Pd.mp g);have:=Ud (s:=-1) (.inr rfl) j (i r C6);rw[show(-(-1):Int)=1 from rfl] at this;rw[this];exact tQ h f
def SO{rs:List Row}(h:s<rs.length)(f:rs[s].plain=true):bQ rs bs s=true/\cP rs bs s=(s+1,df 1 bs rs[s]):=by have g:=B6 h;revert f;unfold bQ cP;rw[g];cases rs[s] <;> intro f <;> first|exact⟨rfl,rfl⟩|cases f
def w02{rs:List Row}(h:s<rs.length)(f:rs[s].plain=true):cF rs bs (s+1)=true/\dF rs bs (s+1)=(s,df (-1) bs rs[s]):=by have g:=B6 h;revert f;unfold cF dF;rw[if_neg (),L5,g];cases rs[s] <;> intro f <;> first|exact⟨rfl,rfl⟩|cases f
def aX.grow(h:aX C G p f i rs bs s)(g:ax G j):aX C j p f i rs bs s:=⟨g.kp _ _ h.ob,g.kp _ _ h.ro,g.kp _ _ h.he,h.ne⟩
structure Kept(p ha:Addr)(G G':Gp):Prop where
 kp:∀b o,b≠p->b≠ha->G b=some o->G' b=some o
def Kept.refl:Kept p f G G:=⟨λ_ _ _ _ h=>h⟩
def Kept.trans(a:Kept p f G G1)(b:Kept p f G1 j):Kept p f G j:=⟨λc o i g h=>b.kp c o i g (a.kp c o i g h)⟩
def Kept.grow(a:Kept p f G G1)(b:ax G1 j):Kept p f G j:=⟨λc o i g h=>b.kp c o (a.kp c o i g h)⟩
def Kept.eqs(a:Kept p f G G1)(b:∀c,c≠p->c≠f->j c=G1 c):Kept p f G j:=⟨λc o i g h=>by rw[b c i g];exact a.kp c o i g h⟩
theorem Kept.none(a:Kept p f G G1)(h1:q≠p)(g:q≠f)(h:G1 q=none):G q=none:=by
 cases e:G q with
 | none=>rfl| some o=>rw[a.kp q o h1 g e] at h;cases h
end Law
namespace Rw
open PySem L2 L3
theorem v06{i j:Type}{f:i->Option j}:∀{xs:List i},(∀x∈xs,∃y,f x=some y)->∃ys,xs.mapM f=some ys
 | [],_=>#[[],rfl]| x::xs,h=>by let#[y,l]:=h x C6;let#[ys,g]:=v06 (xs:=xs) λz k=>h z (C2 _ k);exact#[y::ys,by rw[U9,l,g];rfl]
theorem TR:∀{ys:List Sn},(∀y∈ys,dY n y y=some true)->∃bs,((ys.zip ys).mapM λp=>dY n p.1 p.2)=some bs/\bs.all id=true
 | [],_=>#[[],rfl,rfl]| y::ys,h=>by let#[bs,e,q]:=TR (ys:=ys) λz f=>h z (C2 _ f);apply#[true::bs,?_,by rw[W8,q];rfl];rw[N6,U9,e,h y C6];rfl
theorem TU{l k:Type}{f:l->Option k}:∀{xs:List l} {ys:List k},xs.mapM f=some ys->∀y∈ys,∃x,f x=some y
 | [],ys,h,y,g=>by
  have:ys=[]:=by simpa using h.symm
  subst this;cases g
 | x::xs,ys,h,y,g=>by
  rw[U9] at h;cases i:f x with
  | none=>rw[i] at h;cases h
  | some z =>
   rw[i] at h;cases j:xs.mapM f with
   | none=>rw[j] at h;cases h
   | some r =>
    rw[j] at h;have e:z::r=ys:=D8 h;subst e;rcases D4.mp g with rfl|q
    .exact⟨x,i⟩
    .exact TU j y q
theorem Tf{G:Gp}:∀(n:Nat) {d:D} {s:Sn},snap G n d=some s->dY n s s=some true
 | n,.non,s,h=>by cases n <;> (cases h;rfl)
 | n,.bl b,s,h=>by cases n <;> (cases h;cases b <;> rfl)
 | n,.int i,s,h=>by cases n <;> (cases h;simp[dY,gy,DB])
 | n,.str i,s,h=>by cases n <;> (cases h;simp[dY,gy,DB])
 | n,.ty _,s,h=>by cases n <;> cases h
 | 0,.tup _,s,h=>by cases h
 | 0,.ref _,s,h=>by cases h
 | n+1,.tup j,s,h=>by
  let#[f,e,rfl]:=E8.mp (show(j.mapM (snap G n)).map Sn.tup=some s from h);let#[g,m,q]:=TR (n:=n) (ys:=f) λy k=>by let#[x,l]:=TU e y k;exact Tf n l
  show(if f.length=f.length then((f.zip f).mapM λp=>dY n p.1 p.2).map (λg=>g.all id) else none)=_;rw[if_pos rfl,m,Yz,q]
 | n+1,.ref a,s,h=>by
  let#[j,o,h]:=Zb.mp (show((bt (G a)).bind λj=>(j.mapM (snap G n)).map Sn.lst)=some s from h);let#[f,e,rfl]:=E8.mp h;let#[g,m,q]:=TR (n:=n) (ys:=f) λy k=>by let#[x,l]:=TU e y k;exact Tf n l
  show(if f.length=f.length then((f.zip f).mapM λp=>dY n p.1 p.2).map (λg=>g.all id) else some false)=_;rw[if_pos rfl,m,Yz,q]
def bT{G:Gp}{n:Nat}{ds:List D}(h:∀d∈ds,∃s,snap G n d=some s):∃s,snap G (n+1) (.tup ds)=some s:=by let#[f,e]:=v06 h;exact#[.tup f,by show(ds.mapM (snap G n)).map Sn.tup=_;rw[e];rfl]
def uz3:∃s,snap G n (.int i)=some s:=by cases n <;> exact#[_,rfl]
def vn3:∃s,snap G n (.str i)=some s:=by cases n <;> exact#[_,rfl]
def all1{p:D->Prop}{a:D}(h:p a):∀d∈[a],p d:=λd f=>by cases F4.mp f;exact h
def all2{p:D->Prop}{a:D}{r:List D}(h:p a)(f:∀d∈r,p d):∀d∈a::r,p d:=λd g=>by
 rcases D4.mp g with rfl|q
 .exact h
 .exact f d q
def bU(h:bt (G a)=bt (G b)):snap G n (.ref a)=snap G n (.ref b):=by
 cases n with
 | zero=>rfl| succ n=>show((bt (G a)).bind _)=((bt (G b)).bind _);rw[h]
end Rw
namespace Law
open PySem L2 L3 Rw
structure Pairs(rs:List Row):Prop where
 go:∀(j x:Nat) (n:Int) (k:Nat),rs[j]?=some (Row.go x n k)->rs[k]?=some (.aT x n j)
 co:∀(j x:Nat) (n:Int) (k:Nat),rs[j]?=some (Row.aT x n k)->rs[k]?=some (.go x n j)
def qD{f:Type}{xs:List f}{i:Nat}{x:f}(h:xs[i]?=some x):i<xs.length:=(K7.mp h).1
def wi3(h:bQ rs bs s=true):s<rs.length:=by
 by_cases q:s<rs.length
 .exact q
 .unfold bQ at h;rw[O8 ()] at h;cases h
def vq2(h:cF rs bs s=true):s≠0:=by intro e;subst e;cases h
def xg6{rs:List Row}{bs:List Int}{s sz:Nat}(u:Pairs rs)(c:i7 sz rs bs s)(m:bQ rs bs s=true): i7 sz rs (cP rs bs s).2 (cP rs bs s).1/\cF rs (cP rs bs s).2 (cP rs bs s).1=true/\dF rs (cP rs bs s).2 (cP rs bs s).1=(s,bs):=by
 have j:=wi3 m;have g:=B6 j;have r:=c.ro _ (M6 j);have C:∀row:Row,rs[s]=row->row.plain=true->cP rs bs s=(s+1,df 1 bs row)/\(cF rs (df 1 bs row) (s+1)=true/\dF rs (df 1 bs row) (s+1)=(s,bs)):=by intro row f q;have p:=SO (bs:=bs) j (by rw[f];exact q);have l:=w02 (bs:=df 1 bs row) j (by rw[f];exact q);rw[f] at p l;rw[f] at r;apply#[p.2,l.1,?_];rw[l.2,Ud (.inl rfl) c.bo r]
 have fin:∀row:Row,rs[s]=row->row.plain=true->i7 sz rs (cP rs bs s).2 (cP rs bs s).1/\cF rs (cP rs bs s).2 (cP rs bs s).1=true/\dF rs (cP rs bs s).2 (cP rs bs s).1=(s,bs):=by intro row f q;let#[p,l,A]:=C row f q;rw[p];rw[f] at r;exact#[#[My c.bo r,c.ro,j],l,A]
 cases f:rs[s] with
 | add x o=>exact fin _ f rfl| take x o=>exact fin _ f rfl| turn x i E=>exact fin _ f rfl| swap x y=>exact fin _ f rfl| go x n k =>
  have t:=u.go s x n k (by rw[g,f]);have B:=qD t;by_cases h:gt bs x=n
  .have e:cP rs bs s=(k+1,bs):=by unfold cP;rw[g,f];simp[h]
   rw[e];apply#[#[c.bo,c.ro,B],?_,?_]
   .show cF rs bs (k+1)=true;unfold cF;rw[if_neg (),L5,t]
   .show dF rs bs (k+1)=(s,bs)
    unfold dF;rw[L5,t];simp[h]
  .have e:cP rs bs s=(s+1,bs):=by unfold cP;rw[g,f];simp[h]
   rw[e];apply#[#[c.bo,c.ro,j],?_,?_]
   .show cF rs bs (s+1)=true;unfold cF;rw[if_neg (),L5,g,f];simp[h]
   .show dF rs bs (s+1)=(s,bs)
    unfold dF;rw[L5,g,f];rfl
 | aT x n k =>
  have h:¬ gt bs x=n:=by unfold bQ at m;rw[g,f] at m;simpa using m
  have e:cP rs bs s=(s+1,bs):=by unfold cP;rw[g,f];rfl
  rw[e];apply#[#[c.bo,c.ro,j],?_,?_]
  .show cF rs bs (s+1)=true;unfold cF;rw[if_neg (),L5,g,f]
  .show dF rs bs (s+1)=(s,bs)
   unfold dF;rw[L5,g,f];simp[h]
def xg7{rs:List Row}{bs:List Int}{s sz:Nat}(C:Pairs rs)(c:i7 sz rs bs s)(l:cF rs bs s=true): i7 sz rs (dF rs bs s).2 (dF rs bs s).1/\bQ rs (dF rs bs s).2 (dF rs bs s).1=true/\cP rs (dF rs bs s).2 (dF rs bs s).1=(s,bs):=by
 have m:=c.le;obtain⟨t,rfl⟩:∃t,s=t+1:=#[s-1,by have:=vq2 l;omega];have j:t<rs.length:=m;have g:=B6 j;have r:=c.ro _ (M6 j);have fin:∀row:Row,rs[t]=row->row.plain=true->i7 sz rs (dF rs bs (t+1)).2 (dF rs bs (t+1)).1/\bQ rs (dF rs bs (t+1)).2 (dF rs bs (t+1)).1=true/\cP rs (dF rs bs (t+1)).2 (dF rs bs (t+1)).1=(t+1,bs):=by intro row f B;have A:=w02 (bs:=bs) j (by rw[f];exact B);have q:=SO (bs:=df (-1) bs row) j (by rw[f];exact B);rw[f] at q A r;rw[A.2];have u:=Ud (s:=-1) (.inr rfl) c.bo r;rw[show(-(-1):Int)=1 from rfl] at u;apply#[#[My c.bo r,c.ro,P4 j],q.1,?_];show cP rs (df (-1) bs row) t=_;rw[q.2,u]
 cases f:rs[t] with
 | add x o=>exact fin _ f rfl| take x o=>exact fin _ f rfl| turn x i G=>exact fin _ f rfl| swap x y=>exact fin _ f rfl| aT x n k =>
  have p:=C.co t x n k (by rw[g,f]);have E:=qD p;by_cases h:gt bs x=n
  .have e:dF rs bs (t+1)=(k,bs):=by unfold dF;rw[L5,g,f];simp[h]
   rw[e];apply#[#[c.bo,c.ro,P4 E],?_,?_]
   .show bQ rs bs k=true;unfold bQ;rw[p]
   .show cP rs bs k=(t+1,bs)
    unfold cP;rw[p];simp[h]
  .have e:dF rs bs (t+1)=(t,bs):=by unfold dF;rw[L5,g,f];simp[h]
   rw[e];apply#[#[c.bo,c.ro,P4 j],?_,?_]
   .show bQ rs bs t=true;unfold bQ;rw[g,f];simp[h]
   .show cP rs bs t=(t+1,bs)
    unfold cP;rw[g,f];rfl
 | go x n k =>
  have h:¬ gt bs x=n:=by unfold cF at l;rw[if_neg (),L5,g,f] at l;simpa using l
  have e:dF rs bs (t+1)=(t,bs):=by unfold dF;rw[L5,g,f];rfl
  rw[e];apply#[#[c.bo,c.ro,P4 j],?_,?_]
  .show bQ rs bs t=true;unfold bQ;rw[g,f]
  .show cP rs bs t=(t+1,bs)
   unfold cP;rw[g,f];simp[h]
def od:Option Row->D
 | none=>.non| some r=>r.d
end Law
namespace Law
open PySem L2 L3 Rw
def cq.grow(h:cq G st)(g:ax G m):cq m st:=by let#[a,f,k,r,l,j,i]:=h.ex;exact#[a,f,k,r,g.kp _ _ l,g.kp _ _ j,i]
def dh{s:Nat}:J5 ("rows" :Str) (cn f g s)=some (D.ref f)/\J5 ("held" :Str) (cn f g s)=some (D.ref g)/\J5 ("spot" :Str) (cn f g s)=some (D.int (s:Int)) /\ J5 ("place" :Str) (cn f g s)=none/\J5 ("boxes" :Str) (cn f g s)=none/\J5 ("forth" :Str) (cn f g s)=none/\J5 ("back" :Str) (cn f g s)=none/\J5 ("at_end" :Str) (cn f g s)=none/\J5 ("at_begin" :Str) (cn f g s)=none /\ J5 ("may_forth" :Str) (cn f g s)=none/\J5 ("may_back" :Str) (cn f g s)=none/\(∀v:D,putD ("spot" :Str) v (cn f g s)=([("rows",.ref f),("held",.ref g),("spot",v)]:List (Str×D))):=by
 apply#[?_,?_,?_,?_,?_,?_,?_,?_,?_,?_,?_,λv=>?_] <;> simp only[cn,eF,str_beq,C7,decide_false,decide_true,beq_self_eq_true,F5,O1,putD,if_false,if_true]
def CJ:(cn f g s).length<1000:=show 3<1000 by decide
def w18(r:Row):(∃x m k,r=.go x m k)\/∃w rest,r.d=.tup (.str w::rest)/\(w=("go" :Str))=False/\∀(rs:List Row) (bs:List Int) (s:Nat),rs[s]?=some r->cP rs bs s=(s+1,df 1 bs r):=by
 cases r with
 | go x m k=>exact .inl #[x,m,k,rfl]| aT x m k=>exact .inr #[_,_,rfl,eq_false ∅,λrs bs s h=>by unfold cP;rw[h]]| add x o=>exact .inr #[_,_,rfl,eq_false ∅,λrs bs s h=>by unfold cP;rw[h]]| take x o=>exact .inr #[_,_,rfl,eq_false ∅,λrs bs s h=>by unfold cP;rw[h]]| turn x i f=>exact .inr #[_,_,rfl,eq_false ∅,λrs bs s h=>by unfold cP;rw[h]]| swap x y=>exact .inr #[_,_,rfl,eq_false ∅,λrs bs s h=>by unfold cP;rw[h]]
def w19(r:Row):(∃x m k,r=.aT x m k)\/∃w rest,r.d=.tup (.str w::rest)/\(w=("come" :Str))=False/\∀(rs:List Row) (bs:List Int) (s:Nat),rs[s-1]?=some r->dF rs bs s=(s-1,df (-1) bs r):=by
 cases r with
 | aT x m k=>exact .inl #[x,m,k,rfl]| go x m k=>exact .inr #[_,_,rfl,eq_false ∅,λrs bs s h=>by unfold dF;rw[h]]| add x o=>exact .inr #[_,_,rfl,eq_false ∅,λrs bs s h=>by unfold dF;rw[h]]| take x o=>exact .inr #[_,_,rfl,eq_false ∅,λrs bs s h=>by unfold dF;rw[h]]| turn x i f=>exact .inr #[_,_,rfl,eq_false ∅,λrs bs s h=>by unfold dF;rw[h]]| swap x y=>exact .inr #[_,_,rfl,eq_false ∅,λrs bs s h=>by unfold dF;rw[h]]
def Bj(r:Row):(∃x m k,r=.go x m k)\/(∃x m k,r=.aT x m k)\/∃w rest,r.d=.tup (.str w::rest)/\(w=("go" :Str))=False/\(w=("come" :Str))=False/\r.plain=true:=by
 cases r with
 | go x m k=>exact .inl #[x,m,k,rfl]| aT x m k=>exact .inr (.inl #[x,m,k,rfl])| add x o=>exact .inr (.inr #[_,_,rfl,eq_false ∅,eq_false ∅,rfl])| take x o=>exact .inr (.inr #[_,_,rfl,eq_false ∅,eq_false ∅,rfl])| turn x i f=>exact .inr (.inr #[_,_,rfl,eq_false ∅,eq_false ∅,rfl])| swap x y=>exact .inr (.inr #[_,_,rfl,eq_false ∅,eq_false ∅,rfl])
end Law
namespace L3
open PySem PySem.Spec PyProof.Rows L2
theorem Uu:∀ks:List Int,intsOf (ks.map D.int)=some ks
 | []=>rfl| k::ks=>by show(intsOf (ks.map D.int)).map (k::·)=_;rw[Uu ks];rfl
def HL{w a b:Str}:decide (w∈[a,b])=(decide (w=a)||decide (w=b)):=by
 by_cases g:w=a
 .simp[g]
 .by_cases f:w=b
  .simp[f]
  .simp[g,f]
def TF:(∀w a b G q,g_ false (.str w) (.tup [.str a,.str b]) G q=q (.bl (decide (w=a)||decide (w=b))) G)/\(∀w a b G q,g_ true (.str w) (.tup [.str a,.str b]) G q=q (.bl (!(decide (w=a)||decide (w=b)))) G) /\ (∀v a G q,g_ true (.int v) (.ref a) G q=(match bt (G a) with|some ds=>(match intsOf ds with|some f=>q (.bl (!decide (v∈f))) G|none=>False)|none=>False)) /\
  (∀v a G q,g_ false (.int v) (.ref a) G q=(match bt (G a) with|some ds=>(match intsOf ds with|some f=>q (.bl (decide (v∈f))) G|none=>False)|none=>False)) /\
  (∀i j G q,gw true (.bl i) (.bl j) G q=q (.bl (!decide (i=j))) G)/\(∀i j G q,gw false (.bl i) (.bl j) G q=q (.bl (decide (i=j))) G) /\
  (∀a b G q,ma (.ref a) (.ref b) G q=(match G a,G b with|some (.lst xs),some (.lst ys)=>xs.length+ys.length<=sizeLine/\∀p,G p=none->q (.ref p) (aG G p (.lst (xs++ys)))|_,_=>False))/\((2<=sizeLine)=True):=by
 apply#[λw a b G q=>?_,λw a b G q=>?_,λ_ _ _ _=>rfl,λ_ _ _ _=>rfl,λ_ _ _ _=>rfl,λ_ _ _ _=>rfl,λ_ _ _ _=>rfl,eq_true ∅]
 .show q (.bl (decide (w∈[a,b]))) G=_;rw[HL]
 .show q (.bl (!decide (w∈[a,b]))) G=_;rw[HL]
end L3
namespace Law
open PySem L2 L3 Rw
def dw(fw:Bool)(rs:List Row)(bs:List Int)(s:Nat):Bool:=if fw=true then bQ rs bs s else cF rs bs s
def dE(fw:Bool)(rs:List Row)(bs:List Int)(s:Nat):Nat×List Int:=if fw=true then cP rs bs s else dF rs bs s
def CD(f:Pairs rs)(c:i7 sz rs bs s)(g:dw fw rs bs s=true): i7 sz rs (dE fw rs bs s).2 (dE fw rs bs s).1/\dw (!fw) rs (dE fw rs bs s).2 (dE fw rs bs s).1=true/\dE (!fw) rs (dE fw rs bs s).2 (dE fw rs bs s).1=(s,bs):=by
 cases fw with
 | true=>exact xg6 f c g| false=>exact xg7 f c g
def mr(m:Nat):Row->Row
 | .add x o=>.take x o| .take x o=>.add x o| .go x n k=>.aT x n (m-1-k)| .aT x n k=>.go x n (m-1-k)| r=>r
def oO(rs:List Row):List Row:=(rs.map (mr rs.length)).reverse
def MP:(oO rs).length=rs.length:=by unfold oO;rw[Q8,B0]
def SS(h:rs[j]?=some r):(oO rs)[rs.length-1-j]?=some (mr rs.length r):=by have f:=qD h;unfold oO;rw[YV (by rw[B0];omega),B0,show rs.length-1-(rs.length-1-j)=j by omega,F8,h];rfl
def vv8(h:(oO rs)[j]?=some r):∃f,rs[rs.length-1-j]?=some f/\r=mr rs.length f:=by have k:=qD h;rw[MP] at k;have g:=B6 (l:=rs) (i:=rs.length-1-j) ();apply#[_,g,?_];have q:=SS g;rw[show rs.length-1-(rs.length-1-j)=j by omega,h] at q;exact D8 q
def Pairs.lt{rs:List Row}(f:Pairs rs){j:Nat}{r:Row}(h:rs[j]?=some r):∀x n k,(r=.go x n k\/r=.aT x n k)->k<rs.length:=by
 intro x n k g;rcases g with rfl|rfl
 .exact qD (f.go _ _ _ _ h)
 .exact qD (f.co _ _ _ _ h)
def w49{r:Row}(h:r.ok sz):(mr m r).ok sz:=by cases r <;> exact h
def wr7(h:∀r∈rs,r.ok sz):∀r∈oO rs,r.ok sz:=by intro r f;unfold oO at f;let#[g,i,rfl]:=D7.mp (Pd.mp f);exact w49 (h g i)
def v86(l:Pairs rs):Pairs (oO rs):=by
 apply#[λj x n k e=>?_,λj x n k e=>?_]
 .have h:=qD e;rw[MP] at h;let#[g,i,f]:=vv8 e;cases g with
  | aT m o p =>cases f;have q:=l.co _ _ _ _ i;have:=SS q;rw[this];show some (Row.aT x n (rs.length-1-(rs.length-1-j)))=_;rw[show rs.length-1-(rs.length-1-j)=j by omega]
  | add _ _=>cases f
  | take _ _=>cases f
  | turn _ _ _=>cases f
  | swap _ _=>cases f
  | go _ _ _=>cases f
 .have h:=qD e;rw[MP] at h;let#[g,i,f]:=vv8 e;cases g with
  | go m o p =>cases f;have q:=l.go _ _ _ _ i;have:=SS q;rw[this];show some (Row.go x n (rs.length-1-(rs.length-1-j)))=_;rw[show rs.length-1-(rs.length-1-j)=j by omega]
  | add _ _=>cases f
  | take _ _=>cases f
  | turn _ _ _=>cases f
  | swap _ _=>cases f
  | aT _ _ _=>cases f
end Law
namespace L2
open PySem PySem.Spec PyProof.Rows
section
variable{X:Cx}
def vj9(E:X.calm=true):bG X (.builtin "max") (λxs H Q=>∃(p:Addr) (ns:List Int),xs=[.ref p]/\eP X.K H p (ns.map V.int)/\0<ns.length/\∀M:Int,M∈ns->(∀a∈ns,a<=M)->Q (.int M) H):=by
 intro pins s L H xs N Q I r h;let#[p,ns,rfl,A,J,q]:=h;let#[u,rfl,n]:=vals1 r;cases n;let#[its,o,x,R]:=I.list A;have hi:wc its ns:=intsAre_of o;let#[f,i]:=hi.allInts.items;have m:s.heap.IsList p (XG f):=i▸x.isList;have g:ns=f.toList.map (·.1):=by rw[<- Ym,<- i];exact(show numsOf its.toArray.toList=ns from hi.numsOf).symm
 have hsz:0<f.size:=by have l:=J;rw[g,B0,K3] at l;exact l
 apply max_intList (I.ok.hd E) m hsz λv U O y B=>?_;let#[t,rfl]:=intItems_at y;let#[S,G]:=argBest_gt (numAt f) (f.size-1);apply#[.int _,H,I.kept B,#[_,rfl],q _ ?_ λa k=>?_]
 .rw[g,Oq];exact getD_mem (by rw[B0,K3];omega)
 .rw[g] at k;let#[j,C,rfl]:=mem_getD k;rw[B0,K3] at C;rw[<- Oq];exact G j ()
def vj8(E:X.calm=true):bG X (.builtin "min") (λxs H Q=>∃(p:Addr) (ns:List Int),xs=[.ref p]/\eP X.K H p (ns.map V.int)/\0<ns.length/\∀M:Int,M∈ns->(∀a∈ns,M<=a)->Q (.int M) H):=by
 intro pins s L H xs N Q I r h;let#[p,ns,rfl,A,J,q]:=h;let#[u,rfl,n]:=vals1 r;cases n;let#[its,o,x,R]:=I.list A;have hi:wc its ns:=intsAre_of o;let#[f,i]:=hi.allInts.items;have m:s.heap.IsList p (XG f):=i▸x.isList;have g:ns=f.toList.map (·.1):=by rw[<- Ym,<- i];exact(show numsOf its.toArray.toList=ns from hi.numsOf).symm
 have hsz:0<f.size:=by have l:=J;rw[g,B0,K3] at l;exact l
 apply min_intList (I.ok.hd E) m hsz λv U O y B=>?_;let#[t,rfl]:=intItems_at y;let#[S,G]:=argBest_lt (numAt f) (f.size-1);apply#[.int _,H,I.kept B,#[_,rfl],q _ ?_ λa k=>?_]
 .rw[g,Oq];exact getD_mem (by rw[B0,K3];omega)
 .rw[g] at k;let#[j,C,rfl]:=mem_getD k;rw[B0,K3] at C;rw[<- Oq];exact G j ()
end
end L2
namespace L3
open PySem PySem.Spec PyProof.Rows L2
section
variable{X:Cx}
def Eu:C3:=λg G q=>match g with
 | [.ref a]=>(match bt (G a) with|some xs=>(match yU xs with|some f=>0<f.length/\∀M:Int,M∈f->(∀z∈f,z<=M)->q (.int M) G|none=>False)|none=>False)
 | _=>False
def Sk:C3:=λg G q=>match g with
 | [.ref a]=>(match bt (G a) with|some xs=>(match yU xs with|some f=>0<f.length/\∀M:Int,M∈f->(∀z∈f,M<=z)->q (.int M) G|none=>False)|none=>False)
 | _=>False
def vv2(j:X.calm=true:=by rfl):Call3 X (.builtin "max") Eu:=pb (vj9 j) λxs H Q ⟨n,G,q,r,c,t,f⟩=>by
 unfold Eu at t;split at t
 .let#[v,rfl,h]:=r.one;cases h.aj;split at t
  .rename_i n e;let#[p,g,i]:=eR c e;split at t
   .rename_i o m;have:=Nf m i;subst this;exact#[_,o,rfl,g,t.1,λM l k=>f _ _ _ _ ae.cY c (Le.refl H) (t.2 M l k)]
   .exact t.elim
  .exact t.elim
 .exact t.elim
def wp8(j:X.calm=true:=by rfl):Call3 X (.builtin "min") Sk:=pb (vj8 j) λxs H Q ⟨n,G,q,r,c,t,f⟩=>by
 unfold Sk at t;split at t
 .let#[v,rfl,h]:=r.one;cases h.aj;split at t
  .rename_i n e;let#[p,g,i]:=eR c e;split at t
   .rename_i o m;have:=Nf m i;subst this;exact#[_,o,rfl,g,t.1,λM l k=>f _ _ _ _ ae.cY c (Le.refl H) (t.2 M l k)]
   .exact t.elim
  .exact t.elim
 .exact t.elim
theorem C_:∀ks:List Int,yU (ks.map D.int)=some ks
 | []=>rfl| k::ks=>by show(yU (ks.map D.int)).map (k::·)=_;rw[C_ ks];rfl
end
end L3
namespace Law
open PySem L2 L3 Rw
def mv(a:Nat):Row->Row
 | .go x n k=>.go x n (k+a)| .aT x n k=>.aT x n (k+a)| r=>r
def gW(acc rs:List Row):List Row:=acc++rs.map (mv acc.length)
def uc:List Row->List (List Row)->List Row
 | acc,[]=>acc| acc,f::r=>uc (gW acc f) r
structure dU where
 sz:Nat
 ra:Addr
 rs:List Row
def dU.d(c:dU):D:=.tup [.int (c.sz:Int),.ref c.ra]
def tY(cs:List dU):Nat:=cs.foldr (λc n=>max c.sz n) 0
def SI(h:c∈cs):c.sz<=tY cs:=by
 induction cs with
 | nil=>cases h
 | cons d cs f =>
  show c.sz<=max d.sz (tY cs);rcases D4.mp h with rfl|h
  .omega
  .have:=f h;omega
def wi0{cs:List dU}(h:0<cs.length):∃c∈cs,c.sz=tY cs:=by
 induction cs with
 | nil=>cases h
 | cons d cs f =>
  by_cases i:0<cs.length
  .let#[c,g,e]:=f i;by_cases j:d.sz<=tY cs
   .exact#[c,C2 _ g,by show c.sz=max d.sz (tY cs);omega]
   .exact#[d,C6,by show d.sz=max d.sz (tY cs);omega]
  .have:cs=[]:=E4 ();subst this;exact#[d,C6,by show d.sz=max d.sz 0;omega]
def x71{cs:List dU}(h:0<cs.length)(h1:M∈cs.map λc=>(c.sz:Int))(i:∀z∈cs.map (λc=>(c.sz:Int)),z<=M):M=(tY cs:Int):=by let#[c,g,e]:=D7.mp h1;let#[d,f,j]:=wi0 h;have a:=SI g;have b:=i (d.sz:Int) (D7.mpr #[d,f,rfl]);omega
def x17{sz j:Nat}{r:Row}(h:sz<=j)(f:r.ok sz):r.ok j:=by
 have op:∀{x:Nat} {o:oU},o.ok sz x->o.ok j x:=λ{x o} g=>by
  cases o with
  | num n=>exact g| box y=>exact#[C5 g.1 h,g.2]
 cases r with
 | add x o=>exact#[C5 f.1 h,op f.2]| take x o=>exact#[C5 f.1 h,op f.2]| turn x i m=>exact#[C5 f.1 h,f.2.1,f.2.2.1,λc l=>#[C5 (f.2.2.2 c l).1 h,(f.2.2.2 c l).2]]| swap x y=>exact#[C5 f.1 h,C5 f.2.1 h,f.2.2]| go x n k=>exact#[C5 f.1 h,f.2]| aT x n k=>exact#[C5 f.1 h,f.2]
def xi8{r:Row}(h:r.ok sz):(mv a r).ok sz:=by cases r <;> exact h
def v29:(gW acc rs).length=acc.length+rs.length:=by unfold gW;rw[B4,B0]
def vl0{acc rs:List Row}{j:Nat}{r:Row}(h:acc[j]?=some r):(gW acc rs)[j]?=some r:=by unfold gW;rw[F9 (qD h)];exact h
def vl1(h:rs[j]?=some r):(gW acc rs)[acc.length+j]?=some (mv acc.length r):=by unfold gW;rw[E6 (),show acc.length+j-acc.length=j by omega,F8,h];rfl
def vk9(h:(gW acc rs)[j]?=some r):acc[j]?=some r\/∃i f,j=acc.length+i/\rs[i]?=some f/\r=mv acc.length f:=by
 by_cases g:j<acc.length
 .left;unfold gW at h;rw[F9 g] at h;exact h
 .right;unfold gW at h;rw[E6 (),F8] at h;cases e:rs[j-acc.length]? with
  | none=>rw[e] at h;cases h
  | some f=>rw[e] at h;cases h;exact#[j-acc.length,f,(),e,rfl]
def v64(h1:Pairs acc)(l:Pairs rs):Pairs (gW acc rs):=by
 apply#[λj x n k e=>?_,λj x n k e=>?_]
 .rcases vk9 e with q|⟨i,g,rfl,q,f⟩
  .exact vl0 (h1.go _ _ _ _ q)
  .cases g with
   | go m o h =>cases f;have:=vl1 (acc:=acc) (l.go _ _ _ _ q);rw[P5 h acc.length,this,P5 acc.length i];rfl
   | add _ _=>cases f
   | take _ _=>cases f
   | turn _ _ _=>cases f
   | swap _ _=>cases f
   | aT _ _ _=>cases f
 .rcases vk9 e with q|⟨i,g,rfl,q,f⟩
  .exact vl0 (h1.co _ _ _ _ q)
  .cases g with
   | aT m o h =>cases f;have:=vl1 (acc:=acc) (l.co _ _ _ _ q);rw[P5 h acc.length,this,P5 acc.length i];rfl
   | add _ _=>cases f
   | take _ _=>cases f
   | turn _ _ _=>cases f
   | swap _ _=>cases f
   | go _ _ _=>cases f
theorem Up:∀{L:List (List Row)} {acc:List Row},Pairs acc->(∀rs∈L,Pairs rs)->Pairs (uc acc L)
 | [],_,h,_=>h| rs::L,acc,h,f=>Up (L:=L) (v64 h (f rs C6)) λr g=>f r (C2 _ g)
theorem Sy:∀{L:List (List Row)} {acc:List Row},(∀r∈acc,r.ok sz)->(∀rs∈L,∀r∈rs,r.ok sz)->∀r∈uc acc L,r.ok sz
 | [],_,h,_=>h| rs::L,acc,h,g=>Sy (L:=L) (λr f=>by
   unfold gW at f;rcases E9.mp f with q|q
   .exact h r q
   .let#[i,j,rfl]:=D7.mp q;exact xi8 (g rs C6 i j)) λr f=>g r (C2 _ f)
def Pairs.nil:Pairs []:=#[λj x n k e=>by simp at e,λj x n k e=>by simp at e]
def lu{n len d:Nat}(h:n<=len):HT.bR len d (some (n:Int))=n:=by
 unfold HT.bR;simp only[];split
 .omega
 .rw[T8];omega
def rn(fw:Bool)(rs:List Row):Nat->Nat->List Int->Nat×Nat×List Int
 | 0,s,f=>(0,s,f)| n+1,s,f=>if dw fw rs f s=true then((rn fw rs n (dE fw rs f s).1 (dE fw rs f s).2).1+1,(rn fw rs n (dE fw rs f s).1 (dE fw rs f s).2).2) else(0,s,f)
def rV(fw:Bool)(rs:List Row)(bs:List Int)(s:Nat):Str:=if s=(if fw=true then rs.length else 0) then(if fw=true then "end" else "begin") else if dw fw rs bs s=true then "tired" else "torn"
def outD(fw:Bool)(rs:List Row)(r:Nat×Nat×List Int)(q:Addr):D:=.tup [.str (rV fw rs r.2.2 r.2.1),.int (r.2.1:Int),.ref q,.int (r.1:Int)]
def CA(h:dw fw rs bs s=true):rn fw rs (n+1) s bs=((rn fw rs n (dE fw rs bs s).1 (dE fw rs bs s).2).1+1,(rn fw rs n (dE fw rs bs s).1 (dE fw rs bs s).2).2):=by show(if dw fw rs bs s=true then _ else _)=_;rw[if_pos h]
def MK(h:dw fw rs bs s=false):rn fw rs n s bs=(0,s,bs):=by
 cases n with
 | zero=>rfl| succ n=>show(if dw fw rs bs s=true then _ else _)=_;rw[if_neg (by rw[h];exact C8)]
theorem ZQ:∀{n s:Nat} {bs:List Int},(rn fw rs n s bs).1<=n
 | 0,_,_=>B9 _| n+1,s,bs=>by
  cases h:dw fw rs bs s with
  | false=>rw[MK h];exact J8 _| true=>rw[CA h];exact Nat.succ_le_succ ZQ
theorem vz9(f:Pairs rs):∀{n s:Nat} {bs:List Int},i7 sz rs bs s->i7 sz rs (rn fw rs n s bs).2.2 (rn fw rs n s bs).2.1
 | 0,_,_,c=>c| n+1,s,bs,c=>by
  cases h:dw fw rs bs s with
  | false=>rw[MK h];exact c| true=>rw[CA h];exact vz9 f (CD f c h).1
structure vA(fw:Bool)(rs:List Row)(most s0:Nat)(Cf:List Int)(k s:Nat)(bs:List Int):Prop where
 le:k<=most
 eq:rn fw rs most s0 Cf=(k+(rn fw rs (most-k) s bs).1,(rn fw rs (most-k) s bs).2)
def vA.init:vA fw rs most f g 0 f g:=#[J8 _,by rw[DY,U6]]
def vA.step(h:vA fw rs most f j k s bs)(i:k<most)(g:dw fw rs bs s=true):vA fw rs most f j (k+1) (dE fw rs bs s).1 (dE fw rs bs s).2:=by apply#[i,?_];rw[h.eq,show most-k=(most-(k+1))+1 by omega,CA g];show(k+((rn fw rs (most-(k+1)) _ _).1+1),_)=_;rw[show∀a:Nat,k+(a+1)=k+1+a from λa=>()]
def vA.stop(h:vA fw rs most f g k s bs)(hk:¬ k<most\/dw fw rs bs s=false):rn fw rs most f g=(k,s,bs):=by
 have e:rn fw rs (most-k) s bs=(0,s,bs):=by
  rcases hk with hk|hk
  .have:=h.le;rw[show most-k=0 by omega];rfl
  .exact MK hk
 rw[h.eq,e];rfl
theorem va4(i:Pairs rs):∀{n s:Nat} {bs:List Int} (m:Nat),i7 sz rs bs s->(rn true rs n s bs).1<=m -> rn false rs m (rn true rs n s bs).2.1 (rn true rs n s bs).2.2=((rn true rs n s bs).1+(rn false rs (m-(rn true rs n s bs).1) s bs).1,(rn false rs (m-(rn true rs n s bs).1) s bs).2)
 | 0,s,bs,m,_,_=>by show rn false rs m s bs=(0+(rn false rs (m-0) s bs).1,(rn false rs (m-0) s bs).2);rw[U6,DY]| n+1,s,bs,m,c,j=>by
  cases h:dw true rs bs s with
  | false =>
   rw[MK h];show rn false rs m s bs=(0+(rn false rs (m-0) s bs).1,(rn false rs (m-0) s bs).2)
   rw[U6,DY]
  | true =>
   have f:=CD i c h;rw[CA h] at j⊢;have g:(rn true rs n (dE true rs bs s).1 (dE true rs bs s).2).1+1<=m:=j;have k:=va4 i (n:=n) m f.1 ();show rn false rs m (rn true rs n (dE true rs bs s).1 (dE true rs bs s).2).2.1 (rn true rs n (dE true rs bs s).1 (dE true rs bs s).2).2.2=((rn true rs n (dE true rs bs s).1 (dE true rs bs s).2).1+1+_,_)
   rw[k];generalize (rn true rs n (dE true rs bs s).1 (dE true rs bs s).2).1=a at g⊢;have o:dw false rs (dE true rs bs s).2 (dE true rs bs s).1=true:=f.2.1;have l:dE false rs (dE true rs bs s).2 (dE true rs bs s).1=(s,bs):=f.2.2;rw[show m-a=(m-(a+1))+1 by omega,CA o,l];show(a+((rn false rs (m-(a+1)) s bs).1+1),_)=(a+1+(rn false rs (m-(a+1)) s bs).1,_)
   rw[show∀b:Nat,a+(b+1)=a+1+b from λb=>()]
def vn4{G:Gp}{a b:Addr}{ks:List Int}{pre post:List D}(h1:bt (G a)=some (ks.map .int))(i:bt (G b)=some (ks.map .int))(g:∀d∈pre,∃s,snap G 1 d=some s)(j:∀d∈post,∃s,snap G 1 d=some s): ∃s,snap G 2 (.tup (pre++.ref a::post))=some s/\snap G 2 (.tup (pre++.ref b::post))=some s:=by
 have e:snap G 1 (.ref a)=snap G 1 (.ref b):=bU (by rw[h1,i]);let#[s,f]:=bT (G:=G) (n:=1) (ds:=pre++.ref a::post) λd h=>by
  rcases E9.mp h with q|q
  .exact g d q
  .rcases D4.mp q with rfl|q
   .exact⟨_,Us h1⟩
   .exact j d q
 apply⟨s,f,?_⟩;rw[<- f];show((pre++.ref b::post).mapM (snap G 1)).map Sn.tup=((pre++.ref a::post).mapM (snap G 1)).map Sn.tup;rw[C03,C03,U9,U9,e]
def wn4{G:Gp}{a b:Addr}{ks:List Int}{w:Str}{i j:Int}{Q:Bool->Prop}(h1:bt (G a)=some (ks.map .int))(l:bt (G b)=some (ks.map .int))(h:Q true): ∃n g f r,n<=40/\snap G n (.tup [.str w,.int i,.ref a,.int j])=some g/\snap G n (.tup [.str w,.int i,.ref b,.int j])=some f/\dY n g f=some r/\Q r:=by
 let#[s,k,m]:=vn4 (pre:=[.str w,.int i]) (post:=[.int j]) h1 l (all2 vn3 (all1 uz3)) (all1 uz3);exact#[2,s,s,true,∅,k,m,Tf 2 k,h]
end Law
namespace L3
open PySem PySem.Spec PyProof.Rows L2 Rw
def tO(k m:Nat):Bool:=k==0||m.testBit (k-1)
def pc(b m:Nat):Nat:=(F3 b).countP λi=>m.testBit i
def wh4(b m:Nat):pc (b+1) m=m%2+pc b (m / 2):=by
 unfold pc;rw[B29,List.countP_cons,List.countP_map];have e:((λi=>m.testBit i)∘Nat.succ)=λi=>(m / 2).testBit i:=by funext i;show m.testBit (i+1)=_;rw[C04]
 rw[e,Z9];rcases Nat.mod_two_eq_zero_or_one m with h|h <;> simp[h] <;> omega
def wh3(b:Nat):pc b 0=0:=by simp[pc]
def S'(a b:Nat):P1 (a:Int) (b:Int)=((a &&& b:Nat):Int):=by unfold P1;simp
def w07(a b:Nat):LK (a:Int) (b:Int)=((a ||| b:Nat):Int):=by
 have g:∀x:Nat,¬ (0<=M9 (x:Int)):=λx=>by unfold M9;omega
 have f:∀x:Int,M9 (M9 x)=x:=λx=>by unfold M9;omega
 unfold LK P1;simp only[g,decide_false,f,T8]
def wo9(m i:Nat):(P1 (m:Int) (1*2^i)=0)↔m.testBit i=false:=by
 have e:(1*2^i:Int)=((2^i:Nat):Int):=by simp
 rw[e,S'];have q:(m &&& 2^i=0)↔m.testBit i=false:=by
  constructor
  .intro h;have:=congrArg (λx=>Nat.testBit x i) h;simpa[Pa,A99] using this
  .intro h;apply N8 λj=>?_;rw[Pa,LP,Q9];by_cases f:i=j
   .subst f;rw[h];rfl
   .simp[f]
 rw[<- q];omega
def pD(p:Str×Int):D:=.tup [.str p.1,.int p.2]
end L3
namespace L2
open PySem PySem.Spec PyProof.Rows
abbrev wm(h:Heap)(z TI TO T:Addr)(f:Bool):Prop:=h.get? z=some { cls:=.type "zip",data:=.fields [rawInt (T:Int),.bool f,.bool false,.ref TI,.ref TO].toArray}
end L2
namespace L3
open PySem PySem.Spec PyProof.Rows L2
section
variable{X:Cx}{o:Expr}{to:bu}{apos aN:Pos}
def Au:U3:=λx G q=>match x with|.int i=>q (.int (M9 i)) G|_=>False
def xg3:yC X (DN .Invert) (xX X.K Au):=vv4 wr5 <| by
 rintro x H Q ⟨d,G,q,g,c,t,f⟩;unfold Au at t;split at t
 .exact#[_,g.int_inv,f _ _ _ _ ae.cY c (Le.refl H) t]
 .exact t.elim
end
end L3
namespace L3
open PySem PySem.Spec PyProof.Rows L2 Rw
abbrev Mv:=Bool×Nat
def mP(p:Mv):Str×Int:=(if p.1 then "lay" else "clear",(p.2:Int))
def mD(p:Mv):D:=pD (mP p)
def nD(x:Nat):D:=.int (x:Int)
def dW(k m:Nat):Bool:=m.testBit (k-1)
def xr(m k:Nat):Nat:=m ^^^ 2^(k-1)
def hi(m:Nat):Nat:=if m=0 then 0 else m.log2+1
def ZO{m i:Nat}(h:m.testBit i=false):m ||| 2^i=m ^^^ 2^i:=N8 λj=>by
 rw[C30,O_,Q9];by_cases e:i=j
 .subst e;rw[h];simp
 .simp[e]
def wx2{m i:Nat}(h:m.testBit i=true):m ||| 2^i=m:=N8 λj=>by
 rw[C30,Q9];by_cases e:i=j
 .subst e;rw[h];rfl
 .simp[e]
def vk7{m i:Nat}(h:m.testBit i=true):m &&& 2^i=2^i:=N8 λj=>by
 rw[Pa,Q9];by_cases e:i=j
 .subst e;rw[h];rfl
 .simp[e]
def xc0{m i:Nat}(h:m.testBit i=false):m &&& 2^i=0:=N8 λj=>by
 rw[Pa,Q9,LP];by_cases e:i=j
 .subst e;rw[h];rfl
 .simp[e]
theorem S_:∀{i m:Nat},m.testBit i=true->(m ^^^ 2^i)+2^i=m
 | 0,m,h=>by
  have n:m%2=1:=by rw[Z9] at h;simpa using h
  have g:(m ^^^ 1) / 2=m / 2:=by rw[C22];simp
  have f:(m ^^^ 1)%2=0:=by
   have:(m ^^^ 1).testBit 0=false:=by rw[O_,h];rfl
   rw[Z9] at this;have:=of_decide_eq_false this;omega
  show(m ^^^ 1)+1=m;omega
 | i+1,m,h=>by
  have j:(m / 2).testBit i=true:=by rw[<- C04];exact h
  have l:=S_ j;have k:2^(i+1) / 2=2^i:=by rw[Q2];omega
  have g:(m ^^^ 2^(i+1)) / 2=m / 2 ^^^ 2^i:=by rw[C22,k]
  have f:(m ^^^ 2^(i+1))%2=m%2:=by
   have a:(m ^^^ 2^(i+1)).testBit 0=m.testBit 0:=by rw[O_,Q9];simp
   rw[Z9,Z9] at a;have b:=decide_eq_decide.mp a;omega
  rw[Q2] at g f⊢;omega
def xor_int(m i:Nat):LL (m:Int) (1*2^i)=((m ^^^ 2^i:Nat):Int):=by
 have e:(1*2^i:Int)=((2^i:Nat):Int):=by simp
 unfold LL;rw[e,w07,S'];cases h:m.testBit i with
 | true =>rw[wx2 h,vk7 h];have:=S_ h;omega| false =>rw[ZO h,xc0 h];simp
def wn5{m i:Nat}(h:m.testBit i=true):P1 (m:Int) (M9 (1*2^i))=((m ^^^ 2^i:Nat):Int):=by
 have e:(1*2^i:Int)=((2^i:Nat):Int):=by simp
 have j:(0:Int)<=((2^i:Nat):Int):=Pk _;have f:¬ (0<=M9 ((2^i:Nat):Int)):=by unfold M9;omega
 have g:M9 (M9 ((2^i:Nat):Int))=((2^i:Nat):Int):=by unfold M9;omega
 rw[e];unfold P1;simp only[f,decide_false,g,Pk,decide_true,T8];rw[vk7 h];have:=S_ h
 (clear f j e h;omega)
def wk0{m i:Nat}(h:m.testBit i=false):LK (m:Int) (1*2^i)=((m ^^^ 2^i:Nat):Int):=by
 have e:(1*2^i:Int)=((2^i:Nat):Int):=by simp
 rw[e,w07,ZO h]
def fin:Nat->List Mv->Nat
 | m,[]=>m| m,p::r=>fin (xr m p.2) r
def low:Nat->List Mv->Nat
 | m,[]=>hi m| m,p::r=>min (low (xr m p.2) r) (hi m)
def UB:Nat->List Mv->List Mv
 | _,[]=>[]| m,p::r=>if p.2<=low (xr m p.2) r then p::UB (xr m p.2) r else UB (xr m p.2) r
def once(w:List Mv):List Mv:=UB 0 w
def Nm:Nat->List Mv->List Nat
 | _,[]=>[]| m,p::r=>xr m p.2::Nm (xr m p.2) r
theorem oM:∀{l r:List Mv} {m:Nat},fin m (l++r)=fin (fin m l) r
 | [],_,_=>rfl| p::l,r,m=>by show fin (xr m p.2) (l++r)=_;rw[oM];rfl
def TJ{f:Type}(ns:List f)(c:f):dg (ns++[c]) (-1)=some c:=by
 rw[Cv];unfold iO;rw[if_neg ∅,if_pos (by simp;omega)];have e:(-1+((ns++[c]).length:Int)).toNat=ns.length:=by simp;omega
 rw[YS,e];simp
def at_getD{f:Type}{xs:List f}(h:0<=v)(h1:v<(xs.length:Int)):∃x,x∈xs/\dg xs v=some x:=by
 have g:v.toNat<xs.length:=()
 apply#[xs[v.toNat],M6 _,?_];rw[Cv];unfold iO;rw[if_pos h,if_pos h1,YS,B6 g]
def hD(x:Nat):D:=nD (hi x)
end L3
namespace L2
open PySem PySem.Spec PyProof.Rows
section
variable{X:Cx}
def ux4:bG X (.builtin "sorted") (λxs H Q=>∃(p:Addr) (ns:List Int),xs=[.ref p]/\eP X.K H p (ns.map V.int)/\ns.length<64/\∀(l:Addr) (f:List Int),H l=none->f.Perm ns->f.Pairwise (·<=·)->Q (.ref l) (upd H l (.lst (f.map V.int)))):=by intro pins s A H xs B Q I r h;let#[p,ns,rfl,o,E,q]:=h;let#[u,rfl,m]:=vals1 r;cases m;let#[its,i,n,j]:=I.list o;have hi:wc its ns:=intsAre_of i;have g:=i.length;rw[B0] at g j;apply sorted_ints n.isList hi () λout f y k x=>?_;let#[c,e]:=sortedAll_at s.heap its out;apply#[.ref (s.heap.objs.size+1),_,I.laid (t':=s.toks) (λb u t=>sortedAll_old t) (U8 _) (show bg X.prog X.w _ _ _ (.lst (f.map V.int)) from #[by rw[B0,k.length_eq];exact j,out.toList,c,Nb y,e]),rfl,q _ _ (I.aE.fresh (U8 _)) k x]
end
end L2
namespace L3
open PySem PySem.Spec PyProof.Rows L2
section
variable{X:Cx}{K:W.Frag}{H:Hp}
@[reducible] def w40:C3:=λh G q=>∃(a:Addr) (f:List Int),h=[.ref a]/\bt (G a)=some (f.map .int)/\f.length<64/\∀(p:Addr) (g:List Int),G p=none->g.Perm f->g.Pairwise (·<=·)->q (.ref p) (aG G p (.lst (g.map .int)))
theorem T_{H:Hp}:∀ns:List Int,ag K H (ns.map D.int) (ns.map V.int)
 | []=>.nil| _::ns=>.cons ae.cY (T_ ns)
theorem uf5{H:Hp}:∀{ns:List Int} {xs:List V},ag K H (ns.map D.int) xs->xs=ns.map V.int
 | [],xs,r=>r.aY| n::ns,xs,r=>by let#[x,h,rfl,g,f]:=r.au;rw[g.int_inv,uf5 f];rfl
def vl8:Call3 X (.builtin "sorted") w40:=pb ux4 <| by rintro xs H Q ⟨y,G,q,r,c,t,f⟩;let#[a,l,rfl,m,u,t]:=t;let#[v,rfl,j]:=r.one;cases j.aj;let#[x,i,k]:=eR c m;obtain rfl:=uf5 k;exact#[_,l,rfl,i,u,λp h g o n=>f _ _ _ _ ae.eW (c.cG g (T_ h)) (Le.fresh g) (t p h (c.fresh g) o n)]
end
end L3
namespace L3
open PySem PySem.Spec PyProof.Rows L2 Rw
def cnt:Nat->Nat->Nat
 | 0,_=>0| n+1,m=>cnt n m+(if m.testBit n then 1 else 0)
theorem Ey:∀{n m:Nat},cnt n m<=n
 | 0,_=>B9 _| n+1,m=>by have:=@Ey n m;rw[cnt];split <;> omega
theorem TM:∀{n m f:Nat},(∀i,i<n->m.testBit i=f.testBit i)->cnt n m=cnt n f
 | 0,_,_,_=>rfl| n+1,m,f,h=>by rw[cnt,cnt,TM (n:=n) λi hi=>h i (),h n ()]
def j4:(xr m k).testBit j=(m.testBit j ^^ decide (k-1=j)):=by unfold xr;rw[O_,Q9]
theorem yW:∀{n m k:Nat},1<=k->k<=n->dW k m=false->cnt n (xr m k)=cnt n m+1
 | 0,_,_,f,j,_=>()| n+1,m,k,f,j,h=>by
  unfold dW at h;by_cases e:k-1=n
  .subst e;have l:cnt (k-1) (xr m k)=cnt (k-1) m:=TM λi hi=>by
    have:¬ (k-1=i):=()
    rw[j4];simp[this]
   rw[cnt,cnt,l,j4,h];simp
  .have g:=yW (n:=n) (m:=m) f () h;rw[cnt,cnt,g,j4];simp[e];omega
theorem EU:∀{n m k:Nat},1<=k->k<=n->dW k m=true->cnt n (xr m k)+1=cnt n m
 | 0,_,_,f,g,_=>()| n+1,m,k,f,g,h=>by
  unfold dW at h;by_cases e:k-1=n
  .subst e;have j:cnt (k-1) (xr m k)=cnt (k-1) m:=TM λi hi=>by
    have:¬ (k-1=i):=()
    rw[j4];simp[this]
   rw[cnt,cnt,j,j4,h];simp
  .have l:=EU (n:=n) (m:=m) f () h;rw[cnt,cnt,j4];simp[e];omega
def j_(n s m:Nat)(p:Mv):Prop:=(1<=p.2/\p.2<=n)/\(p.2=1\/m.testBit (p.2-2)=true)/\p.1=(!dW p.2 m)/\(p.1=true->cnt n m<s)
def fK(n s:Nat):Nat->List Mv->Prop
 | _,[]=>True| m,p::r=>j_ n s m p/\fK n s (xr m p.2) r
theorem bX:∀{l r:List Mv} {m:Nat},fK n s m (l++r)↔fK n s m l/\fK n s (fin m l) r
 | [],r,m=>by show fK n s m r↔True/\fK n s m r;simp| p::l,r,m=>by show j_ n s m p/\fK n s (xr m p.2) (l++r)↔(j_ n s m p/\fK n s (xr m p.2) l)/\fK n s (fin (xr m p.2) l) r;rw[bX,and_assoc]
theorem vh3:∀{w:List Mv} {m:Nat},fin m w∈m::Nm m w
 | [],m=>by simp[fin]| p::r,m=>C2 _ (vh3 (w:=r) (m:=xr m p.2))
theorem vz7:∀{w:List Mv} {m:Nat},m<2^n->(∀p∈w,1<=p.2/\p.2<=n)->∀x∈m::Nm m w,x<2^n
 | [],m,h,_,x,hx=>by
  have:x=m:=by simpa[Nm] using hx
  subst this;exact h
 | p::r,m,h,hw,x,hx=>by
  rcases D4.mp hx with e|hx
  .subst e;exact h
  .apply vz7 (m:=xr m p.2) ?_ (λq f=>hw q (C2 _ f)) x hx;have:=hw p (by simp);exact Pj h (Z2 ∅ ())
theorem EI:∀{w:List Mv} {m:Nat},fK n s m w->∀p∈w,1<=p.2/\p.2<=n
 | [],_,_,p,hp=>by simp at hp| q::r,m,⟨g,f⟩,p,hp=>by
  rcases D4.mp hp with e|hp
  .subst e;exact g.1
  .exact EI f p hp
def fM(w:List Mv):List Mv:=(w.map λp=>(!p.1,p.2)).reverse
def wt6:dW k (xr m k)=!dW k m:=by unfold dW;rw[j4];simp
def xg1:xr (xr m k) k=m:=N8 λj=>by rw[j4,j4];cases m.testBit j <;> cases decide (k-1=j) <;> rfl
theorem vf1:∀{w:List Mv} {m:Nat},cnt n m<=s->fK n s m w->cnt n (fin m w)<=s
 | [],_,h,_=>h| p::r,m,h,⟨⟨f,_,g,j⟩,i⟩=>by
  apply vf1 (m:=xr m p.2) ?_ i;cases e:dW p.2 m with
  | true=>have:=EU f.1 f.2 e;omega| false =>rw[e] at g;rw[yW f.1 f.2 e];exact j g
theorem EH:∀{w:List Mv} {m:Nat},cnt n m<=s->fK n s m w->fK n s (fin m w) (fM w)/\fin (fin m w) (fM w)=m
 | [],_,_,_=>#[trivial,rfl]| p::r,m,h,⟨⟨f,h2,g,k⟩,y⟩=>by
  have j:cnt n (xr m p.2)<=s:=by
   cases e:dW p.2 m with
   | true=>have:=EU f.1 f.2 e;omega| false =>rw[e] at g;rw[yW f.1 f.2 e];exact k g
  let#[o,i]:=EH j y;have e:fM (p::r)=fM r++[(!p.1,p.2)]:=by unfold fM;rw[C0,T9]
  have l:fin m (p::r)=fin (xr m p.2) r:=rfl;rw[e,l,bX,oM,i];apply#[#[o,#[f,?_,?_,λx=>?_],trivial],xg1]
  .rcases h2 with h2|h2
   .exact .inl h2
   .by_cases u:p.2=1
    .exact .inl u
    .right;show(xr m p.2).testBit (p.2-2)=true;rw[j4,h2];have:¬ (p.2-1=p.2-2):=by(clear h2 l e i j k g h;omega)
     simp[this]
  .show(!p.1)=!dW p.2 (xr m p.2);rw[wt6,g]
  .have t:p.1=false:=by simpa using x
   rw[t] at g;have q:dW p.2 m=true:=by simpa using g.symm
   have:=EU f.1 f.2 q;omega
def CN:(fM w).length=w.length:=by simp[fM]
def Nh:∀{a b:List Int},a.Perm b->a.Pairwise (·<=·)->b.Pairwise (·<=·)->a=b:=by intro a b h g f;exact h.eq_of_pairwise (λx y _ _ g f=>Int.le_antisymm g f) g f
def MG(h:∀p,p∈ps↔j_ n s m p/\p.2<=i)(f:j_ n s m (b,i+1)):∀p,p∈ps++[(b,i+1)]↔j_ n s m p/\p.2<=i+1:=by
 intro p;rw[E9,h p,F4];constructor
 .rintro(⟨a,c⟩|rfl)
  .exact#[a,()]
  .exact#[f,B9 _]
 .rintro⟨a,c⟩;by_cases e:p.2<=i
  .exact .inl #[a,e]
  .right;let#[b',k]:=p;have l:k=i+1:=by have:k<=i+1:=c;have:¬ k<=i:=e;omega
   subst l;have j:b'=!dW (i+1) m:=a.2.2.1;have g:b=!dW (i+1) m:=f.2.2.1;rw[j,g]
def SF{n s m i:Nat}{ps:List Mv}(h:∀p,p∈ps↔j_ n s m p/\p.2<=i)(f:∀b,¬ j_ n s m (b,i+1)):∀p,p∈ps↔j_ n s m p/\p.2<=i+1:=by
 intro p;rw[h p];constructor
 .rintro⟨a,c⟩;exact#[a,()]
 .rintro⟨a,c⟩;apply#[a,?_];by_cases e:p.2<=i
  .exact e
  .let#[b',k]:=p;have g:k=i+1:=by have:k<=i+1:=c;have:¬ k<=i:=e;omega
   subst g;exact absurd a (f b')
def vl7(h:G a=some (.lst xs))(g:G b=some (.lst ys))(f:xs.length+ys.length<=sizeLine)(k:∀p,G p=none->q (.ref p) (aG G p (.lst (xs++ys)))):ma (.ref a) (.ref b) G q:=by unfold ma;simp only[h,g];exact#[f,k]
def v68{G:Gp}{a:Addr}{ns:List Int}{q:DK}(h:bt (G a)=some (ns.map .int))(f:0<ns.length)(k:∀M:Int,M∈ns->(∀z∈ns,z<=M)->q (.int M) G):Eu [.ref a] G q:=by unfold Eu;simp only[h,C_];exact#[f,k]
def v65{G:Gp}{a:Addr}{ns:List Int}{q:DK}(h:bt (G a)=some (ns.map .int))(k:q (.int ns.sum) G):tE [.ref a] G q:=by unfold tE;simp only[h,C_];exact k
def uz{f:Type}{xs:List f}{n:Nat}:cutD xs none (some (n:Int))=xs.take n:=by
 unfold cutD;rw[HT.mz,HT.lu,Yt,DY];rcases C76 n xs.length with h|h
 .rw[Yy h]
 .rw[C05 h,Y1 (B9 _),Y1 h]
theorem wo:∀{n:Nat},cnt n 0=0
 | 0=>rfl| n+1=>by rw[cnt,wo,LP];rfl
def v59{G:Gp}{a b:Addr}{ks:List Int}{Q:Bool->Prop}(h1:bt (G a)=some (ks.map .int))(i:bt (G b)=some (ks.map .int))(h:Q true): ∃n g f r,n<=40/\snap G n (.ref a)=some g/\snap G n (.ref b)=some f/\dY n g f=some r/\Q r:=vu3 h1 i (by rw[decide_eq_true rfl];exact h)
def fL:Nat->Bool->Nat
 | 0,_=>0| s+1,true=>2^s| s+1,false=>2^(s+1)-1
def oh(f l s:Nat)(b:Bool)(w:List Mv):Prop:=∀n S m,l<=n->(f=0\/m.testBit (f-1)=true)->(∀i,f<=i->i<l->m.testBit i=false)->cnt n m+s<=S ->
 fK n S m w/\(∀i,(i<f\/l<=i)->(fin m w).testBit i=m.testBit i)/\(fin m w).testBit (l-1)=true/\(b=true->∀i,f<=i->i+1<l->(fin m w).testBit i=false)
def w45(l:1<=s):oh f (f+1) s b [(true,f+1)]:=by
 intro n S m k o j p;have g:=j f (B9 _) (R4 _);apply#[#[#[#[by show 1<=f+1;omega,k],?_,?_,λ_=>()],trivial],λi hi=>?_,?_,λ_ i t r=>()]
 .rcases o with h|h
  .left;show f+1=1;omega
  .by_cases q:f=0
   .left;show f+1=1;omega
   .right;show m.testBit (f+1-2)=true;have:f+1-2=f-1:=by(clear q h g p j k l;omega)
    rw[this];exact h
 .show true=!m.testBit f;rw[g];rfl
 .show(xr m (f+1)).testBit i=_;have:¬ (f+1-1=i):=()
  rw[j4,decide_eq_false this,Ys]
 .show(xr m (f+1)).testBit (f+1-1)=true;rw[j4];show(m.testBit f ^^ decide (f=f))=true;rw[g];simp
def oh.jj(u:f<l)(h:oh f l s true w){n S m:Nat}(j:l<=n)(k:f=0\/m.testBit (f-1)=true)(g:∀i,f<=i->i<l->m.testBit i=false)(o:cnt n m+s<=S):fin m w=xr m l:=by
 let#[_,t,r,q]:=h n S m j k g o;apply N8 λi=>?_;rw[j4];by_cases e:l-1=i
 .subst e;rw[r,g _ () ()];simp
 .have:decide (l-1=i)=false:=decide_eq_false e;rw[this,Ys];by_cases p:i<f\/l<=i
  .exact t i p
  .rw[q rfl i () (),g i () ()]
def w37:xr (xr m k) l=xr (xr m l) k:=N8 λj=>by rw[j4,j4,j4,j4];cases m.testBit j <;> cases decide (k-1=j) <;> cases decide (l-1=j) <;> rfl
def tJ(h:¬ k-1=i):(xr m k).testBit i=m.testBit i:=by rw[j4,decide_eq_false h,Ys]
def ET{m k:Nat}(h:m.testBit (k-1)=false):(xr m k).testBit (k-1)=true:=by rw[j4,h];simp
def v75(h1:f<c)(B:c<l)(O:oh f c (s+1) true L)(N:oh c l s true J)(W3:oh f c s true I):oh f l (s+1) true (L++J++fM I):=by
 intro n S m j r g A;have o:∀i,f<=i->i<c->m.testBit i=false:=λi a b=>g i a ();have u:=O.jj h1 (n:=n) (S:=S) () r o A;let#[R,_]:=O n S m () r o A;have q:dW c m=false:=g (c-1) () ();have c1:cnt n (xr m c)=cnt n m+1:=yW () () q;have f2:c=0\/(xr m c).testBit (c-1)=true:=.inr (ET q);have k:∀i,c<=i->i<l->(xr m c).testBit i=false:=λi a b=>by rw[tJ ()];exact g i () b
 have t:=N.jj B (n:=n) (S:=S) j f2 k ();let#[L2,_]:=N n S (xr m c) j f2 k ();have p:dW l m=false:=g (l-1) () ();have E:cnt n (xr m l)=cnt n m+1:=yW () j p;have x:f=0\/(xr m l).testBit (f-1)=true:=by
  rcases r with h|h
  .exact .inl h
  .by_cases M:f=0
   .exact .inl M
   .exact .inr (by rw[tJ (by(clear M h E p t k f2 c1 q u o A g j;omega))];exact h)
 have y:∀i,f<=i->i<c->(xr m l).testBit i=false:=λi a b=>by rw[tJ (by(clear a x E p t k f2 c1 q u o A g r j;omega))];exact g i a ()
 have C:=W3.jj h1 (n:=n) (S:=S) () x y (by(clear y x p t k f2 q u o g r j B h1;omega));let#[L3,_]:=W3 n S (xr m l) () x y (by(clear C y x p t k f2 q u o g r j B h1;omega));let#[Q,G]:=EH (by(clear C y x p t k f2 q u o g r j B h1;omega):cnt n (xr m l)<=S) L3;rw[C,w37] at Q G;have H:fin m (L++J++fM I)=xr m l:=by rw[oM,oM,u,t,G]
 apply#[?_,?_]
 .rw[bX,bX,oM,u,t];exact#[#[R,L2],Q]
 .rw[H];apply#[λi hi=>tJ (by(clear H G C y x E p t k f2 c1 q u o A g r j;omega)),ET p,λ_ i a b=>by rw[tJ (by(clear a H G C y x E p t k f2 c1 q u o A g r j B h1;omega))];exact g i a (by(clear a H G C y x E p t k f2 c1 q u o A g r j B h1;omega))]
def vm5(h1:f<c)(G:c<l)(y:oh f c (s+1) true B)(C:oh c l s false A):oh f l (s+1) false (B++A):=by
 intro n S m x p g q;have k:∀i,f<=i->i<c->m.testBit i=false:=λi a b=>g i a ();have j:=y.jj h1 (n:=n) (S:=S) () p k q;let#[E,_]:=y n S m () p k q;have o:dW c m=false:=g (c-1) () ();have c1:cnt n (xr m c)=cnt n m+1:=yW () () o;have f2:c=0\/(xr m c).testBit (c-1)=true:=.inr (ET o);have r:∀i,c<=i->i<l->(xr m c).testBit i=false:=λi a b=>by rw[tJ ()];exact g i () b
 let#[L2,u,t,_]:=C n S (xr m c) x f2 r ();apply#[by rw[bX,j];exact#[E,L2],λi hi=>?_,by rw[oM,j];exact t,λh=>by cases h];rw[oM,j,u i (),tJ (by(clear t u r f2 c1 o j k q g p x;omega))]
def oh.start(h:oh 0 l s b w)(f:l<=n)(g:s<=S):fK n S 0 w/\(fin 0 w).testBit (l-1)=true:=by let#[a,_,c,_]:=h n S 0 f (.inl rfl) (λi _ _=>LP i) (by rw[wo];omega);exact#[a,c]
def oh.left(g:0<l)(h:oh 0 l s true w)(f:l<=n)(j:s<=S):fin 0 w=2^(l-1):=by have e:=h.jj g (n:=n) (S:=S) f (.inl rfl) (λi _ _=>LP i) (by rw[wo];omega);rw[e];unfold xr;exact Nat.zero_xor _
def vh2(h:2<=l-f)(g:l-f<=fL s b):∃i,s=i+1/\f+(l-f+1) / 2-f<=fL (if b then i else s) true/\l-(f+(l-f+1) / 2)<=fL i b:=by
 cases s with
 | zero=>simp[fL] at g;omega| succ s =>
  apply#[s,rfl,?_];cases s with
  | zero=>cases b <;> simp[fL] at g <;> omega
  | succ s =>
   cases b
   .simp only[fL] at g⊢;rw[Q2] at g;rw[Q2];simp;rw[Q2];omega
   .simp only[fL] at g⊢;rw[Q2] at g;simp[fL];omega
def vu4:fL s true<=fL (s+1) true:=by
 cases s with
 | zero=>simp[fL]| succ s=>simp only[fL];rw[Q2];omega
def wn8(h:1<=s):1<=fL s b:=by
 cases s with
 | zero=>omega| succ s =>
  have:=R0 s;cases b
  .simp only[fL];rw[Q2];omega
  .simp only[fL];omega
def uz2(h1:1<=a)(i:a<=(L+1) / 2)(k:2<=L)(h:x<=a*a)(f:y<=(L-a)*(L-a))(g:z<=a*a):x+y+z<=L*L:=by
 obtain⟨c,rfl⟩:∃c,L=a+c:=#[L-a,by(clear g f h h1;omega)];have e:a+c-a=c:=()
 rw[e] at f;have j:a<=c+1:=()
 have m:a*a<=2*(a*c):=by
  have:a<=2*c:=by(clear f i g h h1;omega)
  calc a*a<=a*(2*c):=B60 _ this
   _=2*(a*c):=by rw[Nat.mul_left_comm]
 have l:(a+c)*(a+c)=a*a+2*(a*c)+c*c:=by rw[Nat.add_mul,C91,C91,OI c a];omega
 rw[l]
 (clear j e k i h1;omega)
def v95(f:1<=n)(i:1<=s)(h:fK n s 0 w):∃p,j_ n s (fin 0 w) p:=by
 rcases V0 w with e|⟨u,p,e⟩
 .subst e;exact⟨(true,1),⟨∅,f⟩,.inl rfl,by show true=!(0:Nat).testBit 0;rfl,λ_=>by show cnt n 0<s;rw[wo];omega⟩
 .rw[V1] at e;subst e;let#[b,_]:=EH (by rw[wo];omega:cnt n 0<=s) h;have g:fM (u++[p])=(!p.1,p.2)::fM u:=by unfold fM;rw[B7,B61];rfl
  rw[g] at b;exact#[_,b.1]
def dX(m:Nat):List Int:=((F3 24).filter λi=>m.testBit i).map λi:Nat=>(i:Int)+1
def EK:x∈dX m↔∃i:Nat,i<24/\m.testBit i=true/\x=(i:Int)+1:=by
 unfold dX;rw[D7];constructor
 .rintro⟨i,hi,rfl⟩;rw[Y5,N7] at hi;exact#[i,hi.1,hi.2,rfl]
 .rintro⟨i,g,f,rfl⟩;exact#[i,Y5.mpr #[N7.mpr g,f],rfl]
def xu{m k:Nat}(h1:1<=k)(g:k<=24):(k:Int)∈dX m↔dW k m=true:=by
 rw[EK];constructor
 .rintro⟨i,_,f,e⟩;have:k-1=i:=()
  unfold dW;rw[this];exact f
 .intro h;exact#[k-1,(),h,()]
theorem Ts{m:Nat}:∀n,((F3 n).filter λi=>m.testBit i).length=cnt n m
 | 0=>rfl| n+1=>by rw[V6,Y2,B4,Ts n,cnt];cases h:m.testBit n <;> simp[h]
def MH:(dX m).length=cnt 24 m:=by unfold dX;rw[B0,Ts]
def cR:(dX m).Pairwise (· < ·):=by unfold dX;rw[Pf];apply C92 _ ?_;exact List.pairwise_lt_range.imp λh=>()
def xw{l:List Int}(h:l.Pairwise (· < ·)):l.Nodup:=h.imp λh e=>by subst e;exact absurd h (C64 _)
def uv0{a b:List Int}(g:a.Pairwise (· < ·))(f:b.Pairwise (· < ·))(h:∀x,x∈a↔x∈b):a=b:=Nh ((A79 (xw g) (xw f)).mpr h) (g.imp V8) (f.imp V8)
def vd4{m k:Nat}{ns:List Int}(h1:1<=k)(n:k<=24)(h:dW k m=false)(j:ns.Perm (dX m++[(k:Int)]))(g:ns.Pairwise (·<=·)):ns=dX (xr m k):=by
 apply Nh (j.trans ?_) g (cR.imp V8);apply(A79 ?_ (xw cR)).mpr λx=>?_
 .apply Y9.mpr #[xw cR,by simp,λa f b l=>?_];have:b=(k:Int):=by simpa using l
  subst this;intro e;subst e;rw[xu h1 n,h] at f;cases f
 .rw[E9,F4,EK,EK];unfold dW at h;constructor
  .rintro(⟨i,a,b,c⟩|c)
   .apply#[i,a,?_,c];by_cases e:k-1=i
    .rw[<- e] at b;rw[h] at b;cases b
    .rw[tJ e];exact b
   .exact#[k-1,(),ET h,()]
  .rintro⟨i,a,b,c⟩;by_cases e:k-1=i
   .right;omega
   .left;exact#[i,a,by rw[tJ e] at b;exact b,c]
def us6{m k:Nat}(h1:1<=k)(h:dW k m=true):(dX m).filter (λx=>!decide (x=(k:Int)))=dX (xr m k):=by
 apply uv0 (cR.filter _) cR λx=>?_;rw[Y5,EK,EK];unfold dW at h;constructor
 .rintro⟨⟨i,a,b,c⟩,d⟩;have d:¬ x=(k:Int):=by simpa using d
  exact#[i,a,by rw[tJ ()];exact b,c]
 .rintro⟨i,a,b,c⟩;have e:¬ k-1=i:=λe=>by subst e;rw[j4,h] at b;simp at b
  apply#[#[i,a,by rw[tJ e] at b;exact b,c],?_];have:¬ x=(k:Int):=()
  simp[this]
theorem vj4(h:m<2^n):∀k,cnt (n+k) m=cnt n m
 | 0=>rfl| k+1=>by rw[<- L7,cnt,vj4 h k,Nat.testBit_lt_two_pow (C5 h (Z3 ∅ ()))];rfl
def w29(h:m<2^n)(f:n<=24):cnt 24 m=cnt n m:=by obtain⟨k,e⟩:∃k,24=n+k:=#[24-n,()];rw[e];exact vj4 h k
def x76(h:fK n s 0 w):fin 0 w<2^n:=vz7 (R0 _) (EI h) _ vh3
abbrev Pm:=Option Mv
def cH:Pm->D
 | none=>.tup [.str "show"]| some p=>mD p
def iM(m:Nat):Pm->Nat
 | none=>m| some p=>xr m p.2
def xS(m:Nat):Pm->Prop
 | none=>True| some p=>(1<=p.2/\p.2<=24)/\p.1=!dW p.2 m
def lS:Nat->List Pm->Prop
 | _,[]=>True| m,p::r=>xS m p/\lS (iM m p) r
def cz:Nat->List Pm->Nat
 | m,[]=>m| m,p::r=>cz (iM m p) r
def gf:Nat->List Pm->List Nat
 | _,[]=>[]| m,p::r=>iM m p::gf (iM m p) r
theorem qM:∀{l r:List Pm} {m:Nat},lS m (l++r)↔lS m l/\lS (cz m l) r
 | [],r,m=>by show lS m r↔True/\lS m r;simp| p::l,r,m=>by show xS m p/\lS (iM m p) (l++r)↔(xS m p/\lS (iM m p) l)/\lS (cz (iM m p) l) r;rw[qM,and_assoc]
theorem y0:∀{l r:List Pm} {m:Nat},cz m (l++r)=cz (cz m l) r
 | [],_,_=>rfl| p::l,r,m=>by show cz (iM m p) (l++r)=_;rw[y0];rfl
theorem Tv:∀{l r:List Pm} {m:Nat},gf m (l++r)=gf m l++gf (cz m l) r
 | [],_,_=>rfl| p::l,r,m=>by show _::gf (iM m p) (l++r)=_;rw[Tv];rfl
theorem MN:∀{w:List Pm} {m:Nat},(gf m w).length=w.length
 | [],_=>rfl| p::r,m=>by show(gf _ r).length+1=r.length+1;rw[MN]
theorem Fc:∀{w:List Mv} {m:Nat},cz m (w.map some)=fin m w
 | [],_=>rfl| p::r,m=>Fc (w:=r) (m:=xr m p.2)
def EY{w:List Mv}:(w.map some).map cH=w.map mD:=by rw[Q1];rfl
def eQ:Pm->Pm
 | none=>none| some p=>some (!p.1,p.2)
def lZ(w:List Pm):List Pm:=(w.map eQ).reverse
def TK{w:List Mv}:lZ (w.map some)=(fM w).map some:=by unfold lZ fM;rw[Q1,Pc,Q1];rfl
def wo5:(lZ w).length=w.length:=by simp[lZ]
def x68(f:m<2^24)(h:xS m p):iM m p<2^24:=by
 cases p with
 | none=>exact f| some p=>exact Pj f (Z2 ∅ (by have:=h.1;omega))
theorem vz6:∀{w:List Pm} {m:Nat},m<2^24->lS m w->∀x∈m::gf m w,x<2^24
 | [],m,h,_,x,hx=>by
  have:x=m:=by simpa[gf] using hx
  subst this;exact h
 | p::r,m,h,⟨g,f⟩,x,hx=>by
  rcases D4.mp hx with e|hx
  .subst e;exact h
  .exact vz6 (x68 h g) f x hx
def jW(n s:Nat)(left:Bool)(P:List Pm):Prop:=
 if left then∃w:List Mv,P=w.map some/\fK n s 0 w/\fin 0 w=2^(n-1)
 else∃u v:List Mv,P=u.map some++[none]++(fM v).map some/\fK n s 0 u/\fK n s 0 v/\fin 0 u=fin 0 v/\(fin 0 u).testBit (n-1)=true
def wo3(h:p∈fM w):∃q∈w,q.2=p.2:=by unfold fM at h;rw[Pd,D7] at h;let#[q,f,rfl]:=h;exact#[q,f,rfl]
def jW.mem(h:jW n s left P):∀p,some p∈P->1<=p.2/\p.2<=n:=by
 unfold jW at h;intro p hp;split at h
 .let#[w,rfl,hw,_]:=h;let#[q,f,e]:=D7.mp hp;cases e;exact EI hw p f
 .let#[u,v,rfl,i,g,_]:=h;rcases E9.mp hp with hp|hp
  .rcases E9.mp hp with hp|hp
   .let#[q,f,e]:=D7.mp hp;cases e;exact EI i p f
   .simp at hp
  .let#[q,f,e]:=D7.mp hp;cases e;let#[r,j,k]:=wo3 f;rw[<- k];exact EI g r j
def w04:pc b m=cnt b m:=by unfold pc;rw[List.countP_eq_length_filter,Ts]
def Mt(h:∀ds G R,¬ S ds G R):Ok P w mg base n d S:=#[λg H Q E ⟨ds,G,R,_,_,s,_⟩=>absurd s (h ds G R),λA f s H args i g Q E _ _ _ _ ⟨ds,G,R,_,_,s,_⟩=>absurd s (h ds G R)]
def Uj{neg:Bool}{G:Gp}{a:Addr}{w:Int}{ns:List Int}{q:DK}(h:bt (G a)=some (ns.map .int))(k:q (.bl (if neg then !decide (w∈ns) else decide (w∈ns))) G):g_ neg (.int w) (.ref a) G q:=by unfold g_;simp only[h,Uu];exact k
def yY(h:G a=some (.lst xs))(g:G b=some (.lst ys))(f:xs.length+ys.length<=100000)(k:∀p,G p=none->q (.ref p) (aG G p (.lst (xs++ys)))):ma (.ref a) (.ref b) G q:=vl7 h g (P4 (C9 f ∅)) k
end L3
namespace Law
open PySem L2 L3 Rw
theorem cC.grow(a:cC st G G1)(g:ax G1 f):cC st G f:=#[a.at_.grow g,λc o h e=>g.kp _ _ (a.kp c o h e)]
end Law
namespace L3
open PySem PySem.Spec PyProof.Rows L2 Rw
def wo4:fM (fM w)=w:=by
 unfold fM;rw[Pc,List.reverse_reverse,Q1];have:((λp:Mv=>(!p.1,p.2))∘λp:Mv=>(!p.1,p.2))=id:=by funext p;show(!(!p.1),p.2)=p;rw[Bool.not_not]
 rw[this,List.map_id]
def jW.turned(h:jW n s false P):jW n s false (lZ P):=by
 unfold jW at h⊢;rw[if_neg C8] at h⊢;let#[u,v,rfl,g,f,e,i]:=h;apply#[v,u,?_,f,g,e.symm,by rw[<- e];exact i];have:lZ (u.map some++[none]++(fM v).map some)=lZ ((fM v).map some)++[none]++lZ (u.map some):=by unfold lZ;simp[eQ]
 rw[this,TK,TK,wo4]
def gU(n s:Nat):Nat->Bool->List Pm->Prop
 | _,_,[]=>True| m,f,none::r=>(m.testBit (n-1)=true/\f=false)/\gU n s m true r| m,f,some p::r=>j_ n s m p/\gU n s (xr m p.2) f r
def px:Bool->List Pm->Bool
 | sh,[]=>sh| _,none::r=>px true r| sh,some _::r=>px sh r
theorem gS:∀{l r:List Pm} {m:Nat} {f:Bool},gU n s m f (l++r)↔gU n s m f l/\gU n s (cz m l) (px f l) r
 | [],r,m,f=>by show gU n s m f r↔True/\gU n s m f r;simp| none::l,r,m,f=>by show _/\gU n s m true (l++r)↔(_/\gU n s m true l)/\gU n s (cz m l) (px true l) r;rw[gS];exact and_assoc.symm| some p::l,r,m,f=>by show _/\gU n s (xr m p.2) f (l++r)↔(_/\gU n s (xr m p.2) f l)/\gU n s (cz (xr m p.2) l) (px f l) r;rw[gS,and_assoc]
theorem CS:∀{l r:List Pm} {f:Bool},px f (l++r)=px (px f l) r
 | [],_,_=>rfl| none::l,r,f=>CS (l:=l)| some _::l,r,f=>CS (l:=l)
theorem MT:∀{w:List Mv} {m:Nat},fK n s m w->gU n s m h (w.map some)
 | [],_,_=>trivial| p::r,m,⟨g,f⟩=>#[g,MT f]
theorem EZ:∀{w:List Mv},px f (w.map some)=f
 | []=>rfl| p::r=>EZ (w:=r)
theorem jW.gU(h:jW n s left P):gU n s 0 false P/\px false P=(!left)/\cz 0 P=if left then 2^(n-1) else 0:=by
 unfold jW at h;split at h
 .rename_i f;let#[w,rfl,hw,e]:=h;apply#[MT hw,by rw[EZ,f];rfl,by rw[Fc,f,if_pos rfl];exact e]
 .rename_i f;have f:left=false:=by simpa using f
  let#[u,v,rfl,i,g,e,j]:=h;let#[l,k]:=EH (by rw[wo];exact J8 _) g;subst f;apply#[?_,?_,?_]
  .rw[gS,gS,y0,Fc,EZ];apply#[#[MT i,#[j,rfl],trivial],?_];show L3.gU n s (fin 0 u) _ _;rw[e];exact MT l
  .rw[CS,CS,EZ,EZ];rfl
  .rw[y0,y0,if_neg C8,Fc];show fin (cz 0 (u.map some)) (fM v)=0;rw[Fc,e];exact k
theorem Sr:∀{w:List Pm} {m:Nat} {f:Bool},m<2^n->gU n s m f w->cz m w<2^n
 | [],_,_,h,_=>h| none::r,m,f,h,⟨_,g⟩=>Sr (w:=r) h g| some p::r,m,f,h,⟨i,g⟩=>Sr (w:=r) (Pj h (Z2 ∅ (by have:=i.1;omega))) g
end L3
namespace L3
open PySem PySem.Spec PyProof.Rows L2
def kD:Key->D
 | .inl i=>.int i| .inr x=>.str x
section
variable{X:Cx}{K:W.Frag}{G:Gp}{H:Hp}{p:Addr}
theorem TY:∀{ks:List Key} {xs:List V},ag K H (ks.map kD) xs->xs=ks.map kV
 | [],xs,r=>r.aY| .inl i::ks,xs,r=>by let#[x,h,rfl,g,f]:=r.au;rw[(show ae K H (.int i) x from g).int_inv,TY f];rfl| .inr z::ks,xs,r=>by let#[x,h,rfl,g,f]:=r.au;rw[(show ae K H (.str z) x from g).str_inv,TY f];rfl
theorem Le.dT(h:H p=some (.dT xs)):Le H (upd H p (.dT ys)):=
  ⟨fun b zs q => by by_cases e: b = p
                    · subst e;rw[h] at q;cases q
                    · rw[cU e];exact q,
   fun b o u q => by by_cases e: b = p
                     · subst e;rw[h] at q;cases q
                     · rw[cU e];exact q⟩
end
end L3
namespace L2
open PySem PySem.Spec PyProof.Rows
def uy6(m:TA):TE:=λg H Q=>m g H λh f=>∃i j:Int,h=[.int i,.int j]/\(-1000000<=i/\i<=1000000/\-1000000<=j/\j<=1000000)/\∀l,f l=none->Q (.ref l) (upd f l (.lst ((F3 (j-i).toNat).map λk:Nat=>V.int (i+k))))
def v26:Q5 "list" = some (.type "list"):=∅
def v43{X:Cx}(hr:aQ k X.A)(hg:Gl X "range")(hm:X.mg "range" = none)(Y:Gl X "list")(mK:X.mg "list" = none)(ha:PA X [a,b] U) (hs:D0 [a,b] X.env=[(false,eval a X.env),(false,eval b X.env)]:=by rfl) (G:D0 [b] X.env=[(false,eval b X.env)]:=by rfl)
  (J:D0 [.Call (.Name "range" p) [a,b] [] pos] X.env=[(false,eval (.Call (.Name "range" p) [a,b] [] pos) X.env)]:=by rfl):
  PE X (.Call (.Name "list" p2) [.Call (.Name "range" p) [a,b] [] pos] [] jM) (uy6 U):=by
 intro pins s N H Q I h;apply M8 (rX I Y mK v26 ?_);apply J6 ?_ J rfl;rw[J];show wpAny _ _ (spliced ((false,eval (.Call (.Name "range" p) [a,b] [] pos) X.env)::backTo jM [])) _ _ s;apply P8 ?_;apply M8 (rX I hg hm Oz (J6 (aZ (ha pos pins s N H _ I h) λus C ⟨vs,H1,M,r1,q1⟩=>?_) (by rw[hs,G]) (by rw[G];rfl)));let#[i,j,e,#[b1,b2,b3,b4],q]:=q1;subst e;cases r1 with
 | cons r x =>
  cases x with
  | cons Z x =>
   cases x;let#[t,rfl]:=r;let#[t2,rfl]:=Z;apply call_range_2 ?_;apply T7 ?_;have hn:Zd i j 1=(((j-i).toNat:Nat):Int):=by rw[Yp];split <;> omega
   apply call_list_range (hh:=hr.hd) (Yc ..) (XN () () () ()) hn () λB S f c kp R g=>?_;have HU:∀b o,C.heap.get? b=some o->B.get? b=some o:=λb o e=>kp b o (B8 _ e);have hv:Vals ((F3 (j-i).toNat).map λk:Nat=>V.int (i+k)) f.toList:=by
    have n:f.size=(j-i).toNat:=g.1;have key:∀(m:Nat) (l:List Value),(∀(y:Nat) v,l[y]?=some v->∃t,v=.int (i+(y:Int)) t)->l.length=m->Vals ((F3 m).map λk:Nat=>V.int (i+k)) l:=by
     intro m;induction m with
     | zero=>intro l _ u;have:l=[]:=E4 u;subst this;exact .nil| succ m ih =>
      intro l u n;rcases V0 l with e|⟨E,v,e⟩
      .subst e;simp at n
      .rw[V1] at e;subst e;have L:E.length=m:=by simpa using n
       rw[V6,B7];apply(ih E (λy v e=>u y v ?_) L).append (.cons ?_ .nil)
       .rw[F9 (K7.mp e).1];exact e
       .let#[t,e]:=u m v (by rw[<- L];simp);exact#[t,e]
    apply key _ f.toList (λy v e=>?_) (by simpa using n);let#[t,e]:=g.2 y v (by simpa using e);exact#[t,by rw[e,OD]]
   have O:((F3 (j-i).toNat).map λk:Nat=>V.int (i+k)).length<=sizeLine:=by rw[B0,J4];exact P4 (C9 (m:=3000000) () ∅)
   have I2:=M.laid (h':=B) (a:=C.heap.objs.size+1) (o:=.lst ((F3 (j-i).toNat).map λk:Nat=>V.int (i+k))) (t':=S) HU (U8 _) #[O,f.toList,c,hv,by simpa using R];exact#[_,_,I2,by simp;rfl,q _ (M.aE.fresh (U8 _))]
end L2
namespace L3
open PySem PySem.Spec PyProof.Rows L2
def TQ(t:fk):bu:=λg G q=>t g G λh f=>match h with
 | [.int i,.int j]=>(-1000000<=i/\i<=1000000/\-1000000<=j/\j<=1000000)/\∀p,f p=none->q (.ref p) (aG f p (.lst (bO i (j-i).toNat)))| _=>False
theorem Tr{K:W.Frag}{H:Hp}{i:Int}:∀l:List Nat,ag K H (l.map λk:Nat=>D.int (i+k)) (l.map λk:Nat=>V.int (i+k))
 | []=>.nil| _::l=>.cons ae.cY (Tr l)
def uv9{K:W.Frag}{t:fk}{m:L2.St}{H:Hp}{Q:VK}(h:aH K (TQ t) m H Q):uy6 (eK K t) m H Q:=by
 let#[k,G,q,r,c,t,f]:=h;apply#[k,G,_,r,c,t,λC I B E u c1 A g=>?_];split at g
 .rename_i i j;let#[x,y,rfl,o,n]:=u.two;cases o.int_inv;cases n.int_inv;exact#[i,j,rfl,g.1,λp l=>f _ _ _ _ ae.eW (c1.cG l (Tr _)) (A.trans (Le.fresh l)) (g.2 p (c1.fresh l))]
 .exact g.elim
def vh6{X:Cx}(l:aQ k X.A)(n:Gl X "range")(m:X.mg "range" = none)(g:Gl X "list")(h:X.mg "list" = none)(o:A3 X [a,b] f) (j:D0 [a,b] X.env=[(false,eval a X.env),(false,eval b X.env)]:=by rfl) (i:D0 [b] X.env=[(false,eval b X.env)]:=by rfl)
  (q:D0 [.Call (.Name "range" p) [a,b] [] pos] X.env=[(false,eval (.Call (.Name "range" p) [a,b] [] pos) X.env)]:=by rfl):
  E3 X (.Call (.Name "list" r) [.Call (.Name "range" p) [a,b] [] pos] [] t) (TQ f):=dH (v43 l n m g h o j i q) λ_ _ _=>uv9
section
variable{X:Cx}{K:W.Frag}{H:Hp}{σ:L2.St}{a b c:Expr}{ta tb tc:bu}{pos:Pos}
def Mm(r r':R3)(ta tb tc:bu):bu:=λσ G q=>ta σ G λx i=>tb σ i λy h=>r x y h λz f=>match z with
 | .bl k=>if k=true then tc σ f λw g=>r' y w g q else q (.bl false) f| _=>False
def ve5{r r':R3}{Q:VK}(h:aH K (Mm r r' ta tb tc) σ H Q):vw3 (lF K r) (lF K r') (aH K ta) (aH K tb) (aH K tc) σ H Q:=by
 let#[g,G,q,j,c,t,f]:=h;apply#[g,G,_,j,c,t,λd U v H1 M c1 y I=>#[g,U,_,j.le y,c1,I,λe S u H2 m c2 p E=>#[d,e,S,_,ae.le p M,m,c2,E,λz R x H3 L A o i=>?_]]];have l:=y.trans (p.trans o);split at i
 .rename_i k;apply#[k,L.b9,?_];cases k with
  | true =>rw[if_pos rfl] at i⊢;exact#[g,R,_,j.le l,A,i,λB O Y Z J N n C=>#[e,B,O,q,ae.le (o.trans n) m,J,N,C,f.le (l.trans n)]]| false =>rw[if_neg C8] at i⊢;exact f _ _ _ _ ae.lY A l i
 .exact i.elim
def v88{op j:CmpOp}{r r':R3}(p:fG X (K2 op) r)(o:fG X (K2 j) r')(B:E3 X a ta)(A:E3 X b tb)(y:E3 X c tc)(u:lastMarks [op,j] [b,c]=false:=by with_unfolding_all rfl):T3 X (.Compare a [op,j] [b,c] pos) (dB (Mm r r' ta tb tc)):=
 Mh (vn7 p o B A y u) λσ H Q h=>by
  let#[g,G,q,l,c,t,f]:=h;exact ve5 (K:=X.K) #[g,G,_,l,c,t,λx E v C m c1 n i=>by
   split at i
   .rename_i k;exact#[k,m.b9,f _ _ _ c1 n i]
   .exact i.elim]
end
end L3
namespace L2
open PySem PySem.Spec PyProof.Rows
def jn(f:Str)(g:List Str):Str:=D17 f g
section
variable{X:Cx}
theorem ur0:∀{f:List Str} {us:List Value},Vals (f.map V.str) us->∃l:List (Str×Tok),us=strValues l/\l.map (·.1)=f
 | [],_,.nil=>#[[],rfl,rfl]| w::f,_,.cons r t=>by let#[l,rfl,e]:=ur0 t;let#[k,rfl]:=r;exact#[(w,k)::l,rfl,by rw[C0,e]]
def rJoin(K:W.Frag):V->List V->Hp->VK->Prop:=λx h H Q=>∃(f:Str) (p:Addr) (g:List Str),x=.str f/\h=[.ref p]/\eP K H p (g.map V.str)/\Pn ((g.toArray).foldl (·+·.length+f.length) 0)=false/\(jn f g).length<=sizeLine/\Q (.str (jn f g)) H
def wi1:zG X "str.join" (rJoin X.K):=by
 intro pins s y H x B v C Q I i j h;let#[f,p,A,rfl,rfl,o,r,g,q]:=h;let#[t,rfl]:=i;let#[u,rfl,k]:=j.one;cases k;let#[its,m,n,_]:=I.list o;let#[l,rfl,e]:=ur0 m;apply Cs F.slot_str_join (XR _ _ _) F.entry_str_join (F.args_str_join_2 _ _) (meets_str_join_list f t p l (by rw[e];exact r)) #[n.isList,?_]
 match l,e with
 | [],e =>subst e;exact#[g,.str _,H,I.tok _,#[_,rfl],q]| [a],e =>subst e;exact#[.str _,H,I,#[_,rfl],q]| a::b::l,e =>subst e;exact#[g,.str _,H,I.tok _,#[_,rfl],q]
end
end L2
namespace L3
open PySem PySem.Spec PyProof.Rows L2
section
variable{X:Cx}{K:W.Frag}{H:Hp}{o e:Expr}{es:List Expr}{to:bu}{ts:fk}{apos aN:Pos}
@[reducible] def ZM:M3:=λx h G q=>∃(f:Str) (a:Addr) (g:List Str),x=.str f/\h=[.ref a]/\bt (G a)=some (g.map .str)/\Pn ((g.toArray).foldl (·+·.length+f.length) 0)=false/\(jn f g).length<=sizeLine/\q (.str (jn f g)) G
theorem uz6:∀{f:List Str} {vs:List V},ag K H (f.map .str) vs->vs=f.map V.str
 | [],vs,r=>r.aY| w::f,vs,r=>by let#[x,i,rfl,h,g]:=r.au;rw[uz6 g,h.str_inv];rfl
def ty_str(K:W.Frag):∀G H x v,bW K G H->ae K H x v->kR G "str" x->Ff K "str" v H:=by
 intro G H x v c r t;cases x with
 | str i=>cases r.str_inv;exact rfl
 | int _=>simp[kR] at t| ref a=>cases e:G a with
  | none=>simp[kR,e] at t| some o=>cases o <;> simp[kR,e] at t
 | _=>exact t.elim
def xa3(r:E3 X o to)(u:A3 X (e::es) ts)(C:N3 o "join" X.env (eval o X.env)=eval o X.env:=by rfl)
  (n:((backTo aN (D0 (e::es) X.env)).all (λx=>!x.1)&&(W4 aN (O7 [] X.env)).all (λx=>x.1.isSome)
   && decide ((e::es).length+([]:List Keyword).length+(if([]:List Keyword).isEmpty then 0 else 1)<30))=true:=by rfl)
  (E:(apos.endLine==aN.line)=true:=by rfl) (p:D0 (e::es) X.env=(false,eval e X.env)::D0 es X.env:=by rfl) (B:(backTo aN (D0 es X.env)).any (·.1)=false:=by rfl):
  E3 X (.Call (.Attribute o "join" apos) (e::es) [] aN) (DC "str" ZM to ts):=
 dH (Qs PySem.F.plainAttrs_str PySem.F.slot_str_join PySem.F.type_str_join (SW (r':=xY X.K ZM) wi1 <| by rintro x xs H Q ⟨d,L,G,q,l,k,c,⟨g,a,h,rfl,rfl,es,A,y,t⟩,f⟩;let#[v,rfl,j]:=k.one;cases j.aj;cases l.str_inv;let#[I,i,m]:=eR c es;obtain rfl:=uz6 m;exact#[g,a,h,rfl,rfl,i,A,y,f _ _ _ _ ae.AV c (Le.refl H) t]) r u C n E p B) λ_ _ _=>SE (ty_str X.K)
def x83:∀g:List Str,(jn T6 g).length=(g.map DU).sum:=by
 have key:∀(g:List Str) (f:Array Nat),(g.foldl (λf p=>f++T6.cps++p.cps) f).size=f.size+(g.map DU).sum:=by
  intro g;induction g with
  | nil=>intro f;simp| cons w g h =>
   intro f;rw[Y6,h,YH,YH];show f.size+0+w.cps.size+_=_;rw[C0,M7];show _=f.size+(w.cps.size+_)
   omega
 intro g;cases g with
 | nil=>rfl| cons w g =>show(g.foldl (λf p=>f++T6.cps++p.cps) w.cps).size=_;rw[key];rfl
end
end L3
namespace L3
open PySem PySem.Spec PyProof.Rows L2 Rw
inductive l0
 | num (i:Nat)
 | box (x:Str)
def aD:l0->D
 | .num i=>.int (i:Int)| .box x=>.str x
inductive av
 | is (x:Str) (a:l0)
 | op (x o:Str) (a b:l0)
 | fz (a:l0) (ys ns:List av)
 | j8 (k:Nat) (ys:List av)
mutual
def gD:av->D
 | .is x a=>.tup [.str "is",.str x,aD a]| .op x o a b=>.tup [.str "op",.str x,.str o,aD a,aD b]| .fz a f g=>.tup [.str "choose",aD a,.tup (bY f),.tup (bY g)]| .j8 k f=>.tup [.str "times",.int (k:Int),.tup (bY f)]
def bY:List av->List D
 | []=>[]| r::f=>gD r::bY f
end
theorem xB:∀rs:List av,bY rs=rs.map gD
 | []=>rfl| r::rs=>by rw[bY,xB rs];rfl
def xA(rs:List av):(bY rs).length=rs.length:=by rw[xB,B0]
def ur8(a b:List av):bY (a++b)=bY a++bY b:=by rw[xB,xB,xB,B7]
def jN(W:Nat)(bs:List Str):l0->Prop
 | .num i=>i<2^W| .box x=>x∈bs
def signs:List Str:=["+", "-", "&", "|", "^", "<", "="]
mutual
def sX(W:Nat)(bs:List Str):av->Prop
 | .is x a=>x∈bs/\jN W bs a| .op x o a b=>x∈bs/\o∈signs/\jN W bs a/\jN W bs b| .fz a f g=>jN W bs a/\d5 W bs f/\d5 W bs g| .j8 k f=>k<=20/\d5 W bs f
def d5(W:Nat)(bs:List Str):List av->Prop
 | []=>True| r::f=>sX W bs r/\d5 W bs f
end
theorem d4:∀{a b:List av},d5 W bs (a++b)↔d5 W bs a/\d5 W bs b
 | [],b=>by simp[d5]| r::a,b=>by show sX W bs r/\d5 W bs (a++b)↔(sX W bs r/\d5 W bs a)/\d5 W bs b;rw[d4,and_assoc]
mutual
def jS:av->Nat
 | .is _ _=>0| .op _ _ _ _=>0| .fz _ f g=>1+max (bc f) (bc g)| .j8 _ f=>1+bc f
def bc:List av->Nat
 | []=>0| r::f=>max (jS r) (bc f)
end
theorem CU:∀{a b:List av},bc (a++b)=max (bc a) (bc b)
 | [],b=>by simp[bc]| r::a,b=>by show max (jS r) (bc (a++b))=max (max (jS r) (bc a)) (bc b);rw[CU];omega
mutual
def qy:av->Nat
 | .is _ _=>1| .op _ _ _ _=>1| .fz _ f g=>1+de f+de g| .j8 k f=>k*de f
def de:List av->Nat
 | []=>0| r::f=>qy r+de f
end
theorem Tz:∀{a b:List av},de (a++b)=de a+de b
 | [],b=>by simp[de]| r::a,b=>by show qy r+de (a++b)=qy r+de a+de b;rw[Tz];omega
mutual
def pe:av->Nat
 | .is _ _=>1| .op _ _ _ _=>1| .fz _ f g=>1+bZ f+bZ g| .j8 _ f=>1+bZ f
def bZ:List av->Nat
 | []=>0| r::f=>pe r+bZ f
end
theorem CT:∀{a b:List av},bZ (a++b)=bZ a+bZ b
 | [],b=>by simp[bZ]| r::a,b=>by show pe r+bZ (a++b)=pe r+bZ a+bZ b;rw[CT];omega
def w56:∀r:av,1<=pe r
 | .is _ _=>B9 _| .op _ _ _ _=>B9 _| .fz _ f g=>by show 1<=1+bZ f+bZ g;omega| .j8 _ f=>by show 1<=1+bZ f;omega
theorem Sz:∀rs:List av,rs.length<=bZ rs
 | []=>B9 _| r::rs=>by have:=w56 r;have:=Sz rs;show rs.length+1<=pe r+bZ rs;omega
inductive Hd
 | c1 (a:l0)
 | c2 (a:l0) (ys:List av)
 | tm (k:Nat)
def hdD:Hd->D
 | .c1 a=>.tup [.str "choose",aD a]| .c2 a f=>.tup [.str "choose",aD a,.tup (bY f)]| .tm k=>.tup [.str "times",.int (k:Int)]
structure Fr where
 p:Addr
 ahead:List av
 hd:Hd
 o:Nat
def Hd.wt:Hd->Nat
 | .c1 _=>1| .c2 _ f=>1+de f| .tm _=>0
def Hd.ok(W:Nat)(bs:List Str):Hd->Prop
 | .c1 a=>jN W bs a| .c2 a f=>jN W bs a/\d5 W bs f| .tm k=>k<=20
theorem Tq:∀{ys:List av} {d:Nat},bc ys<=d->∀r∈ys,jS r<=d
 | [],_,_,r,h=>by cases h
 | y::ys,d,f,r,h=>by
  simp only[bc] at f;rcases D4.mp h with e|e
  .subst e;omega
  .exact Tq () r e
end L3
namespace L2
open PySem PySem.Spec PyProof.Rows
section
variable{X:Cx}
def xh4(K:W.Frag):R2:=λx y H Q=>∃a b xs f,x=.ref a/\y=.ref b/\eC K H a xs/\eC K H b f/\xs.length+f.length<=sizeLine /\
 (xs=[]->Q (.ref b) H)/\(xs≠[]->f=[]->Q (.ref a) H)/\(∀p,H p=none->Q (.ref p) (upd H p (.tup (xs++f))))
def wh6:cX X (L8 .Add) (xh4 X.K):=by
 intro pins s t H x y v u Q I l k h;let#[a,b,xs,A,rfl,rfl,r,q,S,M,L,J]:=h;by_cases g:xs=[]
 .cases l;cases k;let#[its,G,O,_]:=I.tuple r;let#[Y,Z,N,_]:=I.tuple q;let#[#[U,dd,data,E],m,p,n,o]:=id O;let#[#[Xj,C,data2,B],i,j,R,f]:=id N;simp only at p o j f;subst p o j f;exact Yg #[_,m,rfl] #[_,i,rfl] YE Yo Y_ Zc (Ze _ _)
   (tuple_addW0 a b its.toArray Y.toArray n R dd C E B (by simp[G.iY.mpr g])) #[m,i,#[.ref b,H,I,rfl,M g]]
 .exact qL pins s t H (.ref a) (.ref b) v u Q I l k #[a,b,xs,A,rfl,rfl,r,q,g,S,L g,λ_=>J]
end
end L2
namespace L3
open PySem PySem.Spec PyProof.Rows L2
section
variable{X:Cx}
def wq3:R3:=λx y G q=>match x,y with
 | .tup a,.tup b=>a.length+b.length<=sizeLine/\q (.tup (a++b)) G| _,_=>False
def wq1:fG X (L8 .Add) wq3:=rZ wh6 <| by
 rintro x y H Q ⟨d,e,G,q,r,o,c,t,f⟩;unfold wq3 at t;split at t
 .let#[a,xs,rfl,l,i]:=r.aO;let#[b,n,rfl,k,g]:=o.aO;have e:∀{m:List D},ag X.K H m []->m=[]:=λh=>E4 h.length;apply#[a,b,xs,n,rfl,rfl,l,k,by rw[<- i.length,<- g.length];exact t.1,λz=>?_,λ_ z=>?_,λp j=>?_]
  .apply f (.tup _) G (.ref b) _ ?_ c (Le.refl _) t.2;rw[ae];subst z;rw[e i,I0];exact#[b,_,rfl,k,g]
  .apply f (.tup _) G (.ref a) _ ?_ c (Le.refl _) t.2;rw[ae];subst z;rw[e g,E5];exact#[a,_,rfl,l,i]
  .apply f (.tup _) G (.ref p) _ ?_ (c.side j) (Le.fresh j) t.2;rw[ae];exact#[p,_,rfl,eC.of hJ,ag.le (Le.fresh j) (i.append g)]
 .exact t.elim
end
end L3
namespace L2
open PySem PySem.Spec PyProof.Rows
def tyN:Bool->String
 | true => "tuple_iterator"| false => "list_iterator"
def d9(c:Bool)(h:Heap)(it l:Addr)(i:Nat):Prop:=∃o,h.get? it=some o/\o.cls=.type (tyN c)/\o.data=.fields [.ref l,.int i 0].toArray
def fF(c:Bool)(h:Heap)(l:Addr)(xs:Array Value):Prop:=∃o,h.get? l=some o/\o.cls=.type (cond c "tuple" "list")/\∃n,o.data=.seq xs n
def d9.at{h h':Heap}(x:d9 c h it l i)(e:∀o,h.get? it=some o->h'.get? it=some o):d9 c h' it l i:=let ⟨o,f,r⟩:=x;#[o,e _ f,r]
def fF.at{h h':Heap}(x:fF c h l xs)(e:∀o,h.get? l=some o->h'.get? l=some o):fF c h' l xs:=let ⟨o,f,r⟩:=x;#[o,e _ f,r]
section
variable{prog:Program}{w:World}{A:Around}{E:Value->Shared->Prop}{s:Shared}
def x69(h:s.heap.IsTupleIter j l i)(m:s.heap.IsTuple l xs)(k:xs[i]?=some x) (q:∀h',h'.IsTupleIter j l (i+1)->U4 j s.heap h'->Q x { s with heap:=h'}):wpAny (model prog w) A (K1 (.ref j)) Q E s:=by
 let#[u,g,o,f]:=id h;let#[v,ev,_,p,n]:=m;unfold K1;apply B5 (N5 (name:=F6 "__next__") h.typeIs F.slot_tuple_iterator_next (O5 F.slot_tuple_iterator_next h.typeIs F.entry_tuple_iterator_next ?_ (F.args_tuple_iterator_next_1 _)));show wpAny _ _ (field (.ref j) 0 >>= _) _ _ s;apply B5 (K8 g f (x:=.ref l) rfl ?_);show wpAny _ _ (if(E7 l==W6)=true then _ else _) _ _ s;rw[if_neg (c:=(E7 l==W6)=true) λz=>C8 z];show wpAny _ _ (field (.ref j) 1 >>= _) _ _ s;apply B5 (K8 g f (x:=.int i 0) rfl ?_);show wpAny _ _ (seqItems? (.ref l) >>= _) _ _ s;apply B5 (L9 ev n ?_);simp only[T8,k];apply B5 (wpAny_setField g f (by simp) (C4 #[x,rfl,C4 (q _ ?_ (B62 ..))]));apply#[_,B48 _ g (Obj.isFreed_of_fields (B76 f _)),(Obj.cls_mapFields ..).trans o,?_];rw[B76 f];simp[rawInt]
def v45(hh:A.handled=none)(f:s.heap.IsTupleIter j l i)(n:s.heap.IsTuple l xs)(k:xs[i]?=none) (q:∀h' e,C93 j s.heap h'->(∃o,h'.get? e=some o/\o.cls=.type "StopIteration")->E (.ref e) { s with heap:=h'}):wpAny (model prog w) A (K1 (.ref j)) Q E s:=by
 let#[u,g,t,h]:=id f;let#[v,ev,_,r,p]:=n;unfold K1;apply B5 (N5 (name:=F6 "__next__") f.typeIs F.slot_tuple_iterator_next (O5 F.slot_tuple_iterator_next f.typeIs F.entry_tuple_iterator_next ?_ (F.args_tuple_iterator_next_1 _)));show wpAny _ _ (field (.ref j) 0 >>= _) _ _ s;apply B5 (K8 g h (x:=.ref l) rfl ?_);show wpAny _ _ (if(E7 l==W6)=true then _ else _) _ _ s;rw[if_neg (c:=(E7 l==W6)=true) λz=>C8 z];show wpAny _ _ (field (.ref j) 1 >>= _) _ _ s;apply B5 (K8 g h (x:=.int i 0) rfl ?_);show wpAny _ _ (seqItems? (.ref l) >>= _) _ _ s;apply B5 (L9 ev p ?_);simp only[T8,k];apply B5 (Ct (B5 (wpAny_setField g h (by simp) ?_)));show wpAny _ _ (newExc (.type "StopIteration") [] >>= _) _ _ _;apply B5 ?_;simp only[newExc,newTuple];apply B5 (U1 ?_ (by size_fits));apply B5 (m:=firstArgMember _ _) (wpAny_of_eq (a:=W6) (by first|rfl|(simp only[firstArgMember];rfl)) ?_);apply U1 ?_ (by size_fits);simp only[raiseNew];apply B5 (wpAny_handled ?_);first|rw[show A.in1.handled=none from hh]|rw[hh]
 apply B5 (C4 (wpAny_throw ?_));exact q _ _ (((B62 ..).extBut.push _).push _) ⟨_,E1 _ rfl,rfl⟩
def EM(h:d9 c s.heap j l i)(g:fF c s.heap l xs)(f:xs[i]?=some x) (q:∀h',d9 c h' j l (i+1)->U4 j s.heap h'->Q x { s with heap:=h'}):wpAny (model prog w) A (K1 (.ref j)) Q E s:=by
 cases c with
 | true=>exact x69 h g f q| false=>exact wpAny_nextOf_list_item h g f q
def SM(hh:A.handled=none)(h:d9 c s.heap j l i)(g:fF c s.heap l xs)(f:xs[i]?=none) (q:∀h' e,C93 j s.heap h'->(∃o,h'.get? e=some o/\o.cls=.type "StopIteration")->E (.ref e) { s with heap:=h'}):wpAny (model prog w) A (K1 (.ref j)) Q E s:=by
 cases c with
 | true=>exact v45 hh h g f q| false=>exact wpAny_nextOf_list_end hh h g f q
def w36{c d:Bool}{z TI TO i g G C:Addr}{I k2:Nat}{xs ys:Array Value}{x y a b:Value}{Q:Value->Shared->Prop}(D:wX z TI TO i g G C) (p:IsZip s.heap z TI TO .none) (eI:IsPair s.heap TI (.ref i) (.ref g)) (eO:IsPair s.heap TO a b) (j1:d9 c s.heap i G I) (j2:d9 d s.heap g C k2) (m1:fF c s.heap G xs) (m2:fF d s.heap C ys) (hx:xs[I]?=some x) (hy:ys[k2]?=some y) (q:∀h',IsZip h' z TI TO (rawInt s.heap.objs.size)->IsPair h' TO x y->d9 c h' i G (I+1)->d9 d h' g C (k2+1)->IsPair h' s.heap.objs.size x y->h'.objs.size=s.heap.objs.size+1->(∀e o,e≠z->e≠TO->e≠i->e≠g->s.heap.get? e=some o->h'.get? e=some o)->Q (.ref s.heap.objs.size) { s with heap:=h'}): wpAny (model prog w) A (Builtin.«zip.__next__» #[[.ref z],[]]) (λfin s'=>∃v,fin=.done (.ret v)/\Q v s') E s:=by
 show wpAny _ _ (field (.ref z) 2 >>= _) _ _ _;apply B5 (K8 p rfl (x:=.bool false) rfl ?_);show wpAny _ _ (field (.ref z) 3 >>= _) _ _ _;apply B5 (K8 p rfl (x:=.ref TI) rfl ?_);apply B5 (L9 eI rfl ?_);show wpAny _ _ (L0 (.ref z) >>= _) _ _ _;apply B5 ?_;unfold L0;apply B5 (K8 p rfl (x:=.none) rfl (C4 ?_));simp only[if_true];apply B5 (Ct ?_);apply B5 (K8 p rfl (x:=.ref TO) rfl ?_);apply B5 (P9 p (by simp) λg1 L b1=>?_);replace L:IsZip g1 z TI TO .ellipsis:=L;have j:∀{e o},e≠z->s.heap.get? e=some o->g1.get? e=some o:=λn z=>(b1.2 _ n).trans z;apply B5 ?_;simp only[C06,C23,LN,OW];apply B5 (B5 (OO ?_));show wpAny _ _ (K1 (.ref i) >>= _) _ _ _;apply B5 (EM (j1.at λo=>j D.i1z) (m1.at λo=>j D.l1z) hx λg2 n1 b2=>C4 ?_);have m:∀{e o},e≠i->g1.get? e=some o->g2.get? e=some o:=λn z=>(b2.2 _ n).trans z;have o2:IsPair g2 TO a b:=m D.TOi1 (j D.TOz eO);apply B5 (L9 o2 rfl ?_);apply B5 (YQ o2 λg3 o3 b3=>?_);replace o3:IsPair g3 TO x b:=o3;have l:∀{e o},e≠TO->g2.get? e=some o->g3.get? e=some o:=λn z=>(b3.2 _ n).trans z;apply B5 (XY (C4 ?_));apply B5 (B5 (OO ?_));show wpAny _ _ (K1 (.ref g) >>= _) _ _ _;apply B5 (EM (j2.at λo e=>l (D2 D.TOi2) (m (D2 D.i12) (j D.i2z e))) (m2.at λo e=>l D.l2TO (m D.l2i1 (j D.l2z e))) hy λJ n2 b4=>C4 ?_);have B:∀{e o},e≠g->g3.get? e=some o->J.get? e=some o:=λn z=>(b4.2 _ n).trans z;have o4:IsPair J TO x b:=B D.TOi2 o3;apply B5 (L9 o4 rfl ?_);apply B5 (YQ o4 λf o5 b5=>?_);replace o5:IsPair f TO x y:=o5;have u:∀{e o},e≠TO->J.get? e=some o->f.get? e=some o:=λn z=>(b5.2 _ n).trans z;apply B5 (XY (C4 (C4 ?_)));apply B5 (L9 o5 rfl ?_);apply B5 (wpAny_newTuple ?_);have S:f.objs.size=s.heap.objs.size:=by rw[b5.1,b4.1,b3.1,b2.1,b1.1]
 have N:IsZip f z TI TO .ellipsis:=u (D2 D.TOz) (B (D2 D.i2z) (l (D2 D.TOz) (m (D2 D.i1z) L)));have zl:z<f.objs.size:=D5 N;show wpAny _ _ (A09 (.ref z) (.ref f.objs.size) >>= _) _ _ _;apply B5 ?_;unfold A09;have z6:IsZip (f.push { cls:=.type "tuple",data:=.seq [x,y].toArray}) z TI TO .ellipsis:=B8 _ N;apply B5 (P9 z6 (by simp) λg7 H b7=>?_);replace H:IsZip g7 z TI TO (rawInt f.objs.size):=H;apply P9 H (by simp) λk r Z=>?_;replace r:IsZip k z TI TO (rawInt f.objs.size):=r;have O:∀{e o},e≠z->(f.push { cls:=.type "tuple",data:=.seq [x,y].toArray}).get? e=some o->k.get? e=some o:=λn z=>(Z.2 _ n).trans ((b7.2 _ n).trans z);have R:IsPair k f.objs.size x y:=O (Y0 zl) (E1 _ rfl);have U:k.objs.size=f.objs.size+1:=by rw[Z.1,b7.1,R8]
 rw[S] at r R U;apply C4 #[_,rfl,?_];show Q (.ref f.objs.size) _;rw[S];have t:∀{e o},e≠z->f.get? e=some o->k.get? e=some o:=λn z=>O n (B8 _ z);exact q k r (t D.TOz o5) (n1.at λo e=>t D.i1z (u (D2 D.TOi1) (B D.i12 (l (D2 D.TOi1) e)))) (n2.at λo e=>t D.i2z (u (D2 D.TOi2) e)) R U
  λe o Y X p3 p4 h=>t Y (u X (B p4 (l X (m p3 (j Y h)))))
def wp4{c d:Bool}{z TI TO k p J I:Addr}{j k2:Nat}{xs ys:Array Value}{a b:Value}{Q:Fin->Shared->Prop}(hh:A.handled=none)(D:wX z TI TO k p J I) (t:IsZip s.heap z TI TO .none) (eI:IsPair s.heap TI (.ref k) (.ref p)) (eO:IsPair s.heap TO a b) (S:d9 c s.heap k J j) (j2:d9 d s.heap p I k2) (R:fF c s.heap J xs) (m2:fF d s.heap I ys) (BQ:xs[j]?=none\/ys[k2]?=none) (q:∀h' e,(∀e o,e≠z->e≠TO->e≠k->e≠p->s.heap.get? e=some o->h'.get? e=some o)->(∃o,h'.get? e=some o/\o.cls=.type "StopIteration")->E (.ref e) { s with heap:=h'}): wpAny (model prog w) A (Builtin.«zip.__next__» #[[.ref z],[]]) Q E s:=by
 show wpAny _ _ (field (.ref z) 2 >>= _) _ _ _;apply B5 (K8 t rfl (x:=.bool false) rfl ?_);show wpAny _ _ (field (.ref z) 3 >>= _) _ _ _;apply B5 (K8 t rfl (x:=.ref TI) rfl ?_);apply B5 (L9 eI rfl ?_);show wpAny _ _ (L0 (.ref z) >>= _) _ _ _;apply B5 ?_;unfold L0;apply B5 (K8 t rfl (x:=.none) rfl (C4 ?_));simp only[if_true];apply B5 (Ct ?_);apply B5 (K8 t rfl (x:=.ref TO) rfl ?_);apply B5 (P9 t (by simp) λg1 y b1=>?_);replace y:IsZip g1 z TI TO .ellipsis:=y;have i:∀{e o},e≠z->s.heap.get? e=some o->g1.get? e=some o:=λn z=>(b1.2 _ n).trans z;apply B5 ?_;simp only[C06,C23,LN,OW];apply B5 (B5 (OO ?_));show wpAny _ _ (K1 (.ref k) >>= _) _ _ _;have M:∀{g:Heap} {e:Addr},IsZip g z TI TO .ellipsis->(∃o,g.get? e=some o/\o.cls=.type "StopIteration")->e≠z:=λhz ⟨o,U,h2⟩ n=>by subst n;rw[hz] at U;cases U;simp at h2
 cases L:xs[j]? with
 | none =>apply B5 (SM hh (S.at λo=>i D.i1z) (R.at λo=>i D.l1z) L λg2 e C r=>?_);have O:IsZip g2 z TI TO .ellipsis:=C _ _ (D2 D.i1z) y;have ne:=M O r;let#[H,j,k2]:=r;apply P9 O (by simp) λg3 _ B=>q g3 e (λf o m _ G _ h=>(B.2 _ m).trans (C _ _ G (i m h))) #[H,(B.2 _ ne).trans j,k2]| some x =>
  have hy:ys[k2]?=none:=by
   rcases BQ with h|h
   .rw[L] at h;cases h
   .exact h
  apply B5 (EM (S.at λo=>i D.i1z) (R.at λo=>i D.l1z) L λg2 n1 C=>C4 ?_);have l:∀{e o},e≠k->g1.get? e=some o->g2.get? e=some o:=λn z=>(C.2 _ n).trans z;have o2:IsPair g2 TO a b:=l D.TOi1 (i D.TOz eO);apply B5 (L9 o2 rfl ?_);apply B5 (YQ o2 λg3 o3 B=>?_);have u:∀{e o},e≠TO->g2.get? e=some o->g3.get? e=some o:=λn z=>(B.2 _ n).trans z;apply B5 (XY (C4 ?_));apply B5 (B5 (OO ?_));show wpAny _ _ (K1 (.ref p) >>= _) _ _ _;apply B5 (SM hh (j2.at λo e=>u (D2 D.TOi2) (l (D2 D.i12) (i D.i2z e))) (m2.at λo e=>u D.l2TO (l D.l2i1 (i D.l2z e))) hy λg4 e Y r=>?_);have N:IsZip g4 z TI TO .ellipsis:=Y _ _ (D2 D.i2z) (u (D2 D.TOz) (l (D2 D.i1z) y));have ne:=M N r;let#[H,j,k2]:=r;apply P9 N (by simp) λg5 _ X=>q g5 e (λf o m p2 G Z h=>(X.2 _ m).trans (Y _ _ Z (u p2 (l G (i m h))))) #[H,(X.2 _ ne).trans j,k2]
def w35{c d:Bool}{z TI TO g f i h:Addr}{j k2:Nat}{xs ys:Array Value}{x y a b:Value}{Q:Option Value->Shared->Prop}(D:wX z TI TO g f i h) (k:IsZip s.heap z TI TO .none) (B:IsPair s.heap TI (.ref g) (.ref f)) (u:IsPair s.heap TO a b) (p:d9 c s.heap g i j) (n:d9 d s.heap f h k2) (m:fF c s.heap i xs) (l:fF d s.heap h ys) (t:xs[j]?=some x) (r:ys[k2]?=some y) (q:∀h',IsZip h' z TI TO (rawInt s.heap.objs.size)->IsPair h' TO x y->d9 c h' g i (j+1)->d9 d h' f h (k2+1)->IsPair h' s.heap.objs.size x y->h'.objs.size=s.heap.objs.size+1->(∀e o,e≠z->e≠TO->e≠g->e≠f->s.heap.get? e=some o->h'.get? e=some o)->Q (some (.ref s.heap.objs.size)) { s with heap:=h'}): wpAny (model prog w) A (pyNext (.ref z)) Q E s:=by
 have ty:s.TypeIs (.ref z) "zip" := #[_,k,rfl];unfold pyNext;apply B5 (ON (N5 (name:=F6 "__next__") ty F.slot_zip_next (O5 F.slot_zip_next ty F.entry_zip_next ?_ (F.args_zip_next_1 _))));exact w36 D k B u p n m l t r λh' M L J I H G C=>C4 (q h' M L J I H G C)
def w34{c d:Bool}{z TI TO h g j i:Addr}{f k2:Nat}{xs ys:Array Value}{a b:Value}{Q:Option Value->Shared->Prop}(hh:A.handled=none)(D:wX z TI TO h g j i) (k:IsZip s.heap z TI TO .none) (u:IsPair s.heap TI (.ref h) (.ref g)) (t:IsPair s.heap TO a b) (p:d9 c s.heap h j f) (n:d9 d s.heap g i k2) (m:fF c s.heap j xs) (l:fF d s.heap i ys) (x:xs[f]?=none\/ys[k2]?=none) (q:∀h',(∀e o,e≠z->e≠TO->e≠h->e≠g->s.heap.get? e=some o->h'.get? e=some o)->Q none { s with heap:=h'}):wpAny (model prog w) A (pyNext (.ref z)) Q E s:=by
 have ty:s.TypeIs (.ref z) "zip" := #[_,k,rfl];unfold pyNext;apply B5 (ON (N5 (name:=F6 "__next__") ty F.slot_zip_next (O5 F.slot_zip_next ty F.entry_zip_next ?_ (F.args_zip_next_1 _))));apply wp4 hh D k u t p n m l x λh' e r ⟨o,f,k2⟩=>?_;exact B5 (LO (T:= "StopIteration") (b:=true) #[o,f,k2] isSubtype_stop (C4 (q _ r)))
end
abbrev itO(c:Bool)(l:Addr):Obj:={ cls:=.type (tyN c),data:=.fields [.ref l,.int 0 0].toArray}
abbrev LU(h:Heap)(c:Bool)(f:Addr):Heap:=h.push (itO c f)
abbrev LS(h:Heap)(c d:Bool)(g f:Addr):Heap:=(LU h c g).push (itO d f)
abbrev LR(h:Heap)(c d:Bool)(f g:Addr):Heap:=(LS h c d f g).push { cls:=.type "tuple",data:=.seq [.ref h.objs.size,.ref (LU h c f).objs.size].toArray}
abbrev LQ(h:Heap)(c d:Bool)(g f:Addr):Heap:=(LR h c d g f).push { cls:=.type "tuple",data:=.seq [.none,.none].toArray}
abbrev Am(h:Heap)(c d:Bool)(g f:Addr):Heap:=(LQ h c d g f).push { cls:=.type "zip",data:=.fields [.none,.bool false,.bool false,.ref (LS h c d g f).objs.size,.ref (LR h c d g f).objs.size].toArray}
theorem fF.push(x:fF c h l xs)(o:Obj):fF c (h.push o) l xs:=x.at λ_ e=>B8 o e
set_option maxHeartbeats 4000000 in
def wp3(c d:Bool)(f i:Addr)(xs ys:Array Value): Meets (Builtin.«zip.__new__» #[[.type "zip",.ref f,.ref i],[]]) (λ_ R s=>fF c s.heap f xs/\fF d s.heap i ys/\R (.ok (.ret (.ref (LQ s.heap c d f i).objs.size))) { s with heap:=Am s.heap c d f i}):=
 .of_wp λp w A R s h=>by
  let#[m,g,dd,l,os]:=s;let#[q,o,h]:=h;have sub:=sub_zip;cases c with
  | true =>
   have n:Yh (DV #[m,g,dd,l,os]) f xs:=q;cases d with
   | true =>
    have k:Yh (DV #[m.push { cls:=.type "tuple_iterator",data:=.fields [.ref f,.int 0 0].toArray},g,dd,l,os]) i ys:=o.push _
    wp_walk using Y3 n,Y3 k
    exact#[_,rfl,h]
   | false =>
    have k:Ya (DV #[m.push { cls:=.type "tuple_iterator",data:=.fields [.ref f,.int 0 0].toArray},g,dd,l,os]) i ys:=o.push _
    wp_walk using Y3 n,W5 k
    exact#[_,rfl,h]
  | false =>
   have n:Ya (DV #[m,g,dd,l,os]) f xs:=q;cases d with
   | true =>
    have k:Yh (DV #[m.push { cls:=.type "list_iterator",data:=.fields [.ref f,.int 0 0].toArray},g,dd,l,os]) i ys:=o.push _
    wp_walk using W5 n,Y3 k
    exact#[_,rfl,h]
   | false =>
    have k:Ya (DV #[m.push { cls:=.type "list_iterator",data:=.fields [.ref f,.int 0 0].toArray},g,dd,l,os]) i ys:=o.push _
    wp_walk using W5 n,W5 k
    exact#[_,rfl,h]
def Sq(c:Bool)(K:W.Frag)(H:Hp)(a:Addr)(xs:List V):Prop:=match c with
 | true=>eC K H a xs| false=>eP K H a xs
def Inv.sq(I:Inv X pins i H s)(h:Sq c X.K H a xs):∃its:List Value,Vals xs its/\fF c s.heap a its.toArray:=by
 cases c with
 | true =>let#[its,r,p,_]:=I.tuple h;exact#[its,r,p]| false =>let#[its,r,p,_]:=I.list h;let#[o,e,g,f]:=p.isList;exact#[its,r,o,e,g,f]
end L2
namespace L3
open PySem PySem.Spec PyProof.Rows L2
def tP(G:Gp):D->Option (List D)
 | .tup f=>some f| .ref a=>bt (G a)| _=>none
def ZR{K:W.Frag}{G:Gp}{i:Hp}{x:D}{v:V}{ds:List D}(r:ae K i x v)(n:bW K G i)(h:tP G x=some ds):∃c a,v=.ref a/\(∃xs,Sq c K i a xs)/\∀j f,Le i f->bW K j f->tP j x=some ds->∃xs,Sq c K f a xs/\ag K f ds xs:=by
 cases x with
 | tup o =>cases h;let#[a,xs,rfl,g,k]:=r.aO;exact#[true,a,rfl,#[xs,g],λj f l c _=>#[xs,l.FA g,ag.le l k]]
 | ref a =>cases r.aj;let#[xs,g,k]:=eR n h;apply#[false,a,rfl,#[xs,g],λj f l c m=>eR c m]
 | _=>cases h
end L3
namespace L3
open PySem PySem.Spec PyProof.Rows L2 Rw
mutual
def iL:av->List av
 | .is x a=>[.is x a]| .op x o a b=>[.op x o a b]| .fz a f g=>[.fz a (aW f) (aW g)]| .j8 k f=>(D6 k (aW f)).flatten
def aW:List av->List av
 | []=>[]| r::f=>iL r++aW f
end
theorem v02:∀{a b:List av},aW (a++b)=aW a++aW b
 | [],b=>rfl| r::a,b=>by show iL r++aW (a++b)=(iL r++aW a)++aW b;rw[v02,D1]
theorem v90:∀k:Nat,bZ (D6 k ys).flatten=k*bZ ys
 | 0=>by simp[bZ]| k+1=>by rw[K0,K5,CT,v90 k,Z7];omega
theorem v21(h:bc ys<=d):∀k:Nat,bc (D6 k ys).flatten<=d
 | 0=>by simp[bc]| k+1=>by have:=v21 h k;rw[K0,K5,CU];omega
mutual
def wz:av->Prop
 | .is _ _=>True| .op _ _ _ _=>True| .fz _ f g=>fO f/\fO g| .j8 _ _=>False
def fO:List av->Prop
 | []=>True| r::f=>wz r/\fO f
end
theorem ft:∀{a b:List av},fO (a++b)↔fO a/\fO b
 | [],b=>by simp[fO]| r::a,b=>by show wz r/\fO (a++b)↔(wz r/\fO a)/\fO b;rw[ft,and_assoc]
theorem vc5(h:fO ys):∀k:Nat,fO (D6 k ys).flatten
 | 0=>trivial| k+1=>by rw[K0,K5];exact ft.mpr #[h,vc5 h k]
mutual
theorem w06:∀r:av,bZ (iL r)=qy r
 | .is _ _=>rfl| .op _ _ _ _=>rfl| .fz a f g=>by have i:=CP f;have h:=CP g;show(1+bZ (aW f)+bZ (aW g))+0=1+de f+de g;omega| .j8 k f=>by show bZ (D6 k (aW f)).flatten=k*de f;rw[v90,CP f]
theorem CP:∀rs:List av,bZ (aW rs)=de rs
 | []=>rfl| r::rs=>by show bZ (iL r++aW rs)=qy r+de rs;rw[CT,w06 r,CP rs]
end
mutual
theorem wh5:∀r:av,bc (iL r)<=jS r
 | .is _ _=>B9 _| .op _ _ _ _=>B9 _| .fz a f g=>by have h:=EX f;have i:=EX g;show max (1+max (bc (aW f)) (bc (aW g))) 0<=1+max (bc f) (bc g);omega| .j8 k f=>by have h:=EX f;show bc (D6 k (aW f)).flatten<=1+bc f;exact v21 () k
theorem EX:∀rs:List av,bc (aW rs)<=bc rs
 | []=>B9 _| r::rs=>by have g:=wh5 r;have f:=EX rs;show bc (iL r++aW rs)<=max (jS r) (bc rs);rw[CU];omega
end
mutual
theorem wx0:∀r:av,fO (iL r)
 | .is _ _=>#[trivial,trivial]| .op _ _ _ _=>#[trivial,trivial]| .fz a f g=>#[#[EO f,EO g],trivial]| .j8 k f=>vc5 (EO f) k
theorem EO:∀rs:List av,fO (aW rs)
 | []=>trivial| r::rs=>ft.mpr #[wx0 r,EO rs]
end
def vb7(rs:List av):(aW rs).length<=de rs:=by have:=Sz (aW rs);rw[CP] at this;exact this
theorem ur7(ys:List av):∀k:Nat,(D6 k (bY ys)).flatten=bY (D6 k ys).flatten
 | 0=>rfl| k+1=>by rw[K0,K0,K5,K5,ur7 ys k,ur8]
theorem vv3:∀{rs:List av} {r:av},r∈rs->qy r<=de rs
 | s::rs,r,h=>by
  show qy r<=qy s+de rs;rcases D4.mp h with e|e
  .subst e;omega
  .have:=vv3 e;omega
theorem w13:∀{rs:List av} {r:av},fO rs->r∈rs->wz r
 | s::rs,r,h,m=>by
  rcases D4.mp m with e|e
  .subst e;exact h.1
  .exact w13 h.2 e
mutual
def DD:av->Prop
 | .is _ _=>True| .op _ _ _ _=>True| .fz _ f g=>jJ f/\jJ g| .j8 k f=>de f<=10000000/\jJ f/\k<=20
def jJ:List av->Prop
 | []=>True| r::f=>DD r/\jJ f
end
theorem w30:∀{rs:List av} {r:av},jJ rs->r∈rs->DD r
 | s::rs,r,h,m=>by
  rcases D4.mp m with e|e
  .subst e;exact h.1
  .exact w30 h.2 e
end L3
namespace L2
open PySem PySem.Spec PyProof.Rows
def vt4:entryFor table "zip.__getattribute__" = some Builtin.«object.__getattribute__» :=entryFor_alias (id':= "object.__getattribute__") (by kernel_rfl) ∅ ∅ (by kernel_rfl)
def wl7:Ly (.type "zip") "__getattr__" = pure none:=by rw[Yu,YT];kernel_rfl
def vi0:Ly (.type "zip") "keys" = pure none:=by rw[Yu,YT];kernel_rfl
def wl8(z TI TO:Addr)(u:Tok):Meets (Builtin.«object.__getattribute__» ⟨[.ref z,.str "keys" u],[]⟩) (λA R s=>IsZip s.heap z TI TO .none/\raisesAttr (.ref z) "keys" A R s):=
 Meets.of_wp λh w A R s f=>by
  let#[k,g,d,i,os]:=s;let#[j,f]:=f;have ty:(#[k,g,d,i,os]:Shared).TypeIs (.ref z) "zip" := #[_,j,rfl];have mi:=vi0;unfold Builtin.«object.__getattribute__»;repeat(any_goals (first|assumption|wp_step))
  exact wpAny_raiseAttrError f.1 f.2 ∅
def wm0{prog:Program}{w:World}{A:Around}{E:Value->Shared->Prop}{s:Shared}{z TI TO:Addr}{Q:Option Value->Shared->Prop}(h:IsZip s.heap z TI TO .none)(k:A.handled=none) (q:∀h' tk,(∀b o,s.heap.get? b=some o->h'.get? b=some o)->Q none { s with heap:=h',toks:=tk}):wpAny (model prog w) A (Oo (.ref z) "keys") Q E s:=by
 let#[j,g,d,tk,os]:=s;have ty:∀i,(#[j,g,d,i,os]:Shared).TypeIs (.ref z) "zip" := λ_=>#[_,h,rfl];have f1:=sub_AttributeError;have t:=F.slot_zip_getattribute.lookup;have r:=F.slot_zip_getattribute.bind (.ref z);have p:=wl7;unfold Oo getAttrBy? getAttrBy;repeat(any_goals (first|assumption|exact ty _|((with_reducible show wpAny _ _ (call (Yq "zip.__getattribute__") _ _) _ _ _);apply Cs F.slot_zip_getattribute (ty _) vt4 (F.args_zip_getattribute_2 _ _) (wl8 z TI TO _) ⟨h,k,λh' i e f=>?_⟩)|wp_step))
 let#[m,l,n]:=f.there;show wpAny _ _ (Ph _ _ _ _ _ _ _) _ _ _;unfold Ph;repeat(any_goals (first|assumption|wp_step))
 exact q _ _ f.keeps
section
variable{prog:Program}{w:World}{A:Around}{E:Value->Shared->Prop}{s:Shared}
def vl5{c d:Bool}{z TI TO j i l g T:Addr}{f:Bool}{J:Obj}{r k2:Nat}{xs ys:Array Value}{x y:Value}{Q:Value->Shared->Prop}(D:wX z TI TO j i l g)(m:wm s.heap z TI TO T f)(Y:s.heap.get? T=some J) (Z:IsPair s.heap TI (.ref j) (.ref i)) (S:d9 c s.heap j l r) (R:d9 d s.heap i g k2) (N:fF c s.heap l xs) (M:fF d s.heap g ys) (X:xs[r]?=some x) (U:ys[k2]?=some y) (q:∀h':Heap,wm h' z TI TO T true->d9 c h' j l (r+1)->d9 d h' i g (k2+1)->IsPair h' s.heap.objs.size x y->h'.objs.size=s.heap.objs.size+1->(∀e o,e≠z->e≠j->e≠i->s.heap.get? e=some o->h'.get? e=some o)->Q (.ref s.heap.objs.size) { s with heap:=h'}): wpAny (model prog w) A (Builtin.«zip.__next__» { pos:=[.ref z]}) (λfin L=>∃v,fin=Fin.done (Flow.ret v)/\Q v L) E s:=by
 unfold Builtin.«zip.__next__»;apply B5 (C4 ?_);apply B5 (K8 m rfl rfl ?_);apply B5 (K8 m rfl rfl ?_);apply B5 (L9 Z rfl ?_);apply B5 ?_;unfold L0;apply B5 (K8 m rfl rfl ?_);apply B5 (W.kdx_alive (a:=T) (o:=J) Y ?_);apply aZ (Q:=λa I=>a=false/\∃G,I={ s with heap:=G}/\wm G z TI TO T true/\U4 z s.heap G) ?_ ?_
 .rw[if_neg (by simp)];apply B5 (K8 m rfl rfl ?_);cases f with
  | true=>exact C4 #[rfl,s.heap,rfl,m,rfl,λ_ _=>rfl]| false =>apply B5 (P9 m (by simp) λh' e k=>?_);exact C4 #[rfl,h',rfl,e,k]
 .rintro a I ⟨rfl,h,rfl,Bt,k⟩;simp only[K6,if_false];simp only[<- X9,LN,OW];have Dr:d9 c h j l r:=S.at λo e=>(k.2 j D.i1z).trans e;have HZ:d9 d h i g k2:=R.at λo e=>(k.2 i D.i2z).trans e;have B:fF c h l xs:=N.at λo e=>(k.2 l D.l1z).trans e;have u:fF d h g ys:=M.at λo e=>(k.2 g D.l2z).trans e;apply B5 (B5 (B5 (M0 ?_)));apply B5 (EM Dr B X λh' a1 n=>?_);apply C4 ?_;apply C4 ?_;have VG:d9 d h' i g k2:=HZ.at λo e=>(n.2 i (D2 D.i12)).trans e;have Vw:fF d h' g ys:=u.at λo e=>(n.2 g D.l2i1).trans e;apply B5 (B5 (M0 ?_));apply B5 (EM VG Vw U λt a2 p=>?_);apply C4 ?_;apply C4 ?_;apply C4 ?_;apply B5 (wpAny_newTuple ?_ (by simp;decide));have C:t.objs.size=s.heap.objs.size:=p.1.trans (n.1.trans k.1);apply C4 #[_,rfl,?_];show Q (.ref t.objs.size) _;rw[C];have O:∀c o,c≠z->c≠j->c≠i->s.heap.get? c=some o->t.get? c=some o:=λc o c1 c2 H e=>(p.2 c H).trans ((n.2 c c2).trans ((k.2 c c1).trans e));apply q _ ?_ ?_ ?_ ?_ ?_ λc o c1 c2 H e=>B8 _ (O c o c1 c2 H e)
  .exact B8 _ ((p.2 z (D2 D.i2z)).trans ((n.2 z (D2 D.i1z)).trans Bt))
  .exact a1.at λo e=>B8 _ ((p.2 j D.i12).trans e)
  .exact a2.at λo e=>B8 _ e
  .rw[<- C];exact E1 _ rfl
  .show(t.push _).objs.size=_;rw[<- C];simp[Heap.push]
def w33{c d:Bool}{z TI TO j l k u T:Addr}{f:Bool}{p:Obj}{r k2:Nat}{xs ys:Array Value}{Q:D19->Shared->Prop}(hh:A.handled=none)(D:wX z TI TO j l k u)(g:wm s.heap z TI TO T f)(C:s.heap.get? T=some p) (G:IsPair s.heap TI (.ref j) (.ref l)) (x:d9 c s.heap j k r) (t:fF c s.heap k xs) (y:xs[r]?=none) (q:∀(h':Heap) (e:Addr),(∀e o,e≠z->e≠j->e≠l->s.heap.get? e=some o->h'.get? e=some o)->(∃o,h'.get? e=some o/\o.cls=.type "StopIteration")->E (.ref e) { s with heap:=h'}): wpAny (model prog w) A (Builtin.«zip.__next__» { pos:=[.ref z]}) Q E s:=by
 unfold Builtin.«zip.__next__»;apply B5 (C4 ?_);apply B5 (K8 g rfl rfl ?_);apply B5 (K8 g rfl rfl ?_);apply B5 (L9 G rfl ?_);apply B5 ?_;unfold L0;apply B5 (K8 g rfl rfl ?_);apply B5 (W.kdx_alive (a:=T) (o:=p) C ?_);apply aZ (Q:=λa n=>a=false/\∃m,n={ s with heap:=m}/\wm m z TI TO T true/\U4 z s.heap m) ?_ ?_
 .rw[if_neg (by simp)];apply B5 (K8 g rfl rfl ?_);cases f with
  | true=>exact C4 #[rfl,s.heap,rfl,g,rfl,λ_ _=>rfl]| false =>apply B5 (P9 g (by simp) λh' e i=>?_);exact C4 #[rfl,h',rfl,e,i]
 .rintro a n ⟨rfl,h,rfl,I,i⟩;simp only[K6,if_false];simp only[<- X9,LN,OW];apply B5 (B5 (B5 (M0 ?_)));apply B5 (SM hh (x.at λo e=>(i.2 j D.i1z).trans e) (t.at λo e=>(i.2 k D.l1z).trans e) y λh' e ext B=>?_);exact q h' e (λc o c1 c2 H e=>ext c o c2 ((i.2 c c1).trans e)) B
def vl4{c d:Bool}{z TI TO h g j i T:Addr}{f:Bool}{m:Obj}{k k2:Nat}{xs ys:Array Value}{x y:Value}{Q:Option Value->Shared->Prop}(D:wX z TI TO h g j i)(l:wm s.heap z TI TO T f)(C:s.heap.get? T=some m) (G:IsPair s.heap TI (.ref h) (.ref g)) (t:d9 c s.heap h j k) (r:d9 d s.heap g i k2) (p:fF c s.heap j xs) (n:fF d s.heap i ys) (B:xs[k]?=some x) (u:ys[k2]?=some y) (q:∀h':Heap,wm h' z TI TO T true->d9 c h' h j (k+1)->d9 d h' g i (k2+1)->IsPair h' s.heap.objs.size x y->h'.objs.size=s.heap.objs.size+1->(∀e o,e≠z->e≠h->e≠g->s.heap.get? e=some o->h'.get? e=some o)->Q (some (.ref s.heap.objs.size)) { s with heap:=h'}): wpAny (model prog w) A (pyNext (.ref z)) Q E s:=by
 have ty:s.TypeIs (.ref z) "zip" := #[_,l,rfl];apply B5 (ON (N5 ty F.slot_zip_next (O5 F.slot_zip_next ty F.entry_zip_next ?_ (F.args_zip_next_1 (.ref z)))));exact vl5 D l C G t r p n B u λh' N M L J I H=>C4 (q h' N M L J I H)
def vl3{c d:Bool}{z TI TO g j h n T:Addr}{f:Bool}{l:Obj}{i:Nat}{xs:Array Value}{Q:Option Value->Shared->Prop}(hh:A.handled=none)(D:wX z TI TO g j h n)(k:wm s.heap z TI TO T f)(u:s.heap.get? T=some l) (x:IsPair s.heap TI (.ref g) (.ref j)) (p:d9 c s.heap g h i) (m:fF c s.heap h xs) (r:xs[i]?=none) (q:∀h':Heap,(∀e o,e≠z->e≠g->e≠j->s.heap.get? e=some o->h'.get? e=some o)->Q none { s with heap:=h'}):wpAny (model prog w) A (pyNext (.ref z)) Q E s:=by
 have ty:s.TypeIs (.ref z) "zip" := #[_,k,rfl];apply B5 (ON (N5 ty F.slot_zip_next (O5 F.slot_zip_next ty F.entry_zip_next ?_ (F.args_zip_next_1 (.ref z)))));apply w33 (d:=d) (k2:=i) (ys:=xs) hh D k u x p m r λh' e t ⟨o,B,y⟩=>?_;exact B5 (LO #[o,B,y] isSubtype_stop (C4 (q h' t)))
end
structure XF(c d:Bool)(l1 l2 z TI TO i1 i2 S:Addr)(xs ys:Array Value)(i:Nat)(h:Heap):Prop where
 zz:IsZip h z TI TO .none\/∃T f oT,wm h z TI TO T f/\h.get? T=some oT/\T≠z/\T≠TO/\T≠i1/\T≠i2/\T≠S
 ti:IsPair h TI (.ref i1) (.ref i2)
 to:∃u v,IsPair h TO u v
 h1:d9 c h i1 l1 i
 h2:d9 d h i2 l2 i
 m1:fF c h l1 xs
 m2:fF d h l2 ys
def putAll:List Key->List V->List (Key×V)->List (Key×V)
 | k::g,v::f,kvs=>putAll g f (putK kvs k v)| _,_,kvs=>kvs
def M_:entryFor table "dict.update.loop" = some Builtin.«dict.update.loop»:=entryFor_of_tree (by kernel_rfl)
def yZ:plainId "dict.update.loop" = true:=∅
def wl9{prog:Program}{w:World}{A:Around}{s:Shared}{R:Result->Shared->Prop}{c d:Bool}{N M z TI TO E C S:Addr}{xs ys:Array Value}{h1:Heap}(hh:A.in1.handled=none)(D:wX z TI TO E C N M)(hS:S≠z/\S≠TI/\S≠TO/\S≠E/\S≠C/\S≠N/\S≠M) {ks:List Key} {rv:List V} (rk:Vals (ks.map kV) xs.toList) (rr:Vals rv ys.toList) (hn:ks.length=rv.length) (hz:ks.length<=1000) (q:∀(h':Heap) (tk:Nat) (vs:List (Key×Value)),(∀b o,b≠S->b≠z->b≠TO->b≠E->b≠C->h1.get? b=some o->h'.get? b=some o)->KV (putAll ks rv []) vs->h'.DictOf (d_ prog w) S vs->R (.ok (.ret .none)) { s with heap:=h',toks:=tk}): ∀(k i:Nat) (h:Heap) (tk:Nat) (ii:Int) (kvs:List (Key×V)) (vs:List (Key×Value)),ks.length-i=k->i<=ks.length->XF c d N M z TI TO E C S xs ys i h->KV kvs vs->h.DictOf (d_ prog w) S vs->kvs.length<=i->putAll (ks.drop i) (rv.drop i) kvs=putAll ks rv [] -> (∀b o,b≠S->b≠z->b≠TO->b≠E->b≠C->h1.get? b=some o->h.get? b=some o)->sO (model prog w) A (.builtin "dict.update.loop" { pos:=[.ref S,.ref z,rawInt ii,.none]}) R { s with heap:=h,toks:=tk}:=by
 let#[S1,S2,S3,S4,S5,S6,S7]:=hS;have lx:xs.size=ks.length:=by have:=rk.length;simp at this;omega
 have ly:ys.size=ks.length:=by have:=rr.length;simp at this;omega
 intro k;induction k with
 | zero =>
  intro i h tk ii kvs vs hk hi st l dd hl he kp;have hi:i=ks.length:=()
  subst hi;have I:xs[ks.length]?=none:=by simp[lx]
  have sy:putAll ks rv []=kvs:=by rw[<- he,C07];rfl
  apply OX M_ ?_;rw[Z4 yZ];rcases st.zz with p|⟨T,f,L,p,J,T1,T2,T3,Z,Y⟩
  .let#[u,v,to]:=st.to;apply B5 (w34 (s:={ s with heap:=h,toks:=tk}) hh D p st.ti to st.h1 st.h2 st.m1 st.m2 (.inl I) λh' O=>?_);apply B5 (C4 (C4 ?_));exact q h' tk vs (λb o t r n j g e=>O b o r n j g (kp b o t r n j g e)) (by rw[sy];exact l) (dd.at λo e=>O S o S1 S3 S4 S5 e)
  .apply B5 (vl3 (s:={ s with heap:=h,toks:=tk}) (d:=d) hh D p J st.ti st.h1 st.m1 I λh' O=>?_);apply B5 (C4 (C4 ?_));exact q h' tk vs (λb o t r n j g e=>O b o r j g (kp b o t r n j g e)) (by rw[sy];exact l) (dd.at λo e=>O S o S1 S4 S5 e)
 | succ k ih =>
  intro i h tk ii kvs vs hk hi st l dd hl he kp;have cS:i<ks.length:=()
  have I:xs[i]?=some (xs[i]'()):=A88 _;have hy:ys[i]?=some (ys[i]'()):=A88 _;obtain⟨B,ek⟩:∃B,ks[i]?=some B:=#[ks[i],B6 cS];obtain⟨G,ev⟩:∃G,rv[i]?=some G:=#[rv[i]'(),B6 _];have rkk:RelV (kV B) (xs[i]'()):=by
   let#[u,Q,ru]:=rk.get (i:=i) (x:=kV B) (by rw[F8,ek];rfl);have:u=xs[i]'():=by simp only[V2,I] at Q;exact(D8 Q).symm
   rw[<- this];exact ru
  have rvv:RelV G (ys[i]'()):=by
   let#[u,Q,ru]:=rr.get ev;have:u=ys[i]'():=by simp only[V2,hy] at Q;exact(D8 Q).symm
   rw[<- this];exact ru
  have IV:putAll (ks.drop (i+1)) (rv.drop (i+1)) (putK kvs B G)=putAll ks rv []:=by
   rw[<- he];have e1:ks.drop i=B::ks.drop (i+1):=by rw[O6 cS];congr 1;exact D8 ((B6 cS).symm.trans ek)
   have e2:rv.drop i=G::rv.drop (i+1):=by rw[O6 ()];congr 1;exact D8 ((B6 ()).symm.trans ev)
   rw[e1,e2];rfl
  apply OX M_ ?_;rw[Z4 yZ];have hsz:vs.length<=sizeLine:=by rw[<- l.length];exact D3 (m:=1000) () ∅
  have go:∀h':Heap,(∃T f L,wm h' z TI TO T f/\h'.get? T=some L/\T≠z/\T≠TO/\T≠E/\T≠C/\T≠S)->(∃u v,IsPair h' TO u v)->d9 c h' E N (i+1)->d9 d h' C M (i+1)->IsPair h' h.objs.size (xs[i]'()) (ys[i]'())->(∀c o,c≠z->c≠TO->c≠E->c≠C->h.get? c=some o->h'.get? c=some o) ->
    wpAny (model prog w) A.in1 (dictSet S (xs[i]'()) (ys[i]'())) (λ_ s1=>wpAny (model prog w) A.in1 (again (.builtin "dict.update.loop" { pos:=[.ref S,.ref z,rawInt (ii+1),.none]}))
     (λfin H=>match fin with|.done f=>R (.ok f) H|.again c'=>c'.quiet=true/\sO (model prog w) A c' R H) (λe H=>R (.error e) H) s1) (λe H=>R (.error e) H) { s with heap:=h',toks:=tk}:=by
   rintro h' ⟨T,f,L,p,J,T1,T2,T3,Z,Y⟩ ⟨u,v,to⟩ a1 a2 a3 X;have qo:h'.DictOf (d_ prog w) S vs:=dd.at λo e=>X S o S1 S3 S4 S5 e;apply wpAny_dictSet_pairs (s:={ s with heap:=h',toks:=tk}) (hsz:=hsz) (AB rkk) qo λBY wO dG=>?_;apply C4 #[OM yZ _,?_];have y:∀b o,b≠S->h'.get? b=some o->BY.get? b=some o:=λb o hb e=>(dG.2 b hb).trans e;have hlp:=AQ kvs B G;apply ih (i+1) _ _ _ (putK kvs B G) _ () cS #[.inr #[T,f,L,y _ _ (D2 S1) p,y _ _ Y J,T1,T2,T3,Z,Y],y _ _ (D2 S2) (X TI _ D.TIz D.TITO D.TIi1 D.TIi2 st.ti),#[u,v,y _ _ (D2 S3) to],a1.at λo e=>y _ _ (D2 S4) e,a2.at λo e=>y _ _ (D2 S5) e,st.m1.at λo e=>y _ _ (D2 S6) (X N _ D.l1z D.l1TO D.l1i1 D.l1i2 e),st.m2.at λo e=>y _ _ (D2 S7) (X M _ D.l2z D.l2TO D.l2i1 D.l2i2 e)] (l.put B rvv) wO () IV λb o t r n j g e=>y b o t (X b o r n j g (kp b o t r n j g e))
  rcases st.zz with p|⟨T,f,L,p,J,T1,T2,T3,Z,Y⟩
  .let#[u,v,to]:=st.to;have ne:∀{b o},h.get? b=some o->h.objs.size≠b:=λe=>Y0 (D5 e);apply B5 (w35 (s:={ s with heap:=h,toks:=tk}) D p st.ti to st.h1 st.h2 st.m1 st.m2 I hy λh' t r n j g b6 U=>?_);have neS:h.objs.size≠S:=by let#[o,_,_,e,_]:=dd;exact ne e
   have:=go h' #[h.objs.size,false,_,t,g,ne p,ne to,(by let#[o,e,_]:=st.h1;exact ne e),(by let#[o,e,_]:=st.h2;exact ne e),neS] #[_,_,r] n j g U;apply B5 (M0 (B5 (Yr ?_)));unfold YZ;apply B5 (DX #[_,g,rfl] ?_);rw[if_pos ∅];apply B5 (L9 g rfl (C4 ?_));exact M0 this
  .apply B5 (vl4 (s:={ s with heap:=h,toks:=tk}) D p J st.ti st.h1 st.h2 st.m1 st.m2 I hy λh' t n j g b6 U=>?_);let#[u,v,to]:=st.to;have:=go h' #[T,true,_,t,U T _ T1 T3 Z J,T1,T2,T3,Z,Y] #[u,v,U TO _ D.TOz D.TOi1 D.TOi2 to] n j g λc o c1 c2 c3 c4 e=>U c o c1 c3 c4 e;apply B5 (M0 (B5 (Yr ?_)));unfold YZ;apply B5 (DX #[_,g,rfl] ?_);rw[if_pos ∅];apply B5 (L9 g rfl (C4 ?_));exact M0 this
section
variable{prog:Program}{w:World}{A:Around}{E:Value->Shared->Prop}{s:Shared}
def vl6(B:fF c s.heap f xs)(y:fF d s.heap g ys) (q:∀h',IsZip h' (s.heap.objs.size+4) (s.heap.objs.size+2) (s.heap.objs.size+3) .none->IsPair h' (s.heap.objs.size+2) (.ref s.heap.objs.size) (.ref (s.heap.objs.size+1))->IsPair h' (s.heap.objs.size+3) .none .none -> d9 c h' s.heap.objs.size f 0->d9 d h' (s.heap.objs.size+1) g 0->h'.objs.size=s.heap.objs.size+5->(∀e o,s.heap.get? e=some o->h'.get? e=some o)->Q (.ref (s.heap.objs.size+4)) { s with heap:=h'}): wpAny (model prog w) A (call (.type "zip") [.ref f,.ref g]) Q E s:=by
 apply callType_new F.called_zip ∅ (F.typeCall_zip_2 _ _) (F.newCall_zip_2 _ _) (λi=>F.args_object_init_3 i _ _) F.entry_zip_new (wp3 c d f g xs ys) #[B,y,?_];have m:(LU s.heap c f).objs.size=s.heap.objs.size+1:=R8 ..;have l:(LS s.heap c d f g).objs.size=s.heap.objs.size+2:=by rw[R8,m]
 have k:(LR s.heap c d f g).objs.size=s.heap.objs.size+3:=by rw[R8,l]
 have j:(LQ s.heap c d f g).objs.size=s.heap.objs.size+4:=by rw[R8,k]
 have u:(Am s.heap c d f g).objs.size=s.heap.objs.size+5:=by rw[R8,j]
 have h:(Am s.heap c d f g).get? (LQ s.heap c d f g).objs.size=some _:=E1 _ rfl;have n:(Am s.heap c d f g).get? (LR s.heap c d f g).objs.size=some _:=B8 _ (E1 _ rfl);have p:(Am s.heap c d f g).get? (LS s.heap c d f g).objs.size=some _:=B8 _ (B8 _ (E1 _ rfl));have r:(Am s.heap c d f g).get? (LU s.heap c f).objs.size=some _:=B8 _ (B8 _ (B8 _ (E1 _ rfl)));have t:(Am s.heap c d f g).get? s.heap.objs.size=some _:=B8 _ (B8 _ (B8 _ (B8 _ (E1 _ rfl))));show _/\_;rw[l,k,j] at h;rw[m,l] at p;rw[k] at n;rw[m] at r;rw[j];apply#[#[_,h,rfl],q _ h p n #[_,t,rfl,rfl] #[_,r,rfl,rfl] u λe o x=>?_];exact B8 _ (B8 _ (B8 _ (B8 _ (B8 _ x))))
end
def uq2{prog:Program}{w:World}{A:Around}{E:Value->Shared->Prop}{s:Shared}{c d:Bool}{m l z TI TO k j:Addr}{xs ys:Array Value}{Q:Value->Shared->Prop}(hh:A.in1.in1.handled=none)(D:wX z TI TO k j m l) (h:IsZip s.heap z TI TO .none) (r:IsPair s.heap TI (.ref k) (.ref j)) (to:∃u v,IsPair s.heap TO u v) (h1:d9 c s.heap k m 0) (n:d9 d s.heap j l 0) (y:fF c s.heap m xs) (x:fF d s.heap l ys) {ks:List Key} {rv:List V} (H:Vals (ks.map kV) xs.toList) (G:Vals rv ys.toList) (M:ks.length=rv.length) (L:ks.length<=1000) (q:∀(h':Heap) (tk:Nat) (vs:List (Key×Value)),(∀b o,b≠z->b≠TO->b≠k->b≠j->s.heap.get? b=some o->h'.get? b=some o)->KV (putAll ks rv []) vs->h'.DictOf (d_ prog w) s.heap.objs.size vs->Q (.ref s.heap.objs.size) { s with heap:=h',toks:=tk}): wpAny (model prog w) A (call (.type "dict") [.ref z]) Q E s:=by
 apply callType_codes (Q₁:=λi t=>i=.ref s.heap.objs.size/\t={ s with heap:=s.heap.push { cls:=.type "dict",data:=.dict [].toArray}}) F.kt_called_dict (F.kt_typeCall_dict_1 (.ref z)) F.entry_dict_init (kt_code_dict_new (.ref z) #[rfl,rfl]) λi t J=>?_;let#[O,N]:=J;subst O;subst N;have ed:(s.heap.push { cls:=.type "dict",data:=.dict [].toArray}).DictOf (d_ prog w) s.heap.objs.size []:=YC s.heap;have up:∀b o,s.heap.get? b=some o->(s.heap.push { cls:=.type "dict",data:=.dict [].toArray}).get? b=some o:=λb o e=>B8 _ e;have ne:∀{b o},s.heap.get? b=some o->s.heap.objs.size≠b:=λe=>Y0 (D5 e);let#[u,v,to]:=to;apply#[ed.typeIs,F.args_dict_init_2 _ _,?_];unfold Builtin.«dict.__init__» B00;apply B5 (B5 (wpAny_notOrdered_dict ed.typeIs (C4 ?_)));show wpAny _ _ (X5 "dict.__init__" s.heap.objs.size (.ref z) [] .none) _ _ { s with heap:=s.heap.push { cls:=.type "dict",data:=.dict [].toArray}};unfold X5;apply B5 (DX #[_,up _ _ h,rfl] ?_);rw[if_pos ∅];apply B5 (wm0 (s:={ s with heap:=s.heap.push { cls:=.type "dict",data:=.dict [].toArray}}) (up _ _ h) hh λh' tk B=>?_);simp only[B77,if_true];apply B5 (Ct ?_);have f:∀b o,s.heap.get? b=some o->h'.get? b=some o:=λb o e=>B b o (up b o e);apply B5 (wpAny_pyIter_zip (s:={ s with heap:=h',toks:=tk}) (f _ _ h) ?_);apply C4 #[OM yZ _,?_];have Z:s.heap.objs.size≠z/\s.heap.objs.size≠TI/\s.heap.objs.size≠TO/\s.heap.objs.size≠k/\s.heap.objs.size≠j/\s.heap.objs.size≠m/\s.heap.objs.size≠l:=by
  apply#[ne h,ne r,ne to,?_,?_,?_,?_]
  .let#[o,e,_]:=h1;exact ne e
  .let#[o,e,_]:=n;exact ne e
  .let#[o,e,_]:=y;exact ne e
  .let#[o,e,_]:=x;exact ne e
 apply wl9 (s:=s) (h1:=h') (c:=c) (d:=d) hh D Z H G M L (λn Y vs I p dd=>#[rfl,q n Y vs (λb o X U S R e=>I b o (D2 (ne e)) X U S R (f b o e)) p dd]) ks.length 0 h' tk 0 [] [] rfl (J8 _)
  #[.inl (f _ _ h),f _ _ r,#[u,v,f _ _ to],h1.at λo e=>f _ _ e,n.at λo e=>f _ _ e,y.at λo e=>f _ _ e,x.at λo e=>f _ _ e] .nil (ed.at λo e=>B _ _ e) (B9 _) rfl λb o _ _ _ _ _ e=>e
def uy7(K:W.Frag)(k:TA):TE:=λi H Q=>k i H λj g=>∃c d a b f h,j=[.ref a,.ref b]/\Sq c K g a (f.map kV)/\Sq d K g b h/\f.length=h.length/\f.length<=1000/\∀p,g p=none->Q (.ref p) (upd g p (.dK (putAll f h [])))
theorem Uw:∀(ks:List Key) (rv:List V) (kvs:List (Key×V)),(putAll ks rv kvs).length<=ks.length+kvs.length
 | [],_,kvs=>by simp[putAll]| _::_,[],kvs=>by simp[putAll]| k::ks,v::rv,kvs=>by have g:=Uw ks rv (putK kvs k v);have f:=AQ kvs k v;show(putAll ks rv (putK kvs k v)).length<=(ks.length+1)+kvs.length;omega
def v44{X:Cx}{a b:Expr}{N:TA}{p p2 pos O:Pos}{k:Nat}(hr:aQ k X.A)(hg:Gl X "zip")(hm:X.mg "zip" = none)(sx:Gl X "dict")(mK:X.mg "dict" = none)(ha:PA X [a,b] N) (hs:D0 [a,b] X.env=(false,eval a X.env)::D0 [b] X.env:=by rfl) (BA:(backTo pos (D0 [b] X.env)).any (·.1)=false:=by rfl)
  (S:D0 [.Call (.Name "zip" p) [a,b] [] pos] X.env=[(false,eval (.Call (.Name "zip" p) [a,b] [] pos) X.env)]:=by rfl):
  PE X (.Call (.Name "dict" p2) [.Call (.Name "zip" p) [a,b] [] pos] [] O) (uy7 X.K N):=by
 intro pins s U H Q I h;apply M8 (rX I sx mK (show Q5 "dict" = some (.type "dict") by decide) ?_);apply J6 ?_ S rfl;rw[S];show wpAny _ _ (spliced ((false,eval (.Call (.Name "zip" p) [a,b] [] pos) X.env)::backTo O [])) _ _ s;apply P8 ?_;apply M8 (rX I hg hm boot_zip (J6 (aZ (ha pos pins s U H _ I h) λus u ⟨M,H1,t,C,q1⟩=>?_) hs BA));let#[c,d,l,m,i,g,e,hq,qQ,hn,R,q]:=q1;subst e;cases C with
 | cons r x =>
  cases x with
  | cons B x =>
   cases x;cases r;cases B;let#[its,C,E]:=t.sq hq;let#[bj,B,L]:=t.sq qQ;have Y:l<u.heap.objs.size:=by let#[o,e,_]:=E;exact D5 e
   have J:m<u.heap.objs.size:=by let#[o,e,_]:=L;exact D5 e
   apply vl6 E L λn k1 k2 k3 k4 k5 k6 G=>?_;apply T7 ?_;apply uq2 hr.hd (zipApart_new Y J) k1 k2 #[_,_,k3] k4 k5 (E.at λo e=>G _ _ e) (L.at λo e=>G _ _ e) (ks:=i) (rv:=g) (by simpa using C) (by simpa using B) hn R λh' Z M kp y dd=>?_;have HU:∀b o,u.heap.get? b=some o->h'.get? b=some o:=λb o e=>kp b o (J0 (C5 (D5 e) (R6 _ _))) (J0 (C5 (D5 e) (R6 _ _))) (J0 (D5 e)) (J0 (C5 (D5 e) (R6 _ _))) (G b o e);have f:u.heap.objs.size<=n.objs.size:=by rw[k6];exact R6 _ _
   have hp:H1 n.objs.size=none:=t.aE.fresh f;have j:(putAll i g []).length<=sizeLine:=D3 (Uw i g []) (D3 (m:=1000) (by simpa using R) ∅);have Bw:(n.objs.size==Q4)=false:=beq_eq_false_iff_ne.mpr (Y0 (C5 t.big f));have I2:=t.laid (a:=n.objs.size) (t':=Z) (o:=.dK (putAll i g [])) HU f #[j,Bw,M,y,dd];exact#[.ref n.objs.size,_,I2,rfl,q _ hp]
end L2
namespace L3
open PySem PySem.Spec PyProof.Rows L2
def dn(kvs:List (Key×D))(k:Key):Option D:=(kvs.find? λf=>decide (f.1=k)).map (·.2)
def mh(kvs:List (Key×D))(k:Key)(v:D):List (Key×D):=if(kvs.any λf=>decide (f.1=k))=true then kvs.map (λf=>if f.1=k then(f.1,v) else f) else kvs++[(k,v)]
def sU:List Key->List D->List (Key×D)->List (Key×D)
 | k::g,v::f,kvs=>sU g f (mh kvs k v)| _,_,kvs=>kvs
section
variable{X:Cx}{K:W.Frag}{G:Gp}{H:Hp}{p:Addr}
theorem E_:∀{kvs:List (Key×D)} {ys:List (Key×V)},aB K H kvs ys->(dn kvs k=none/\c8 ys k=none)\/∃d v,dn kvs k=some d/\c8 ys k=some v/\ae K H d v
 | [],ys,⟨f,i⟩=>by
  have:ys=[]:=by cases ys with|nil=>rfl|cons y ys=>simp at f
  subst this;exact .inl #[rfl,rfl]
 | (g,d)::kvs,[],⟨f,i⟩=>by simp at f| (g,d)::kvs,(q,v)::ys,⟨f,i⟩=>by
  rw[C0,C0] at f;let#[l,u]:=X0 f;have l:g=q:=l;subst l;let#[x,B,m,o,n]:=i.au;rw[C0] at m;let#[j,t]:=X0 m;have j:v=x:=j;subst j;by_cases h:g=k
  .right;exact#[d,v,by simp[dn,L4,h],CZ h,o]
  .have r:=E_ (k:=k) (kvs:=kvs) (ys:=ys) #[u,by rw[t];exact n];have A:dn ((g,d)::kvs) k=dn kvs k:=by simp[dn,L4,h]
   rw[A,CY h];exact r
theorem v07(q:ae K H d v):∀{kvs:List (Key×D)} {ys:List (Key×V)},aB K H kvs ys->aB K H (kvs.map (λf=>if f.1=k then(f.1,d) else f)) (ys.map (λf=>if f.1=k then(f.1,v) else f))/\(kvs.any λf=>decide (f.1=k))=(ys.any λf=>decide (f.1=k))
 | [],ys,⟨g,j⟩=>by
  have:ys=[]:=by cases ys with|nil=>rfl|cons y ys=>simp at g
  subst this;exact#[#[rfl,.nil],rfl]
 | (h,J)::kvs,[],⟨g,j⟩=>by simp at g| (h,J)::kvs,(A,r)::ys,⟨g,j⟩=>by
  rw[C0,C0] at g;let#[m,I]:=X0 g;have m:h=A:=m;subst m;let#[x,L,o,u,t]:=j.au;rw[C0] at o;let#[l,E]:=X0 o;have l:r=x:=l;subst l;let#[#[C,n],B]:=v07 (k:=k) q (kvs:=kvs) (ys:=ys) #[I,by rw[E];exact t];apply#[#[?_,?_],by rw[O0,O0,B]]
  .rw[C0,C0,C0,C0,C];by_cases i:h=k <;> simp[i]
  .rw[C0,C0,C0,C0];by_cases i:h=k
   .simp only[i,if_true];exact .cons q n
   .simp only[i,if_false];exact .cons u n
def TX(q:ae K H d v)(h:aB K H kvs ys):aB K H (mh kvs k d) (putK ys k v):=by
 let#[g,f]:=v07 (k:=k) q h;unfold mh putK;rw[f];split
 .exact g
 .exact#[by rw[B7,B7,h.1];rfl,by rw[B7,B7];exact h.2.append (.cons q .nil)]
theorem Ux:∀{ks:List Key} {ds:List D} {vs:List V} {kvs:List (Key×D)} {ys:List (Key×V)},ag K H ds vs->aB K H kvs ys->aB K H (sU ks ds kvs) (putAll ks vs ys)
 | [],_,_,_,_,_,h=>h| _::_,[],vs,_,_,r,h=>by rw[r.aY];exact h| k::ks,d::ds,vs,kvs,ys,r,h=>by let#[x,i,rfl,g,f]:=r.au;exact Ux (ks:=ks) f (TX g h)
def AG(r:ae K H (kD k) v):v=kV k:=by
 cases k with
 | inl i=>exact(show ae K H (.int i) v from r).int_inv| inr x=>exact(show ae K H (.str x) v from r).str_inv
def wj(i h:bu):bu:=λf G q=>i f G λx j=>h f j λy g=>∃a kvs k d,x=.ref a/\y=kD k/\g a=some (.bI kvs)/\dn kvs k=some d/\q d g
def vr6(h:aH K (wj C B) o H Q):Sg (aH K C) (aH K B) o H Q:=by
 let#[g,G,q,j,c,t,f]:=h;apply#[g,G,_,j,c,t,λx R v H1 N c1 m J=>#[g,R,_,j.le m,c1,J,λy G2 u Z M c2 l I=>?_]];let#[a,kvs,k,d,rfl,rfl,O,n,E]:=I;have S:=ae.le l N;cases S.aj;obtain rfl:=AG M;let#[U,e,L]:=c2 a _ O;rcases E_ (k:=k) L with⟨z,_⟩|⟨Y,w,i,A,r⟩
 .rw[n] at z;cases z
 .rw[n] at i;cases i;exact⟨a,w,rfl,by rw[<- A];exact lP.k e,f _ _ _ _ r c2 (m.trans l) E⟩
def xt(h:aQ k X.A)(j:E3 X o to)(hi:E3 X i f)(g:sL i:=by exact λ_ _=>rfl):E3 X (.Subscript o i pos) (wj to f):=dH (vb5 (Mc h) j hi g) λ_ _ _=>vr6
def Ek(j i h:bu):iH:=λn f G=>h f G λv m=>j f m λx l=>i f l λy g=>∃(a:Addr) (kvs:List (Key×D)) (k:Key),x=.ref a/\y=kD k/\g a=some (.bI kvs)/\kvs.length<sizeLine/\n.nx f (aG g a (.bI (mh kvs k v)))
def ML{pos g:Pos}(hr:aQ k X.A)(ho:E3 X o to)(hi:E3 X i L)(Y:E3 X value J) (Z:X7 value (some (.Subscript o i g)) pos.line X.env=pure false:=by rfl):S3 X (.Assign [.Subscript o i g] value pos) (Ek to L J):=
 oZ (wf5 (Mc hr) ho hi Y Z) λD σ H h=>by
  let#[j,G,d,l,c,t,f]:=h;apply#[j,G,_,l,c,t,λv G1 w H1 U c1 r Q=>#[j,G1,_,l.le r,c1,Q,λx G2 u H2 S c2 q O=>#[j,G2,_,l.le (r.trans q),c2,O,λy G3 z I R E n N=>?_]]];let#[a,kvs,k,rfl,rfl,hg,hl,M]:=N;have UW:=ae.le n S;cases UW.aj;obtain rfl:=AG R;let#[B,e,C]:=E a _ hg;have m:Le I (upd I a (.dK (putK B k w))):=Le.dK e;have Vx:B.length=kvs.length:=by have:=congrArg J1 C.1;rw[B0,B0] at this;exact this.symm
  apply#[a,_,rfl,v_.k e (by rw[Vx];exact hl),?_];apply f.nx _ _ _ _ (((l.le r).le q).le (n.trans m)) ?_ (r.trans (q.trans (n.trans m))) M;exact E.put m #[_,hJ,(TX (ae.le (q.trans n) U) C).le m]
def TN(t:fk):bu:=λi G q=>t i G λj g=>match j with
 | [x,y]=>∃(f:List Key) (h:List D),tP g x=some (f.map kD)/\tP g y=some h/\f.length=h.length/\f.length<=1000/\∀p,g p=none->q (.ref p) (aG g p (.bI (sU f h [])))| _=>False
def uw0(h:aH K (TN t) A H Q):uy7 K (eK K t) A H Q:=by
 let#[i,G,q,N,c,t,f]:=h;apply#[i,G,_,N,c,t,λds u vs r R c1 Y j=>?_];split at j
 .rename_i x y;let#[m,es,e,n,hn,hz,E]:=j;let#[v,C,rfl,M,O]:=R.au;let#[v2,rfl,k]:=O.one;let#[k1,a,rfl,_,U]:=ZR M c1 e;let#[Z,b,rfl,_,S]:=ZR k c1 n;let#[xs,J,L]:=U u r (Le.refl _) c1 e;let#[B,I,l]:=S u r (Le.refl _) c1 n;obtain rfl:=TY L;apply#[k1,Z,a,b,m,B,rfl,J,I,by rw[hn,l.length],hz,λp g=>?_];apply f (.ref p) _ (.ref p) _ ae.eW (c1.put (o:=.bI (sU m es [])) (Le.fresh g) #[_,hJ,?_]) (Y.trans (Le.fresh g)) (E p (c1.fresh g));exact(Ux l #[rfl,.nil]).le (Le.fresh g)
 .exact j.elim
def vh7{a b:Expr}{f:fk}{p h pos j:Pos}{k:Nat}(m:aQ k X.A)(o:Gl X "zip")(n:X.mg "zip" = none)(g:Gl X "dict")(i:X.mg "dict" = none)(q:A3 X [a,b] f) (l:D0 [a,b] X.env=(false,eval a X.env)::D0 [b] X.env:=by rfl) (t:(backTo pos (D0 [b] X.env)).any (·.1)=false:=by rfl)
  (r:D0 [.Call (.Name "zip" p) [a,b] [] pos] X.env=[(false,eval (.Call (.Name "zip" p) [a,b] [] pos) X.env)]:=by rfl):
  E3 X (.Call (.Name "dict" h) [.Call (.Name "zip" p) [a,b] [] pos] [] j) (TN f):=dH (v44 m o n g i q l t r) λ_ _ _=>uw0
end
end L3
namespace L3
open PySem PySem.Spec PyProof.Rows L2 Rw
def ip:List Str->Str->Nat
 | [],_=>0| b::f,x=>if b=x then 0 else 1+ip f x
def gtB(bs:List Str)(vs:List Nat)(x:Str):Nat:=(vs[ip bs x]?).getD 0
def eG(bs:List Str)(vs:List Nat)(x:Str)(v:Nat):List Nat:=vs.set (ip bs x) v
def bC(bs:List Str)(vs:List Nat):List (Key×D):=(bs.zip vs).map λp=>(X2 p.1,D.int (p.2:Int))
theorem Sx:∀{bs:List Str} {x:Str},x∈bs->ip bs x<bs.length
 | b::bs,x,h=>by
  unfold ip;by_cases e:b=x
  .rw[if_pos e];simp
  .rw[if_neg e];have:=Sx (bs:=bs) (x:=x) (by rcases D4.mp h with z|z;exact absurd z.symm e;exact z);simp only[C1];omega
theorem xx:∀{bs:List Str} {vs:List Nat} {x:Str},x∈bs->vs.length=bs.length->dn (bC bs vs) (.inr x)=some (.int (gtB bs vs x:Int))
 | b::bs,[],x,h,f=>by simp at f| b::bs,v::vs,x,h,f=>by
  by_cases e:b=x
  .subst e;simp[dn,bC,gtB,ip,L4]
  .have i:x∈bs:=by rcases D4.mp h with z|z;exact absurd z.symm e;exact z
   have g:=xx (bs:=bs) (vs:=vs) (x:=x) i (by simpa using f);have j:dn (bC (b::bs) (v::vs)) (.inr x)=dn (bC bs vs) (.inr x):=by simp[dn,bC,L4,e]
   rw[j,g];have:gtB (b::bs) (v::vs) x=gtB bs vs x:=by unfold gtB;rw[show ip (b::bs) x=1+ip bs x from by rw[ip,if_neg e],P5,U0]
   rw[this]
theorem SQ:∀{bs:List Str} {vs:List Nat},x∉bs->(bC bs vs).map (λf=>if f.1=X2 x then(f.1,w) else f)=bC bs vs/\((bC bs vs).any λf=>decide (f.1=X2 x))=false
 | [],_,_=>#[rfl,rfl]| _::_,[],_=>#[rfl,rfl]| b::bs,v::vs,h=>by
  have j:b≠x:=λe=>h (by rw[e];simp);let#[i,g]:=SQ (x:=x) (w:=w) (bs:=bs) (vs:=vs) λz=>h (C2 _ z);unfold bC at i g⊢;apply#[?_,?_]
  .rw[N6,C0,C0,i];simp[j]
  .rw[N6,C0,O0,g];simp[j]
def Ur:∀{bs:List Str} {vs:List Nat} {x:Str} {v:Nat},x∈bs->bs.Nodup->vs.length=bs.length->mh (bC bs vs) (.inr x) (.int (v:Int))=bC bs (eG bs vs x v):=by
 intro bs vs x v h o j;have key:((bC bs vs).any λf=>decide (f.1=X2 x))=true/\(bC bs vs).map (λf=>if f.1=X2 x then(f.1,D.int (v:Int)) else f)=bC bs (eG bs vs x v):=by
  induction bs generalizing vs with
  | nil=>cases h
  | cons b bs m =>
   cases vs with
   | nil=>simp at j| cons u vs =>
    let#[l,k]:=N0.mp o;by_cases e:b=x
    .subst e;let#[g,i]:=SQ (x:=b) (w:=D.int (v:Int)) (vs:=vs) l;unfold bC at g⊢;apply#[by simp,?_];rw[N6,C0,C0,g];simp[eG,ip]
    .have n:x∈bs:=by rcases D4.mp h with z|z;exact absurd z.symm e;exact z
     let#[g,i]:=m (vs:=vs) n k (by simpa using j);have p:eG (b::bs) (u::vs) x v=u::eG bs vs x v:=by unfold eG;rw[show ip (b::bs) x=ip bs x+1 from by rw[ip,if_neg e,P5],B78]
     rw[p];unfold bC at g i⊢;apply#[?_,?_]
     .rw[N6,C0,O0,g,OG]
     .rw[N6,N6,C0,C0,C0,i];simp[e]
 unfold mh;rw[if_pos key.1];exact key.2
theorem uk8:∀{bs cs:List Str} {vs us:List Nat},vs.length=bs.length->us.length=cs.length->(cs++bs).Nodup->sU (bs.map X2) (vs.map nD) (bC cs us)=bC (cs++bs) (us++vs)
 | [],cs,[],us,_,_,_=>by simp[sU]| [],cs,_::_,us,h,_,_=>by simp at h| _::_,cs,[],us,h,_,_=>by simp at h| b::bs,cs,v::vs,us,h,g,f=>by
  show sU (bs.map X2) (vs.map nD) (mh (bC cs us) (.inr b) (.int (v:Int)))=_;have k:b∉cs:=λz=>by have:=Y9.mp f;exact this.2.2 b z b (by simp) rfl
  let#[_,j]:=SQ (x:=b) (w:=D.int (v:Int)) (vs:=us) k;have l:mh (bC cs us) (.inr b) (.int (v:Int))=bC (cs++[b]) (us++[v]):=by unfold mh;rw[j,if_neg (by simp)];unfold bC;rw[List.zip_append g.symm,B7];rfl
  rw[l];have i:((cs++[b])++bs).Nodup:=by rw[D1];exact f
  rw[uk8 (bs:=bs) (cs:=cs++[b]) (vs:=vs) (us:=us++[v]) (by simpa using h) (by simp[g]) i,D1,D1];rfl
def v41{bs:List Str}{vs:List Nat}(g:vs.length=bs.length)(f:bs.Nodup):sU (bs.map X2) (vs.map nD) []=bC bs vs:=by have:=uk8 (bs:=bs) (cs:=[]) (vs:=vs) (us:=[]) g rfl f;simpa[bC] using this
def Fb(bs:List Str)(vs:List Nat):(bC bs vs).length<=bs.length:=by unfold bC;rw[B0,YA];exact Nat.min_le_left _ _
theorem w08:∀{rs:List av} {r:av},d5 W bs rs->r∈rs->sX W bs r
 | s::rs,r,h,m=>by
  rcases D4.mp m with e|e
  .subst e;exact h.1
  .exact w08 h.2 e
def pw(W:Nat):(1:Int)*2^W=((2^W:Nat):Int):=by rw[OC,Int.natCast_pow];rfl
theorem Tp:∀{bs:List Str} {vs:List Nat},bs.Nodup->vs.length=bs.length->bs.map (gtB bs vs)=vs
 | [],[],_,_=>rfl| [],_::_,_,h=>by simp at h| _::_,[],_,h=>by simp at h| b::bs,v::vs,j,h=>by
  let#[g,f]:=N0.mp j;have m:gtB (b::bs) (v::vs) b=v:=by simp[gtB,ip]
  have l:bs.map (gtB (b::bs) (v::vs))=bs.map (gtB bs vs):=by apply M5 λx i=>?_;have k:b≠x:=λz=>g (z▸i);unfold gtB;rw[show ip (b::bs) x=ip bs x+1 from by rw[ip,if_neg k,P5],U0]
  rw[C0,m,l,Tp f (by simpa using h)]
theorem vh1:∀{f:List Str} {k c:Nat},(∀w∈f,w.length=1)->f[k]?=some #[[c].toArray]->((f.map λw=>w.cps.toList).flatten)[k]?=some c
 | [],k,c,_,h=>by simp at h| w::f,0,c,_,h=>by
  have e:w=#[[c].toArray]:=by simpa using h
  subst e;rfl
 | w::f,k+1,c,hw,h=>by
  have g:w.cps.toList.length=1:=by have:=hw w C6;simpa[DU] using this
  rw[C0,K5,E6 (by rw[g];omega),g];exact vh1 (λv i=>hw v (C2 _ i)) (by simpa using h)
def wk2:∀g:List Str,(jn T6 g).cps.toList=(g.map λw=>w.cps.toList).flatten:=by
 have key:∀(g:List Str) (f:Array Nat),(g.foldl (λf p=>f++T6.cps++p.cps) f).toList=f.toList++(g.map λw=>w.cps.toList).flatten:=by
  intro g;induction g with
  | nil=>intro f;simp| cons w g h =>intro f;rw[Y6,h,C0,K5];have:T6.cps=[].toArray:=rfl;rw[this];simp
 intro g;cases g with
 | nil=>rfl| cons w g=>exact key g w.cps
def xj0{f:List Str}{k c:Nat}(hw:∀w∈f,w.length=1)(h:f[k]?=some #[[c].toArray]):(jn T6 f).cps[k]?=some c:=by rw[<- V2,wk2];exact vh1 hw h
def xb8{a b:Str}{k c:Nat}(h:a.cps[k]?=some c):(a++b).cps[k]?=some c:=by
 show(a.cps++b.cps)[k]?=some c;have f:k<a.cps.size:=by
  rcases LH k a.cps.size with z|z
  .exact z
  .rw[Array.getElem?_eq_none z] at h;cases h
 rw[Array.getElem?_append_left f];exact h
def vq0{bs:List Str}{sp:Nat}{l:Int}(m:bs.length<=6)(h:∀(t:Nat) (b:Str),bs[t]?=some b->b.cps[sp]?=some (97+((l+5*(t:Int))%26).toNat)):bs.Nodup:=by rw[List.Nodup,List.pairwise_iff_getElem];intro i j hi g n e;have f:=h i bs[i] (B6 hi);have k:=h j bs[j] (B6 g);rw[e,k] at f;have:=D8 f;omega
theorem vc2(h:d5 W bs ys):∀k:Nat,d5 W bs (D6 k ys).flatten
 | 0=>trivial| k+1=>by rw[K0,K5];exact d4.mpr #[h,vc2 h k]
mutual
theorem wh7:∀(r:av),sX W bs r->d5 W bs (iL r)
 | .is _ _,h=>#[h,trivial]| .op _ _ _ _,h=>#[h,trivial]| .fz a f g,h=>#[#[h.1,EN f h.2.1,EN g h.2.2],trivial]| .j8 k f,h=>vc2 (EN f h.2) k
theorem EN:∀(rs:List av),d5 W bs rs->d5 W bs (aW rs)
 | [],_=>trivial| r::rs,h=>d4.mpr #[wh7 r h.1,EN rs h.2]
end
end L3
namespace L3
open PySem PySem.Spec PyProof.Rows L2
section
variable{X:Cx}{K:W.Frag}{H:Hp}{o e tg:Expr}{es:List Expr}{te to:bu}{ts:fk}{apos aN pos:Pos}{x:Str}
def Zy:bu:=λ_ G q=>∀p,G p=none->q (.ref p) (aG G p (.bI []))
def wl5:E3 X (.Dict [] [] pos) Zy:=dH vp5 λj H Q h=>by let#[i,G,q,k,c,t,f]:=h;exact λp g=>f (.ref p) _ (.ref p) _ (by rw[ae]) (c.put (o:=.bI []) (Le.fresh g) #[[],hJ,rfl,.nil]) (Le.fresh g) (t p (c.fresh g))
end
end L3
namespace L2
open PySem PySem.Spec PyProof.Rows
def ur1(i:TA):TE:=λg H Q=>i g H λh f=>∃j:Int,h=[.int j]/\(-1000000<=j/\j<=1000000)/\∀l,f l=none->Q (.ref l) (upd f l (.lst ((F3 (j-0).toNat).map λk:Nat=>V.int (0+k))))
def uv4{X:Cx}(hr:aQ k X.A)(hg:Gl X "range")(hm:X.mg "range" = none)(R:Gl X "list")(Z:X.mg "list" = none)(ha:PA X [a] O) (hs:D0 [a] X.env=[(false,eval a X.env)]:=by rfl)
  (C:D0 [.Call (.Name "range" p) [a] [] pos] X.env=[(false,eval (.Call (.Name "range" p) [a] [] pos) X.env)]:=by rfl):
  PE X (.Call (.Name "list" p2) [.Call (.Name "range" p) [a] [] pos] [] jM) (ur1 O):=by
 intro pins s J H Q I h;apply M8 (rX I R Z v26 ?_);apply J6 ?_ C rfl;rw[C];show wpAny _ _ (spliced ((false,eval (.Call (.Name "range" p) [a] [] pos) X.env)::backTo jM [])) _ _ s;apply P8 ?_;apply M8 (rX I hg hm Oz (J6 (aZ (ha pos pins s J H _ I h) λus x ⟨vs,H1,G,U,Y⟩=>?_) hs rfl));let#[j,e,#[b3,b4],q]:=Y;subst e;cases U with
 | cons r S =>
   cases S;let#[t2,rfl]:=r;apply call_range_1 ?_;apply T7 ?_;have hn:Zd 0 j 1=(((j-0).toNat:Nat):Int):=by rw[Yp];split <;> omega
   apply call_list_range (hh:=hr.hd) (Yc ..) (XN () () () ()) hn () λu N f c kp M g=>?_;have HU:∀b o,x.heap.get? b=some o->u.get? b=some o:=λb o e=>kp b o (B8 _ e);have hv:Vals ((F3 (j-0).toNat).map λk:Nat=>V.int (0+k)) f.toList:=by
    have i:f.size=(j-0).toNat:=g.1;have key:∀(m:Nat) (l:List Value),(∀(y:Nat) v,l[y]?=some v->∃t,v=.int (0+(y:Int)) t)->l.length=m->Vals ((F3 m).map λk:Nat=>V.int (0+k)) l:=by
     intro m;induction m with
     | zero=>intro l _ n;have:l=[]:=E4 n;subst this;exact .nil| succ m ih =>
      intro l n i;rcases V0 l with e|⟨B,v,e⟩
      .subst e;simp at i
      .rw[V1] at e;subst e;have E:B.length=m:=by simpa using i
       rw[V6,B7];apply(ih B (λy v e=>n y v ?_) E).append (.cons ?_ .nil)
       .rw[F9 (K7.mp e).1];exact e
       .let#[t,e]:=n m v (by rw[<- E];simp);exact#[t,e]
    apply key _ f.toList (λy v e=>?_) (by simpa using i);let#[t,e]:=g.2 y v (by simpa using e);exact#[t,by rw[e,OD]]
   have L:((F3 (j-0).toNat).map λk:Nat=>V.int (0+k)).length<=sizeLine:=by rw[B0,J4];exact P4 (C9 (m:=3000000) () ∅)
   have I2:=G.laid (h':=u) (a:=x.heap.objs.size+1) (o:=.lst ((F3 (j-0).toNat).map λk:Nat=>V.int (0+k))) (t':=N) HU (U8 _) #[L,f.toList,c,hv,by simpa using M];exact#[_,_,I2,by simp;rfl,q _ (G.aE.fresh (U8 _))]
end L2
namespace L3
open PySem PySem.Spec PyProof.Rows L2
def Ul(t:fk):bu:=λg G q=>t g G λh f=>match h with
 | [.int j]=>(-1000000<=j/\j<=1000000)/\∀p,f p=none->q (.ref p) (aG f p (.lst (bO 0 (j-0).toNat)))| _=>False
def us8{K:W.Frag}{t:fk}{l:L2.St}{H:Hp}{Q:VK}(h:aH K (Ul t) l H Q):ur1 (eK K t) l H Q:=by
 let#[i,G,q,n,c,t,f]:=h;apply#[i,G,_,n,c,t,λy B u A o c1 r g=>?_];split at g
 .rename_i j;let#[x,rfl,m]:=o.one;cases m.int_inv;exact#[j,rfl,g.1,λp k=>f _ _ _ _ ae.eW (c1.cG k (Tr _)) (r.trans (Le.fresh k)) (g.2 p (c1.fresh k))]
 .exact g.elim
def v58{X:Cx}(j:aQ k X.A)(m:Gl X "range")(l:X.mg "range" = none)(g:Gl X "list")(h:X.mg "list" = none)(n:A3 X [a] f) (i:D0 [a] X.env=[(false,eval a X.env)]:=by rfl)
  (o:D0 [.Call (.Name "range" p) [a] [] pos] X.env=[(false,eval (.Call (.Name "range" p) [a] [] pos) X.env)]:=by rfl):
  E3 X (.Call (.Name "list" q) [.Call (.Name "range" p) [a] [] pos] [] r) (Ul f):=dH (uv4 j m l g h n i o) λ_ _ _=>us8
def Ss(l i j:bu):bu:=λf G q=>l f G λx h=>(∃a kvs,x=.ref a/\h a=some (.bI kvs))/\i f h λy m=>j f m λz g=>∃a kvs k,x=.ref a/\y=kD k/\g a=some (.bI kvs)/\q ((dn kvs k).getD z) g
def ve4{K:W.Frag}{H:Hp}{E B C:bu}{A:L2.St}{Q:VK}(h:aH K (Ss E B C) A H Q):vw2 (aH K E) (aH K B) (aH K C) A H Q:=by
 let#[g,G,q,o,c,t,f]:=h;apply#[g,G,_,o,c,t,λx G1 v H1 S c1 j n=>?_];let#[#[a,kvs,rfl,X],n]:=n;let#[L,e,rp]:=c1 a _ X;apply#[a,S.aj,.inl #[L,.of e],g,G1,_,o.le j,c1,n,λy G2 u H2 R c2 p N=>#[g,G2,_,o.le (j.trans p),c2,N,λz G3 w H3 O r I M=>?_]];let#[a',HR,k,Z,rfl,U,i]:=M;cases Z;obtain rfl:=AG R;let#[LV,Y,Np]:=r a _ U;apply#[c8 LV k,lP.k Y,?_];rcases E_ (k:=k) Np with⟨m,l⟩|⟨d',w',m,l,J⟩
 .rw[m] at i;rw[l];exact f _ _ _ _ O r (j.trans (p.trans I)) i
 .rw[m] at i;rw[l];exact f _ _ _ _ J r (j.trans (p.trans I)) i
def xa5{X:Cx}{g h:Pos}(l:aQ k X.A)(m:E3 X o to)(p:E3 X e te)(n:E3 X f i)(q:N3 o "get" X.env (eval o X.env)=eval o X.env:=by rfl)
  (j:((backTo h (D0 [e,f] X.env)).all (λx=>!x.1)&&(W4 h (O7 [] X.env)).all (λx=>x.1.isSome)
   && decide (([e,f]:List Expr).length+([]:List Keyword).length+(if([]:List Keyword).isEmpty then 0 else 1)<30))=true:=by rfl)
  (r:(g.endLine==h.line)=true:=by rfl) (t:D0 [e,f] X.env=[(false,eval e X.env),(false,eval f X.env)]:=by rfl):E3 X (.Call (.Attribute o "get" g) [e,f] [] h) (Ss to te i):=
 dH (vp7 (Mc l) m p n ⟨q,j,r,by rw[t];rfl⟩) λ_ _ _=>ve4
end L3
namespace Rw
open PySem PySem.Spec PyProof.Rows L2 L3 Law
def pR(rs:List Row)(bs:List Int):List Int:=rs.foldl (df 1) bs
def T':pR (r::b) bs=pR b (df 1 bs r):=rfl
def we4:pR [] bs=bs:=rfl
def tg(fr f:Nat):Row->Prop
 | .add x o=>fr<=x/\x<f/\o.ok f x| .take x o=>fr<=x/\x<f/\o.ok f x| .turn x i g=>fr<=x/\x<f/\i<32/\g.length<=2/\∀c∈g,c.1<f/\c.1≠x/\c.2<32| _=>False
def MV{a b x:Nat}{o:oU}(h:o.ok a x)(f:a<=b):o.ok b x:=by
 cases o with
 | num n=>exact h| box y=>exact#[C5 h.1 f,h.2]
def AJ(h:tg fr l r)(f:g<=fr)(h1:l<=k):tg g k r:=by
 cases r with
 | add x o=>exact#[D3 f h.1,C5 h.2.1 h1,MV h.2.2 h1]| take x o=>exact#[D3 f h.1,C5 h.2.1 h1,MV h.2.2 h1]| turn x i m=>exact#[D3 f h.1,C5 h.2.1 h1,h.2.2.1,h.2.2.2.1,λc j=>#[C5 (h.2.2.2.2 c j).1 h1,(h.2.2.2.2 c j).2]]| _=>exact h.elim
def Mg(h:tg fr g r)(f:g<=sz):r.ok sz:=by
 have h:=AJ h (B9 _) f;cases r with
 | add x o=>exact#[h.2.1,h.2.2]| take x o=>exact#[h.2.1,h.2.2]| turn x i j=>exact#[h.2.1,h.2.2.1,h.2.2.2.1,h.2.2.2.2]| _=>exact h.elim
def MW(h:tg fr f r):r.plain=true:=by
 cases r with
 | go=>exact h.elim| aT=>exact h.elim| _=>rfl
def x95{bs:List Int}(h:x<bs.length):gt (df 1 bs (.add x o)) i=if i=x then(gt bs x+val bs o)%4294967296 else gt bs i:=by show gt (bs.set x ((gt bs x+1*val bs o)%4294967296)) i=_;rw[sQ h,OC]
def vg7{bs:List Int}(h:x<bs.length):gt (df 1 bs (.take x o)) i=if i=x then(gt bs x-val bs o)%4294967296 else gt bs i:=by show gt (bs.set x ((gt bs x-1*val bs o)%4294967296)) i=_;rw[sQ h,OC]
def vg6{bs:List Int}(h:x<bs.length):gt (df 1 bs (.turn x i cs)) j=if j=x then(if con bs cs=true then eQ (gt bs x) i else gt bs x) else gt bs j:=by
 show gt (if con bs cs=true then bs.set x (eQ (gt bs x) i) else bs) j=_;by_cases f:con bs cs=true
 .rw[if_pos f,if_pos f,sQ h]
 .rw[if_neg f,if_neg f];split
  .rename_i e;rw[e]
  .rfl
def w51{bs:List Int}(h:tg fr f r)(g:f<=bs.length)(hi:i<fr\/f<=i):gt (df 1 bs r) i=gt bs i:=by
 cases r with
 | add x o=>have:=h.1;have:=h.2.1;rw[x95 (),if_neg ()]| take x o=>have:=h.1;have:=h.2.1;rw[vg7 (),if_neg ()]| turn x j k=>have:=h.1;have:=h.2.1;rw[vg6 (),if_neg ()]| _=>exact h.elim
structure Wv(fr cZ:Nat)(new:List Row)(F:List Int->List Int->Prop):Prop where
 le:fr<=cZ
 tg:∀r∈new,tg fr cZ r
 ef:∀sz bs,dA sz bs->cZ<=sz->(∀i,fr<=i->gt bs i=0)->F bs (pR new bs)
theorem uy5:∀{new:List Row} {bs:List Int},(∀r∈new,Rw.tg fr l r)->dA sz bs->l<=sz->dA sz (pR new bs)/\∀i,i<fr\/l<=i->gt (pR new bs) i=gt bs i
 | [],bs,_,f,_=>#[f,λ_ _=>rfl]| r::new,bs,h,f,j=>by have k:=h r C6;have g:=My (s:=1) f (Mg k j);let#[n,m]:=uy5 (new:=new) (bs:=df 1 bs r) (λx o=>h x (C2 _ o)) g j;exact#[n,λi hi=>by rw[T',m i hi,w51 k (by rw[f.len];exact j) hi]]
def Wv.keep(h:Wv fr f new F)(j:dA sz bs)(g:f<=sz):dA sz (pR new bs)/\∀i,i<fr\/f<=i->gt (pR new bs) i=gt bs i:=uy5 h.tg j g
def Wv.nil(h:∀bs,F bs bs):Wv fr fr [] F:=#[B9 _,λr f=>(by cases f),λ_ bs _ _ _=>h bs]
def Wv.imp(h:Wv fr g new F)(k:∀bs f,F bs f->i bs f):Wv fr g new i:=#[h.le,h.tg,λsz bs a b c=>k _ _ (h.ef sz bs a b c)]
def Fe(h:∀r∈rs,r.plain=true):Pairs rs:=by
 apply#[λj x n k e=>?_,λj x n k e=>?_]
 .have:=h _ (K9 e);cases this
 .have:=h _ (K9 e);cases this
def p16(h:W<=16):2^W<=65536:=Z3 ∅ h
def w57:(df 1 bs r).length=bs.length:=by
 cases r with
 | add=>exact J9| take=>exact J9| turn x i f=>show(if con bs f=true then bs.set x _ else bs).length=_;split;exact J9;rfl| swap=>show((bs.set _ _).set _ _).length=_;rw[J9,J9]| go=>rfl| aT=>rfl
def W_(i:Nat):eQ 0 i=2^i:=by
 have:bit 0 i=0:=by unfold bit;rw[Int.zero_ediv];rfl
 show(0:Int)+2^i*(1-2*bit 0 i)=_;rw[this];omega
def o1(k:Nat)(h:x<fr):x<fr+k:=Nat.lt_add_right k h
def o2(k:Nat)(h:x<fr):x≠fr+k:=J0 (o1 k h)
def o3{a:Nat}(h:a<65536):((0:Int)+a)%4294967296=a:=()
def o4{a c:Nat}(h:a<65536)(h':c<65536):((a:Int)+c)%4294967296=((a+c:Nat):Int):=()
def o5{v k:Nat}(h:v<4294967296)(h':k<=v):((v:Int)-k)%4294967296=((v-k:Nat):Int):=()
def o6(g:a<P)(f:c<P):(a+c) / P=if P<=a+c then 1 else 0:=by
 split
 .exact Nat.div_eq_of_lt_le () ()
 .exact Nat.div_eq_of_lt ()
def o8{a c P:Nat}(h:a<P)(g:c<P)(f:P<=65536):(((a:Int)-c)%4294967296+(if a<c then(P:Int) else 0))%4294967296=(((a+(P-c))%P:Nat):Int):=by
 by_cases q:a<c
 .rw[if_pos q,C08 ()];omega
 .rw[if_neg q,Nat.mod_eq_sub_mod (),C08 ()];omega
def cM(fr x y:Nat)(k:Nat):List Row:=(F3 k).map λi=>.turn fr i [(x,i),(y,i)]
def p_(rp:Addr)(W fr st:Nat):List (Str×D):=[("wide",.int (W:Int)),("fresh",.int (fr:Int)),("rows",.ref rp),("steps",.int (st:Int))]
def Dj:(("fresh" :Str) == "wide")=false/\(("rows" :Str) == "wide")=false/\(("rows" :Str) == "fresh")=false/\(("steps" :Str) == "wide")=false/\(("steps" :Str) == "fresh")=false/\(("steps" :Str) == "rows")=false /\ (("fresh_box" :Str) == "wide")=false/\(("fresh_box" :Str) == "fresh")=false/\(("fresh_box" :Str) == "rows")=false/\(("fresh_box" :Str) == "steps")=false/\(("put" :Str) == "wide")=false/\(("put" :Str) == "fresh")=false/\(("put" :Str) == "rows")=false/\(("put" :Str) == "steps")=false /\ (("wide" :Str) = "fresh")=False/\(("wide" :Str) = "rows")=False/\(("wide" :Str) = "steps")=False/\(("fresh" :Str) = "rows")=False/\(("fresh" :Str) = "steps")=False/\(("rows" :Str) = "steps")=False/\(("fresh" :Str) = "wide")=False/\(("rows" :Str) = "wide")=False/\(("rows" :Str) = "fresh")=False/\(("steps" :Str) = "wide")=False/\(("steps" :Str) = "fresh")=False/\(("steps" :Str) = "rows")=False /\ (("put_unless" :Str) == "wide")=false/\(("put_unless" :Str) == "fresh")=false/\(("put_unless" :Str) == "rows")=false/\(("put_unless" :Str) == "steps")=false/\(("put_by_choice" :Str) == "wide")=false/\(("put_by_choice" :Str) == "fresh")=false/\(("put_by_choice" :Str) == "rows")=false/\(("put_by_choice" :Str) == "steps")=false:=by
 apply#[?_,?_,?_,?_,?_,?_,?_,?_,?_,?_,?_,?_,?_,?_,?_,?_,?_,?_,?_,?_,?_,?_,?_,?_,?_,?_,?_,?_,?_,?_,?_,?_,?_,?_] <;> first|decide|exact eq_false ∅
def aF{rp:Addr}{W fr st:Nat}:J5 ("wide" :Str) (p_ rp W fr st)=some (.int (W:Int))/\J5 ("fresh" :Str) (p_ rp W fr st)=some (.int (fr:Int))/\J5 ("rows" :Str) (p_ rp W fr st)=some (.ref rp)/\J5 ("steps" :Str) (p_ rp W fr st)=some (.int (st:Int)) /\ J5 ("fresh_box" :Str) (p_ rp W fr st)=none/\J5 ("put" :Str) (p_ rp W fr st)=none/\J5 ("put_unless" :Str) (p_ rp W fr st)=none/\J5 ("put_by_choice" :Str) (p_ rp W fr st)=none/\(∀v:Nat,putD ("fresh" :Str) (.int (v:Int)) (p_ rp W fr st)=p_ rp W v st)/\(∀v:Nat,putD ("steps" :Str) (.int (v:Int)) (p_ rp W fr st)=p_ rp W fr v):=by
 apply⟨?_,?_,?_,?_,?_,?_,?_,?_,λv=>?_,λv=>?_⟩ <;> simp only[p_,Dj,beq_self_eq_true,F5,O1,putD,if_false,if_true]
def SA{rp:Addr}{W fr st:Nat}:(p_ rp W fr st).length<1000:=show 4<1000 by decide
structure aq(C:Addr)(G:Gp)(p rp:Addr)(W fr:Nat)(rows:List Row)(st:Nat):Prop where
 ob:G p=some (.ins C (p_ rp W fr st))
 ro:G rp=some (.lst (rows.map Row.d))
def aq.pr{C:Addr}{G:Gp}{p rp:Addr}{W fr st:Nat}{f:List Row}(h:aq C G p rp W fr f st):p≠rp:=λe=>by have:=h.ro;rw[<- e,h.ob] at this;cases this
def cA(p rp:Addr)(G f:Gp):Prop:=∀b o,b≠p->b≠rp->G b=some o->f b=some o
def cA.refl:cA p rp G G:=λ_ _ _ _ h=>h
def cA.trans(h:cA p rp G G1)(k:cA p rp G1 i):cA p rp G i:=λb o g f e=>k b o g f (h b o g f e)
def cA.new(h:cA p rp G G1)(f:G1 q=none):cA p rp G (aG G1 q o):=λb o i g e=>by have:=h b o i g e;rw[ay (aP this f)];exact this
def aq.new{C:Addr}{G:Gp}{p rp q:Addr}{W fr st:Nat}{f:List Row}{o:DO}(h:aq C G p rp W fr f st)(g:G q=none):aq C (aG G q o) p rp W fr f st:=#[by rw[ay (aP h.ob g)];exact h.ob,by rw[ay (aP h.ro g)];exact h.ro]
def gq(W x y fr:Nat)(o:Str):List Row:=
 if o = "+" then[.add fr (.box x),.add fr (.box y),.turn (fr+1) W [(fr,W)],.take fr (.box (fr+1))]
 else if o = "-" then[.add fr (.box x),.take fr (.box y)]++[.turn (fr+1) W [(fr,31)],.add fr (.box (fr+1))]
 else if o = "&" then cM fr x y W
 else if o = "|" then cM fr x y W++([.add (fr+1) (.box x),.add (fr+1) (.box y)]++D6 1 (.take (fr+1) (.box fr)))
 else if o = "^" then cM fr x y W++([.add (fr+1) (.box x),.add (fr+1) (.box y)]++D6 2 (.take (fr+1) (.box fr)))
 else if o = "<" then[.add fr (.box x),.take fr (.box y)]++[.turn (fr+1) 0 [(fr,31)]]
 else([.add fr (.box x),.take fr (.box y)]++[.add (fr+1) (.box y),.take (fr+1) (.box x)])++[.turn (fr+2) 0 [],.turn (fr+2) 0 [(fr,31)],.turn (fr+2) 0 [(fr+1,31)]]
def AW(fr:Nat)(o:Str):Nat:=if o = "+" then fr else if o = "-" then fr else if o = "&" then fr else if o = "|" then fr+1 else if o = "^" then fr+1 else if o = "<" then fr+1 else fr+2
def my(fr:Nat)(o:Str):Nat:=if o = "+" then fr+2 else if o = "-" then fr+2 else if o = "&" then fr+1 else if o = "|" then fr+2 else if o = "^" then fr+2 else if o = "<" then fr+2 else fr+3
def Ua(h:o∈L3.signs):o = "+" \/ o = "-" \/ o = "&" \/ o = "|" \/ o = "^" \/ o = "<" \/ o = "=" := by simpa[L3.signs] using h
def wu0(h:W<=16)(g:o∈L3.signs):(gq W x y fr o).length<=20:=by
 have f:(cM fr x y W).length=W:=by unfold cM;rw[B0,J4]
 rcases Ua g with rfl|rfl|rfl|rfl|rfl|rfl|rfl
 .exact(by decide:4<=20)
 .exact(by decide:4<=20)
 .show(cM fr x y W).length<=20;omega
 .show(cM fr x y W++_).length<=20;rw[B4,f];show W+3<=20;omega
 .show(cM fr x y W++_).length<=20;rw[B4,f];show W+4<=20;omega
 .exact(by decide:3<=20)
 .exact(by decide:7<=20)
def vw6:fr<=my fr o/\my fr o<=fr+3/\AW fr o<my fr o:=by
 unfold my AW;split
 .omega
 split
 .omega
 split
 .omega
 split
 .omega
 split
 .omega
 split <;> omega
def di(fr:Nat):l0->List Row
 | .num i=>[.add fr (.num (i:Int))]| .box _=>[]
def a_(fr:Nat):l0->Nat
 | .num _=>fr+1| .box _=>fr
def fo(bs:List Str)(pl:List Nat)(fr:Nat):l0->Nat
 | .num _=>fr| .box x=>gtB bs pl x
def vt1{pl:List Nat}(f:x∈bs)(g:pl.length=bs.length):pl[ip bs x]?=some (gtB bs pl x):=by
 have:ip bs x<pl.length:=by rw[g];exact Sx f
 unfold gtB;rw[B6 this];rfl
def o9(a:l0):fr<=a_ fr a/\a_ fr a<=fr+1/\(di fr a).length<=1:=by
 cases a with
 | num i=>exact#[U8 _,B9 _,by show 1<=1;omega]| box x=>exact#[B9 _,U8 _,by show 0<=1;omega]
def wg(W:Nat)(bs:List Str)(pl:List Nat)(fr:Nat):av->List Row×List Nat×Nat
 | .is x a=>(di fr a,eG bs pl x (fo bs pl fr a),a_ fr a)| .op x o a b=>(di fr a++di (a_ fr a) b++gq W (fo bs pl fr a) (fo bs pl (a_ fr a) b) (a_ (a_ fr a) b) o,eG bs pl x (AW (a_ (a_ fr a) b) o),my (a_ (a_ fr a) b) o)| _=>([],pl,fr)
def At(rs:List Row)(a:Nat)(new:List Row):Prop:=∀(j:Nat) (r:Row),new[j]?=some r->rs[a+j]?=some r
def At.left(h:At rs a (f++g)):At rs a f:=λj r e=>h j r (by rw[F9 (qD e)];exact e)
def At.right(h:At rs a (g++f)):At rs (a+g.length) f:=λj r e=>by rw[L7];exact h _ r (by rw[E6 (R6 _ _),Za];exact e)
def At.head(h:At rs a (r::t)):rs[a]?=some r:=h 0 r rfl
def At.tail(h:At rs a (r::t)):At rs (a+1) t:=λj x e=>by rw[L7,P5 1 j];exact h (j+1) x e
def eE(rs:List Row)(n s:Nat)(b:List Int)(f:Nat)(b':List Int):Prop:=∀m,rn true rs (n+m) s b=(n+(rn true rs m f b').1,(rn true rs m f b').2)
def eE.refl:eE rs 0 s b s b:=λm=>by rw[U6,U6]
def eE.trans(h1:eE rs g s b i l)(j:eE rs f i l h k):eE rs (g+f) s b h k:=λm=>by rw[L7,h1 (f+m),j m];show(g+(f+_),_)=_;rw[L7]
def eE.step(h:bQ rs b s=true)(e:cP rs b s=(f,b')):eE rs 1 s b f b':=λm=>by rw[P5 1 m,CA (fw:=true) h];show((rn true rs m (cP rs b s).1 (cP rs b s).2).1+1,(rn true rs m (cP rs b s).1 (cP rs b s).2).2)=_;rw[e,P5]
def eE.cast(h:eE rs n s b f b')(e:n=g)(i:f=t):eE rs g s b t b':=by subst e i;exact h
theorem eE.plain(e:rs[s]?=some r)(i:r.plain=true):eE rs 1 s b (s+1) (df 1 b r):=by
 have f:=qD e;have g:rs[s]=r:=by rw[B6 f] at e;exact D8 e
 have h:=SO (bs:=b) f (by rw[g];exact i);rw[g] at h;exact eE.step h.1 h.2
theorem eE.lA:∀{t:List Row} {s:Nat} {b:List Int},At rs s t->(∀r∈t,r.plain=true)->eE rs t.length s b (s+t.length) (pR t b)
 | [],s,b,_,_=>eE.refl| r::t,s,b,h,f=>by have g:=eE.lA (t:=t) (s:=s+1) (b:=df 1 b r) h.tail λx i=>f x (C2 _ i);exact((eE.plain h.head (f r C6)).trans g).cast (by rw[C1];omega) (by rw[C1];omega)
def eE.goT(e:rs[s]?=some (.go x n k))(h:gt b x=n):eE rs 1 s b (k+1) b:=eE.step (by unfold bQ;rw[e]) (by unfold cP;rw[e];exact if_pos h)
def eE.goF(e:rs[s]?=some (.go x n k))(h:gt b x≠n):eE rs 1 s b (s+1) b:=eE.step (by unfold bQ;rw[e]) (by unfold cP;rw[e];exact if_neg h)
theorem eE.aT(e:rs[s]?=some (.aT x n k))(h:gt b x≠n):eE rs 1 s b (s+1) b:=eE.step (by unfold bQ;rw[e];show(!decide (gt b x=n))=true;rw[decide_eq_false h];rfl) (by unfold cP;rw[e];rfl)
def vn6{a b:Nat}{r:Row}(h:r.ok a)(f:a<=b):r.ok b:=by
 cases r with
 | add x o=>exact#[C5 h.1 f,MV h.2 f]| take x o=>exact#[C5 h.1 f,MV h.2 f]| turn x i j=>exact#[C5 h.1 f,h.2.1,h.2.2.1,λc g=>#[C5 (h.2.2.2 c g).1 f,(h.2.2.2 c g).2]]| swap x y=>exact#[C5 h.1 f,C5 h.2.1 f,h.2.2]| go x n k=>exact#[C5 h.1 f,h.2]| aT x n k=>exact#[C5 h.1 f,h.2]
structure b_(a:Nat)(new:List Row):Prop where
 go:∀(j x:Nat) (n:Int) (k:Nat),new[j]?=some (Row.go x n k)->a<=k/\new[k-a]?=some (.aT x n (a+j))
 co:∀(j x:Nat) (n:Int) (k:Nat),new[j]?=some (Row.aT x n k)->a<=k/\new[k-a]?=some (.go x n (a+j))
theorem b_.plain(h:∀r∈new,r.plain=true):b_ a new:=by
 apply#[λj x n k e=>?_,λj x n k e=>?_]
 .have:=h _ (K9 e);cases this
 .have:=h _ (K9 e);cases this
def b_.pairs(h:b_ 0 new):Pairs new:=#[λj x n k e=>by have:=(h.go j x n k e).2;rw[DY,U6] at this;exact this,λj x n k e=>by have:=(h.co j x n k e).2;rw[DY,U6] at this;exact this]
def b_.app(h1:b_ a f)(g:b_ (a+f.length) h):b_ a (f++h):=by
 apply#[λj x n k e=>?_,λj x n k e=>?_]
 .rcases LH j f.length with q|q
  .rw[F9 q] at e;let#[u,v]:=h1.go j x n k e;exact#[u,by rw[F9 (qD v)];exact v]
  .rw[E6 q] at e;let#[u,v]:=g.go _ x n k e;apply#[(),?_];rw[E6 (),show k-a-f.length=k-(a+f.length) by omega,v];congr 2;omega
 .rcases LH j f.length with q|q
  .rw[F9 q] at e;let#[u,v]:=h1.co j x n k e;exact#[u,by rw[F9 (qD v)];exact v]
  .rw[E6 q] at e;let#[u,v]:=g.co _ x n k e;apply#[(),?_];rw[E6 (),show k-a-f.length=k-(a+f.length) by omega,v];congr 2;omega
def b_.fence(h:∀r∈t,r.plain=true):b_ a (.go x n (a+t.length+1)::(t++[.aT x n a])):=by
 have key:∀(j:Nat) (r:Row),(Row.go x n (a+t.length+1)::(t++[.aT x n a]))[j]?=some r->(j=0/\r=.go x n (a+t.length+1))\/(j=t.length+1/\r=.aT x n a)\/r.plain=true:=by
  intro j r e;cases j with
  | zero=>exact .inl #[rfl,(D8 e).symm]| succ j =>
   rw[U0] at e;rcases LH j t.length with q|q
   .rw[F9 q] at e;exact .inr (.inr (h r (K9 e)))
   .rw[E6 q] at e;have i:j-t.length<1:=by simpa using qD e
    rw[show j-t.length=0 by omega] at e;exact .inr (.inl ⟨(),(D8 e).symm⟩)
 apply⟨λj f g k e=>?_,λj f g k e=>?_⟩
 .rcases key j _ e with⟨rfl,q⟩|⟨rfl,q⟩|q
  .cases q;apply⟨(),?_⟩;rw[show a+t.length+1-a=t.length+1 by omega,U0,E6 (B9 _),Ea];rfl
  .cases q
  .cases q
 .rcases key j _ e with⟨rfl,q⟩|⟨rfl,q⟩|q
  .cases q
  .cases q;apply⟨B9 _,?_⟩;rw[Ea];show some (Row.go x n (a+t.length+1))=some (Row.go x n (a+(t.length+1)));rw[L7]
  .cases q
structure Wk(a fr cZ:Nat)(new:List Row)(st:Nat)(P:List Int->Prop)(F:List Int->List Int->Prop):Prop where
 le:fr<=cZ
 ok:∀r∈new,r.ok cZ
 pr:b_ a new
 run:∀sz rs bs,At rs a new->dA sz bs->cZ<=sz->(∀i,fr<=i->gt bs i=0)->P bs->∃zB,dA sz zB/\(∀i,i<fr\/cZ<=i->gt zB i=gt bs i)/\F bs zB/\eE rs st a bs (a+new.length) zB
def Wk.of(h:Wv fr n new F):Wk a fr n new new.length P F:=by have i:∀r∈new,r.plain=true:=λr f=>MW (h.tg r f);apply#[h.le,λr f=>Mg (h.tg r f) (B9 _),b_.plain i,λsz o bs l j g m _=>?_];have k:=h.keep j g;exact#[pR new bs,k.1,k.2,h.ef sz bs j g m,eE.lA l i]
def Wk.imp{a fr j st:Nat}{new:List Row}{P f:List Int->Prop}{F k:List Int->List Int->Prop}(h:Wk a fr j new st P F)(r:∀b,f b->P b)(t:∀b b',f b->(∀i,i<fr->gt b' i=gt b i)->F b b'->k b b'):Wk a fr j new st f k:=#[h.le,h.ok,h.pr,λsz l bs x u q y p=>by let#[b',o,g,n,m]:=h.run sz l bs x u q y (r _ p);exact#[b',o,g,t _ _ p (λi hi=>g i (.inl hi)) n,m]]
def Wk.seq(h1:Wk a fr t m x P q)(g:Wk (a+m.length) t M G u P2 N)(I:∀b f,P b->q b f->(∀i,i<fr->gt f i=gt b i)->P2 f): Wk a fr M (m++G) (x+u) P (λb b'=>∃f,q b f/\N f b'/\(∀i,i<fr->gt f i=gt b i)/\∀i,i<t->gt b' i=gt f i):=by
 apply#[D3 h1.le g.le,λr hr=>?_,h1.pr.app g.pr,λsz j bs n J H o p=>?_]
 .rcases E9.mp hr with hr|hr
  .exact vn6 (h1.ok r hr) g.le
  .exact g.ok r hr
 .have Q:=h1.le;have O:=g.le;let#[f,E,h,l,C]:=h1.run sz j bs n.left J () o p;let#[L,B,k,A,y]:=g.run sz j f n.right E H (λi hi=>by rw[h i (.inr hi)];exact o i ()) (I _ _ p l λi hi=>h i (.inl hi));apply#[L,B,λi hi=>?_,#[f,l,A,λi hi=>h i (.inl hi),λi hi=>k i (.inl hi)],(C.trans y).cast rfl (by rw[B4];omega)];rw[k i (),h i ()]
def sH(a ch:Nat)(ys ns:List Row):List Row:=(.go ch 0 (a+ys.length+1)::(ys++[.aT ch 0 a]))++(.go ch 1 (a+(ys.length+2)+ns.length+1)::(ns++[.aT ch 1 (a+(ys.length+2))]))
def Wk.choice(f:Wv fr m ys O)(j:Wv fr m ns Q)(X:ys.length=ns.length)(x:ch<fr): Wk a fr m (sH a ch ys ns) (ys.length+3) (λb=>gt b ch=0\/gt b ch=1) (λb b'=>(gt b ch=1->O b b')/\(gt b ch=0->Q b b')):=by
 have G:∀r∈ys,r.plain=true:=λr hr=>MW (f.tg r hr);have H:∀r∈ns,r.plain=true:=λr hr=>MW (j.tg r hr);have le:=f.le;have u:(Row.go ch 0 (a+ys.length+1)::(ys++[.aT ch 0 a])).length=ys.length+2:=by rw[C1,B4];rfl
 have h:∀(n:Int) (k:Nat) (t:List Row) (I:Nat) (F:List Int->List Int->Prop),0<=n->n<4294967296->Wv fr m t F->∀r∈(Row.go ch n k::(t++[.aT ch n I])),r.ok m:=by
  intro n k t I F M L hw r hr;rcases D4.mp hr with e|hr
  .rw[e];exact⟨(),M,L⟩
  rcases E9.mp hr with hr|hr
  .exact Mg (hw.tg r hr) (B9 _)
  .rw[F4.mp hr];exact⟨(),M,L⟩
 apply⟨le,λr hr=>?_,?_,λsz U bs J l i N p=>?_⟩
 .rcases E9.mp hr with hr|hr
  .exact h 0 _ ys _ O ∅ ∅ f r hr
  .exact h 1 _ ns _ Q ∅ ∅ j r hr
 .apply b_.app (b_.fence G) ?_;rw[u];exact b_.fence H
 .have E:=At.left J;have o:=At.right J;rw[u] at o;have g1:=E.head;have S:=(At.left E.tail);have c1:=(At.right E.tail).head;have g2:=o.head;have R:=(At.left o.tail);have c2:=(At.right o.tail).head;have g:(sH a ch ys ns).length=ys.length+2+(ns.length+2):=by unfold sH;rw[B4,u,C1,B4];rfl
  rw[g];rcases p with p|p
  .have k:=j.keep l i;apply⟨pR ns bs,k.1,k.2,⟨λq=>(by rw[p] at q;cases q),λ_=>j.ef sz bs l i N⟩,?_⟩;have C:=eE.goT (b:=bs) g1 p;have B:=(eE.goF (b:=bs) g2 (by rw[p];decide));have A:=eE.lA (b:=bs) R H;have y:=eE.aT (b:=pR ns bs) c2 (by rw[k.2 ch (.inl x),p];decide);exact(((C.cast rfl (show a+ys.length+1+1=a+(ys.length+2) by omega)).trans B).trans A |>.trans y).cast () ()
  .have k:=f.keep l i;apply⟨pR ys bs,k.1,k.2,⟨λ_=>f.ef sz bs l i N,λq=>(by rw[p] at q;cases q)⟩,?_⟩;have C:=eE.goF (b:=bs) g1 (by rw[p];decide);have B:=eE.lA (b:=bs) S G;have A:=eE.aT (b:=pR ys bs) c1 (by rw[k.2 ch (.inl x),p];decide);have y:=eE.goT (b:=pR ys bs) g2 (by rw[k.2 ch (.inl x),p]);exact((C.trans B).trans A |>.cast rfl (show a+1+ys.length+1=a+(ys.length+2) by omega) |>.trans y).cast () ()
def iX(fr:Nat):List Nat->List Row
 | []=>[]| p::f=>.add fr (.box p)::iX (fr+1) f
theorem xv:∀{ps:List Nat} {fr:Nat},(iX fr ps).length=ps.length
 | [],_=>rfl| p::ps,fr=>by show(iX (fr+1) ps).length+1=_;rw[xv];rfl
def gs(fr:Nat):List Nat->List Nat->List Nat
 | p::g,q::f=>if p=q then p::gs fr g f else fr::gs (fr+1) g f| _,_=>[]
def uY:List Nat->List Nat->List Nat
 | p::g,q::f=>if p=q then uY g f else p::uY g f| _,_=>[]
def uN:List Nat->List Nat->List Nat
 | p::g,q::f=>if p=q then uN g f else q::uN g f| _,_=>[]
theorem CC:∀{ps qs:List Nat},(uY ps qs).length=(uN ps qs).length
 | [],_=>by cases ‹List Nat› <;> rfl
 | _::_,[]=>rfl| p::ps,q::qs=>by
  unfold uY uN;split
  .exact CC
  .rw[C1,C1,CC]
theorem SV:∀{ps qs:List Nat} {x:Nat},x∈uY ps qs->x∈ps
 | [],qs,x,h=>by cases qs <;> exact h
 | _::_,[],x,h=>by cases h
 | p::ps,q::qs,x,h=>by
  unfold uY at h;split at h
  .exact C2 _ (SV h)
  .rcases D4.mp h with e|h
   .rw[e];exact C6
   .exact C2 _ (SV h)
theorem SU:∀{ps qs:List Nat} {x:Nat},x∈uN ps qs->x∈qs
 | [],qs,x,h=>by cases qs <;> cases h
 | _::_,[],x,h=>by cases h
 | p::ps,q::qs,x,h=>by
  unfold uN at h;split at h
  .exact C2 _ (SU h)
  .rcases D4.mp h with e|h
   .rw[e];exact C6
   .exact C2 _ (SU h)
theorem EL:∀{ps qs:List Nat} {fr:Nat},ps.length=qs.length->(gs fr ps qs).length=ps.length
 | [],qs,fr,h=>by cases qs <;> rfl
 | p::ps,[],fr,h=>by cases h
 | p::ps,q::qs,fr,h=>by
  have h:ps.length=qs.length:=O4 h;unfold gs;split
  .rw[C1,EL h,C1]
  .rw[C1,EL h,C1]
theorem SG:∀{ps qs:List Nat} {fr f0:Nat},f0<=fr->(∀p∈ps,p<f0)->∀x∈gs fr ps qs,x<fr+(uY ps qs).length
 | [],qs,fr,f0,_,_,x,hx=>by cases qs <;> cases hx
 | p::ps,[],fr,f0,_,_,x,hx=>by cases hx
 | p::ps,q::qs,fr,f0,i,h,x,hx=>by
  have j:=h p C6;have f:=λy g=>h y (C2 _ g);unfold gs at hx;unfold uY;split at hx
  .rename_i e;rw[if_pos e];rcases D4.mp hx with z|hx
   .omega
   .exact SG i f x hx
  .rename_i e;rw[if_neg e,C1];rcases D4.mp hx with z|hx
   .omega
   .have:=SG (fr:=fr+1) (f0:=f0) () f x hx;omega
mutual
def cB(W:Nat)(bs:List Str):av->Nat->List Nat->Nat->List Row×List Nat×Nat×Nat
 | .is x c,_,g,h=>((wg W bs g h (.is x c)).1,(wg W bs g h (.is x c)).2.1,(wg W bs g h (.is x c)).2.2,(wg W bs g h (.is x c)).1.length)| .op x o c d,_,g,h=>((wg W bs g h (.op x o c d)).1,(wg W bs g h (.op x o c d)).2.1,(wg W bs g h (.op x o c d)).2.2,(wg W bs g h (.op x o c d)).1.length)| .fz c i j,a,g,h =>
  let y:=bp W bs i a g h;let n:=bp W bs j (a+y.1.length) g y.2.2.1;let f:=a_ n.2.2.1 c;let pre:=y.1++n.1++di n.2.2.1 c++[.take f (.box (fo bs g n.2.2.1 c)),.turn (f+1) 0 [(f,31)]]
  (pre++sH (a+pre.length) (f+1) (iX (f+2) (uY y.2.1 n.2.1)) (iX (f+2) (uN y.2.1 n.2.1)),gs (f+2) y.2.1 n.2.1,f+2+(uY y.2.1 n.2.1).length,y.2.2.2+n.2.2.2+(di n.2.2.1 c).length+2+((uY y.2.1 n.2.1).length+3))
 | .j8 _ _,_,g,h=>([],g,h,0)
def bp(W:Nat)(bs:List Str):List av->Nat->List Nat->Nat->List Row×List Nat×Nat×Nat
 | [],_,f,g=>([],f,g,0)| r::h,a,f,g =>
  let x:=cB W bs r a f g;let t:=bp W bs h (a+x.1.length) x.2.1 x.2.2.1
  (x.1++t.1,t.2.1,t.2.2.1,x.2.2.2+t.2.2.2)
end
theorem AK:∀{ps qs:List Nat},(uY ps qs).length<=ps.length
 | [],qs=>by cases qs <;> exact B9 _
 | _::_,[]=>J8 _| p::ps,q::qs=>by
  have:=AK (ps:=ps) (qs:=qs);unfold uY;split
  .rw[C1];omega
  .rw[C1,C1];omega
def wn7:(sH a ch ys ns).length=ys.length+ns.length+4:=by unfold sH;rw[B4,C1,C1,B4,B4];show ys.length+1+1+(ns.length+1+1)=_;omega
def DI(bs:List Str)(fr sz:Nat)(x:List Row×List Nat×Nat×Nat):Prop:=x.1.length<=22*sz/\x.2.2.1<=fr+9*sz/\fr<=x.2.2.1/\x.2.1.length=bs.length/\x.2.2.2<=22*sz
mutual
theorem v77{bs:List Str}(A:W<=16)(J:bs.length<=6):∀(r:av) {a:Nat} {pl:List Nat} {fr:Nat},sX W bs r->wz r->pl.length=bs.length->DI bs fr (pe r) (cB W bs r a pl fr)
 | .is x c,a,pl,fr,q,_,p=>by have E:=o9 (fr:=fr) c;exact#[by show(di fr c).length<=22*1;omega,by show a_ fr c<=fr+9*1;omega,E.1,by show(eG bs pl x _).length=_;unfold eG;rw[J9];exact p,by show(di fr c).length<=22*1;omega]| .op x o c d,a,pl,fr,q,_,p=>by
  obtain⟨hx,Q,_,_⟩:x∈bs/\o∈L3.signs/\jN W bs c/\jN W bs d:=q;have E:=o9 (fr:=fr) c;have lc:=o9 (fr:=a_ fr c) d;have sl:=vw6 (fr:=a_ (a_ fr c) d) (o:=o);have lg:=wu0 (W:=W) (x:=fo bs pl fr c) (y:=fo bs pl (a_ fr c) d) (fr:=a_ (a_ fr c) d) A Q;have H:(di fr c++di (a_ fr c) d++gq W (fo bs pl fr c) (fo bs pl (a_ fr c) d) (a_ (a_ fr c) d) o).length<=22*1:=by rw[B4,B4];omega
  exact#[H,by show my _ o<=fr+9*1;omega,by show fr<=my _ o;omega,by show(eG bs pl x _).length=_;unfold eG;rw[J9];exact p,H]
 | .fz c f g,a,pl,fr,q,u,p=>by
  obtain⟨_,X,U⟩:jN W bs c/\d5 W bs f/\d5 W bs g:=q;obtain⟨S,R⟩:fO f/\fO g:=u;have I:=sV A J f (a:=a) (fr:=fr) X S p;show DI bs fr (1+bZ f+bZ g) ((bp W bs f a pl fr).1++(bp W bs g (a+(bp W bs f a pl fr).1.length) pl (bp W bs f a pl fr).2.2.1).1++_++_++_,_,_,_);generalize bp W bs f a pl fr=y at I⊢;let#[l,h,m,C]:=y;obtain⟨y1,y2,Z,L,Y⟩:l.length<=22*bZ f/\m<=fr+9*bZ f/\fr<=m/\h.length=bs.length/\C<=22*bZ f:=I;have G:=sV A J g (a:=a+l.length) (fr:=m) U R p;show DI bs fr (1+bZ f+bZ g) (l++(bp W bs g (a+l.length) pl m).1++_++_++_,_,_,_);generalize bp W bs g (a+l.length) pl m=n at G⊢;let#[t,i,j,B]:=n;obtain⟨n1,n2,n3,n4,n5⟩:t.length<=22*bZ g/\j<=m+9*bZ g/\m<=j/\i.length=bs.length/\B<=22*bZ g:=G;have hp:=o9 (fr:=j) c;have hu:=AK (ps:=h) (qs:=i);have O:=CC (ps:=h) (qs:=i);apply#[?_,?_,?_,?_,?_]
  .show(l++t++di j c++[_,_]++sH _ _ (iX _ (uY h i)) (iX _ (uN h i))).length<=_;rw[B4,B4,B4,B4,wn7,xv,xv];show l.length+t.length+(di j c).length+2+_<=_;omega
  .show a_ j c+2+(uY h i).length<=_;omega
  .show fr<=a_ j c+2+(uY h i).length;omega
  .show(gs _ h i).length=_;rw[EL ()];exact L
  .show C+B+(di j c).length+2+((uY h i).length+3)<=_;omega
 | .j8 k f,a,pl,fr,_,u,_=>u.elim
theorem sV{bs:List Str}(q:W<=16)(p:bs.length<=6):∀(rs:List av) {a:Nat} {pl:List Nat} {fr:Nat},d5 W bs rs->fO rs->pl.length=bs.length->DI bs fr (bZ rs) (bp W bs rs a pl fr)
 | [],a,pl,fr,_,_,k=>#[J8 _,R6 _ _,B9 _,k,J8 _]| r::rs,a,pl,fr,G,H,k=>by obtain⟨j,I⟩:sX W bs r/\d5 W bs rs:=G;obtain⟨x,E⟩:wz r/\fO rs:=H;have u:=v77 q p r (a:=a) (fr:=fr) j x k;show DI bs fr (pe r+bZ rs) ((cB W bs r a pl fr).1++_,_,_,_);generalize cB W bs r a pl fr=y at u⊢;let#[g,i,f,m]:=y;obtain⟨N,M,L,A,J⟩:g.length<=22*pe r/\f<=fr+9*pe r/\fr<=f/\i.length=bs.length/\m<=22*pe r:=u;have t:=sV q p rs (a:=a+g.length) (fr:=f) I E A;show DI bs fr (pe r+bZ rs) (g++(bp W bs rs (a+g.length) i f).1,_,_,_);generalize bp W bs rs (a+g.length) i f=n at t⊢;let#[o,B,h,l]:=n;obtain⟨S,R,Q,C,O⟩:o.length<=22*bZ rs/\h<=f+9*bZ rs/\f<=h/\B.length=bs.length/\l<=22*bZ rs:=t;exact#[by show(g++o).length<=_;rw[B4];omega,by show h<=_;omega,by show fr<=h;omega,C,by show m+l<=_;omega]
end
end Rw
namespace L2
open PySem PySem.Spec PyProof.Rows
section
variable{X:Cx}{tg:Expr}
def ut7:bG X (.type "dict") (λxs H Q=>∃a kvs,xs=[.ref a]/\H a=some (.dK kvs)/\∀p,H p=none->Q (.ref p) (upd H p (.dK kvs))):=by intro pins s k H xs l Q I r h;let#[a,kvs,rfl,i,q]:=h;let#[u,rfl,f]:=vals1 r;cases f;exact vt9 I (.of i) λp m g j=>#[.ref p,_,j,rfl,q p g]
def ZV(k ty:TE):TE:=λi H Q=>k i H λx j=>∃a,x=.ref a/\Oi j a/\ty i j λy h=>∃b g f,y=.ref b/\a≠b/\h a=some (.dK g)/\h b=some (.dK f)/\g.length+f.length<=sizeLine/\Q .non (upd h a (.dK (CM g f)))
def wg6(ho:PE X o J)(i:PE X e ty)(m:M1 X o "update" f e aN):PE X (.Call (.Attribute o "update" f) [e] [] aN) (ZV J ty):=by
 intro pins s l H Q I h
 (apply YG m.base m.few m.line X3 B01 PySem.F.type_dict_update (aZ (ho pins s l H _ I h) ?_);rintro u R ⟨x,H1,A,U,a,ex,d,Z⟩)
 subst ex;obtain rfl:u=E7 a:=U;let#[M,L,_]:=Mq A d;apply#[M,L,?_];rw[m.trees]
 (apply U5 rfl (Z1 (P8 (aZ (i pins R l H1 _ A Z) ?_)));rintro iv O ⟨y,H2,k,S,b,k1,k2,ey,G,p,hb,n,Y⟩;apply T7 ?_)
 subst ey;obtain rfl:iv=E7 b:=S;let#[z1,WA,Sm,C,t]:=El k.aE p;let#[z2,j,g,B,E]:=El k.aE hb;apply LG B01 t.typeIs PySem.F.entry_dict_update (PySem.F.args_dict_update_2 _ _) (meets_dict_update (d_ X.prog X.w) a b G j) #[Sm,g,t,E,by rw[<- C.length,<- B.length];exact n,λh' r d2 N=>?_];have i:∃q,h'.get? a=some q:=let ⟨q,_,_,hq,_⟩:=r;#[q,hq];have hl:=ud1 k2 k1;exact#[.non,_,CO (t':=O.toks) k (by rw[p];exact P7) N i (Mn (D3 hl n) WA (B.merge C) r),rfl,Y]
def XA(a:Addr)(o:Obj)(kvs:List (Key×V)):It:=#[λi H=>(∃f,H a=some (.dj o (.dK f))/\f.map (·.1)=kvs.map (·.1))/\i<kvs.length,λi H v g=>g=H/\∃p,kvs[i]?=some p/\v=kV p.1,λi H=>(∃f,H a=some (.dj o (.dK f))/\f.map (·.1)=kvs.map (·.1))/\kvs.length<=i]
def ZL(h:(d_ P w).is k u=true):RelV (kV k) u:=by
 rcases wu h with⟨i,t,rfl,rfl⟩|⟨x,t,rfl,rfl⟩
 .exact⟨t,rfl⟩
 .exact⟨t,rfl⟩
def w22(ok:gm P w H h)(e:H a=some (.dj o (.dK kvs)))(k:o.data=.dict r ep):(a==Q4)=false/\∃vs,KV kvs vs/\h.DictAt (d_ P w) a vs ep:=by let#[j,z,l,vs,f,u,t,x,i,q,g,p,m,n]:=(show bg P w H h a (.dj o (.dK kvs)) from ok a _ e);rw[j] at i;cases i;rw[k] at g;cases g;exact#[l,vs,f,o,r,j,q,k,p,m,n]
def v85{P:Program}{w:World}{K:W.Frag}(it a:Addr)(o:Obj)(kvs:List (Key×V)){es:Array C69}{ep:Nat}(S:o.data=.dict es ep):Turn P w K tg (XA a o kvs) [it] it (λi h=>h.IsKeyIter it a i kvs.length ep) where
 mem:=by simp
 obj:=λi h st b j=>by
  have e:b=it:=by simpa using j
  subst e;let#[o,e,c,d]:=st;exact#[o,e,λv z=>by rw[d] at z;cases z]
 keep:=λi h t st k=>let ⟨o,e,r⟩:=st;#[o,k it (by simp) o e,r]
 item:=by
  intro X B hw C U i pins s O H E I n st A;subst B hw C;let#[M,f1,f2,L,J,G]:=n it (by simp);obtain⟨⟨g,N,u⟩,Z⟩:(∃g,H a=some (.dj o (.dK g))/\g.map (·.1)=kvs.map (·.1))/\i<kvs.length:=A;let#[_,m,f,l]:=w22 I.aE N S;have x:kvs.length=m.length:=by have:=congrArg J1 u;rw[B0,B0] at this;rw[<- f.length,this]
  have hk:=u.symm.trans f.keys;obtain⟨p,R⟩:∃p,m[i]?=some p:=#[_,B6 ()];have BL:kvs[i]?.map (·.1)=some p.1:=by rw[<- F8,hk,F8,R];rfl
  let#[q,hq,qQ]:=E8.mp BL;rw[x] at st;apply wpAny_pyNext_dict_item (k:=p.1) (v:=p.2) st l R λkey t y Q sb=>?_;have I1:Inv X pins O H { s with heap:=t}:=I.turned (t':=s.toks) (λb o j e=>(sb.2 b j).trans e) M f1 L J G;let#[o2,e,cc,d]:=id Q;exact#[_,rfl,Eo (s:={ s with heap:=t}) e cc d ∅ #[kV p.1,H,I1,ZL y,#[rfl,q,hq,by rw[qQ]],by rw[x];exact Q,λb j=>(n b j).1]]
 done:=by
  intro X B hw C U i pins s O H E I n st A;subst B hw C;let#[M,f1,f2,L,J,G]:=n it (by simp);obtain⟨⟨g,N,u⟩,Z⟩:(∃g,H a=some (.dj o (.dK g))/\g.map (·.1)=kvs.map (·.1))/\kvs.length<=i:=A;let#[_,m,f,l]:=w22 I.aE N S;have x:kvs.length=m.length:=by have:=congrArg J1 u;rw[B0,B0] at this;rw[<- f.length,this]
  rw[x] at st;exact wpAny_pyNext_dict_end (I.ok.hd U) st l (O8 ()) λt eb=>#[rfl,I.turned (t':=s.toks) (λb o j e=>eb b o j e) M f1 L J G]
 self:=λ_ _ _ _ _ st h=>wpAny_pyIter_keyiter st h
def x94(h:TE):TI:=λg H R=>h g H λv f=>∃a kvs,v=.ref a/\f a=some (.dK kvs)/\∀o,R (XA a o kvs) (upd f a (.dj o (.dK kvs)))
def vo7(L:PE X l B):PI X tg l (x94 B):=by
 intro pins s k H R I h
 (apply aZ (L pins s k H _ I h) ?_;rintro v f ⟨y,A,x,C,E⟩)
 let#[a,kvs,rfl,r,q]:=E;obtain rfl:v=E7 a:=C;let#[z,p,m,g,dd]:=El x.aE r;let#[o,S,u,i,N,t,M,G,J]:=id dd;have j:Inv X pins k (upd A a (.dj o (.dK kvs))) { f with heap:=f.heap,toks:=f.toks}:=CO x (by rw[r];exact P7) (D18 _ _) #[o,i] #[i,z,p,m,g,dd];have Q:∀b∈[f.heap.objs.size],iB X pins (upd A a (.dj o (.dK kvs))) b:=λb O=>by
  have e:b=f.heap.objs.size:=by simpa using O
  subst e;exact j.qh (B9 _) (j.aE.fresh (B9 _))
 apply wpAny_pyIter_dict p (kvs:=m) (ep:=u) #[o,S,i,N,t,M,G,J] ?_;apply#[f.heap.objs.size,[f.heap.objs.size],_,_,_,rfl,j.kept (t':=f.toks) λb o e=>B8 _ e,v85 (f.heap.objs.size) a o kvs t,?_,Q,q o];rw[g.length];exact#[_,E1 _ rfl,rfl,rfl]
end
end L2
namespace L3
open PySem PySem.Spec PyProof.Rows L2
section
variable{X:Cx}{K:W.Frag}{G:Gp}{H:Hp}{tg e:Expr}{te:bu}
@[reducible] def w44:C3:=λf G q=>∃a kvs,f=[.ref a]/\G a=some (.bI kvs)/\∀p,G p=none->q (.ref p) (aG G p (.bI kvs))
def Uh:Call3 X (.type "dict") w44:=pb ut7 <| by rintro xs H Q ⟨l,G,q,r,c,⟨a,kvs,rfl,k,t⟩,f⟩;let#[v,rfl,i]:=r.one;cases i.aj;let#[h,e,j]:=c a _ k;exact#[a,h,rfl,e,λp g=>f (.ref p) _ (.ref p) _ ae.eW (c.put (o:=.bI kvs) (Le.fresh g) #[_,hJ,j.le (Le.fresh g)]) (Le.fresh g) (t p (c.fresh g))]
def CL(kvs more:List (Key×D)):List (Key×D):=more.foldl (λf g=>mh f g.1 g.2) kvs
theorem us7:∀{more:List (Key×D)} {ms:List (Key×V)} {kvs:List (Key×D)} {ys:List (Key×V)},aB K H more ms->aB K H kvs ys->aB K H (CL kvs more) (CM ys ms)
 | [],ms,kvs,ys,h,k=>by
  have:ms=[]:=by have:=congrArg J1 h.1;simpa using this.symm
  subst this;exact k
 | p::more,[],kvs,ys,h,k=>by have:=congrArg J1 h.1;simp at this| p::more,m::ms,kvs,ys,h,k=>by
  let#[g,f]:=h;rw[C0,C0] at g f;let#[v,t,e,j,i]:=f.au;injection e with r q;injection g with o n;have l:aB K H (mh kvs p.1 p.2) (putK ys m.1 m.2):=by rw[<- o];exact TX (by rw[r];exact j) k
  exact us7 (more:=more) (ms:=ms) #[n,by rw[q];exact i] l
def B_(k ty:bu):bu:=λi G q=>k i G λx j=>(∃a kvs,x=.ref a/\j a=some (.bI kvs))/\ty i j λy h=>∃a b g f,x=.ref a/\y=.ref b/\a≠b/\h a=some (.bI g)/\h b=some (.bI f)/\g.length+f.length<=sizeLine/\q .non (aG h a (.bI (CL g f)))
def va5{κ:Type}{kvs:List (κ×D)}{ys:List (κ×V)}(rp:aB K H kvs ys):ys.length=kvs.length:=by have:=congrArg J1 rp.1;rw[B0,B0] at this;exact this.symm
def wi6{p ty:bu}{l:L2.St}{Q:VK}(h:aH K (B_ p ty) l H Q):ZV (aH K p) (aH K ty) l H Q:=by let#[g,G,q,r,c,t,f]:=h;apply#[g,G,_,r,c,t,λx G1 v H1 O c1 C j=>?_];let#[#[a,kvs,rfl,Z],j]:=j;let#[I,e,rp]:=c1 a _ Z;apply#[a,O.aj,.inl #[I,.of e],g,G1,_,r.le C,c1,j,λy G2 u E N c2 R M=>?_];let#[a',b,U,S,i,rfl,J,h1,h2,Y,L]:=M;cases i;cases N.aj;let#[n,i,B]:=c2 a _ h1;let#[m,e2,A]:=c2 b _ h2;have k:Le E (upd E a (.dK (CM n m))):=Le.dK i;exact#[b,n,m,rfl,J,i,e2,by rw[va5 B,va5 A];exact Y,f _ _ _ _ ae.xW (c2.put (o:=.bI (CL U S)) k #[_,hJ,(us7 A B).le k]) (C.trans (R.trans k)) L]
def xj2{f g:Pos}(i:E3 X o to)(j:E3 X e te)(k:N3 o "update" X.env (eval o X.env)=eval o X.env:=by rfl)
  (h:((backTo g (D0 [e] X.env)).all (λx=>!x.1)&&(W4 g (O7 [] X.env)).all (λx=>x.1.isSome)
   && decide (([e]:List Expr).length+([]:List Keyword).length+(if([]:List Keyword).isEmpty then 0 else 1)<30))=true:=by rfl)
  (l:(f.endLine==g.line)=true:=by rfl) (m:D0 [e] X.env=[(false,eval e X.env)]:=by rfl):E3 X (.Call (.Attribute o "update" f) [e] [] g) (B_ to te):=
 dH (wg6 i j #[k,h,l,by rw[m];rfl]) λ_ _ _=>wi6
theorem Le.dj(h:H a=some (.dK ys)):Le H (upd H a (.dj o (.dK ys))):=
 #[λb f q=>by
  by_cases e:b=a
  .subst e;rw[h] at q;cases q
  .rw[cU e];exact q,λb o u q=>by
  by_cases e:b=a
  .subst e;rw[h] at q;cases q
  .rw[cU e];exact q]
def v54{kvs:List (Key×D)}{ys:List (Key×V)}(g:kvs.map (·.1)=ys.map (·.1)):jy K u #[kvs.map λf=>kD f.1,λG=>G a=some (.qg o kvs)] (XA a o ys) where
 go:=λi G H l c n hi=>by let#[h,k,j]:=c a _ n;have hi:i<(kvs.map λf=>kD f.1).length:=hi;have m:=congrArg J1 g;rw[B0,B0] at m;rw[B0] at hi;exact#[#[h,k,j.1.symm.trans g],()]
 stop:=λi G H l c n hi=>by let#[h,k,j]:=c a _ n;have hi:(kvs.map λf=>kD f.1).length<=i:=hi;have m:=congrArg J1 g;rw[B0,B0] at m;rw[B0] at hi;exact#[#[h,k,j.1.symm.trans g],()]
 qx:=λi G H v A l c _ hi y=>by
  let#[rfl,p,r,rfl]:=y;apply#[c,Le.refl _,kD p.1,?_,?_]
  .show(kvs.map λf=>kD f.1)[i]?=_;have e:(kvs.map (·.1))[i]?=some p.1:=by rw[g,F8,r];rfl
   rw[F8] at e⊢;let#[w,hw,q]:=E8.mp e;rw[hw];show some (kD w.1)=_;rw[q]
  .cases p.1 with
   | inl i=>show ae K _ (.int i) (.int i);rw[ae]| inr x=>show ae K _ (.str x) (.str x);rw[ae]
def vv7(te:bu):tw:=λg G r=>te g G λd f=>∃a kvs,d=.ref a/\f a=some (.bI kvs)/\∀o,r #[kvs.map λh=>kD h.1,λG=>G a=some (.qg o kvs)] (aG f a (.qg o kvs))
def wk7(h:E3 X e te):I3 X tg e (vv7 te):=CF (vo7 h) λx H R r=>by let#[g,G,q,m,c,t,f]:=r;apply#[g,G,_,m,c,t,λd A v y n c1 p l=>?_];let#[a,kvs,rfl,u,k]:=l;let#[i,e,j]:=c1 a _ u;apply#[a,i,n.aj,e,λo=>f _ _ _ _ (v54 j.1) (c1.put (o:=.qg o kvs) (Le.dj e) #[i,hJ,j.le (Le.dj e)]) (p.trans (Le.dj e)) (k o)]
def L'(i h:bu):bu:=λf G q=>i f G λx j=>h f j λy g=>∃a o kvs k d,x=.ref a/\y=kD k/\g a=some (.qg o kvs)/\dn kvs k=some d/\q d g
def vr7(h:aH K (L' E C) p H Q):Sg (aH K E) (aH K C) p H Q:=by
 let#[g,G,q,j,c,t,f]:=h;apply#[g,G,_,j,c,t,λx S v H1 O c1 m L=>#[g,S,_,j.le m,c1,L,λy G2 u Z N c2 l J=>?_]];let#[a,o,kvs,k,d,rfl,rfl,R,n,I]:=J;have U:=ae.le l O;cases U.aj;obtain rfl:=AG N;let#[B,e,M]:=c2 a _ R;rcases E_ (k:=k) M with⟨z,_⟩|⟨Y,w,i,A,r⟩
 .rw[n] at z;cases z
 .rw[n] at i;cases i;exact⟨a,w,rfl,.inl ⟨B,k,.inr ⟨o,e⟩,rfl,A.symm⟩,f _ _ _ _ r c2 (m.trans l) I⟩
def vh8(h:aQ k X.A)(j:E3 X o to)(hi:E3 X i f)(g:sL i:=by exact λ_ _=>rfl):E3 X (.Subscript o i pos) (L' to f):=dH (vb5 (Mc h) j hi g) λ_ _ _=>vr7
end
end L3
namespace L3
open PySem PySem.Spec PyProof.Rows L2
section
variable{X:Cx}{K:W.Frag}{H:Hp}
def qH(c:bW K G H)(h:G a=some (.bI kvs)\/∃o,G a=some (.qg o kvs)):∃ys,Rd H a (.dK ys)/\aB K H kvs ys:=by
 rcases h with h|h
 .let#[ys,e,f]:=c a _ h;exact#[ys,.inl e,f]
 .let#[o,h]:=h;let#[ys,e,f]:=c a _ h;exact#[ys,.inr #[o,e],f]
end
end L3
namespace L3
open PySem PySem.Spec PyProof.Rows L2
def Ez(kvs:List (Key×D))(k:Key):List (Key×D):=kvs.filter λp=>!decide (p.1=k)
def Qj(j i:bu):bu:=λf G q=>j f G λx h=>(∃a kvs,x=.ref a/\h a=some (.bI kvs))/\i f h λy g=>∃a kvs k v,x=.ref a/\y=kD k/\g a=some (.bI kvs)/\dn kvs k=some v/\q v (aG g a (.bI (Ez kvs k)))
theorem v18{K:W.Frag}{H:Hp}{k:Key}:∀{kvs:List (Key×D)} {ys:List (Key×V)},aB K H kvs ys->aB K H (Ez kvs k) (yQ ys k)
 | [],[],f=>f| [],_::_,f=>by cases f.1
 | _::_,[],f=>by cases f.1
 | p::kvs,y::ys,⟨g,m⟩=>by
  rw[C0,C0,Y4] at g;let#[z,n,e,l,j]:=(show ag K H (p.2::kvs.map (·.2)) (y.2::ys.map (·.2)) from m).au;cases e;let#[i,h]:=v18 (k:=k) (kvs:=kvs) (ys:=ys) #[g.2,j];unfold Ez yQ at i h⊢;rw[Pe,Pe,<- g.1];by_cases e:p.1=k
  .rw[if_neg (by simp[e]),if_neg (by simp[e])];exact#[i,h]
  .simp only[e,decide_false,YO,if_true,ne_eq,not_false_eq_true,decide_true];exact#[by rw[C0,C0,g.1,i],.cons l h]
def vq8{K:W.Frag}{H:Hp}{r p:bu}{m:L2.St}{Q:VK}(h:aH K (Qj r p) m H Q):vw1 (aH K r) (aH K p) m H Q:=by
 let#[g,G,q,A,c,t,f]:=h;apply#[g,G,_,A,c,t,λx G1 v H1 X c1 B l=>?_];let#[#[a,kvs,rfl,ha],l]:=l;let#[N,e,rp]:=c1 a _ ha;apply#[a,X.aj,.inl #[N,.of e],g,G1,_,A.le B,c1,l,λy G2 u L U c2 Y S=>?_];let#[a',HR,k,v3,e1,rfl,Z,C,R]:=S;cases e1;obtain rfl:=AG U;let#[J,E,I]:=c2 a _ Z;rcases E_ (k:=k) I with⟨i,n⟩|⟨d',O,i,n,M⟩
 .rw[C] at i;cases i
 .rw[C] at i;cases i;have j:Le L (upd L a (.dK (yQ J k))):=Le.dK E;exact⟨J,k,O,E,rfl,n,f _ _ _ _ (M.le j) (c2.put (o:=.bI (Ez HR k)) j ⟨_,hJ,(v18 I).le j⟩) (B.trans (Y.trans j)) R⟩
def xa1{f g:Pos}(i:E3 X o to)(j:E3 X e te)(k:N3 o "pop" X.env (eval o X.env)=eval o X.env:=by rfl)
  (h:((backTo g (D0 [e] X.env)).all (λx=>!x.1)&&(W4 g (O7 [] X.env)).all (λx=>x.1.isSome)
   && decide (([e]:List Expr).length+([]:List Keyword).length+(if([]:List Keyword).isEmpty then 0 else 1)<30))=true:=by rfl)
  (l:(f.endLine==g.line)=true:=by rfl) (m:D0 [e] X.env=[(false,eval e X.env)]:=by rfl):E3 X (.Call (.Attribute o "pop" f) [e] [] g) (Qj to te):=
 dH (vp3 i j ⟨k,h,l,by rw[m];rfl⟩) λ_ _ _=>vq8
end L3
namespace L2
open PySem PySem.Spec PyProof.Rows
section
variable{X:Cx}
def Ci(v d:Addr):HO:=.ext λh=>h.IsValuesView v d
def vw0(h:TE):TE:=λg H Q=>h g H λx f=>∃(a:Addr) (kvs:List (Key×V)),x=.ref a/\Rd f a (.dK kvs)/\∀v,f v=none->Q (.ref v) (upd f v (Ci v a))
def vp2{f n:Pos}(C:PE X o t)(G:N3 o "values" X.env (eval o X.env)=eval o X.env:=by rfl)(J:(f.endLine==n.line)=true:=by rfl):
  PE X (.Call (.Attribute o "values" f) [] [] n) (vw0 t):=by
 intro pins s r H Q I h
 (apply wpAny_Call_method0_late G J (aZ (C pins s r H _ I h) ?_);rintro v g ⟨x,U,i,B,a,kvs,rfl,m,q⟩)
 obtain rfl:v=E7 a:=B;let#[A,y,_]:=Mq i (.inl #[kvs,m]);let#[N,L,M,Y,p]:=xj i.aE m;apply#["dict", "dict.values",X3,B02,PySem.F.type_dict_values,A,y,U5 rfl (PySem.evalArgs_none ?_)];apply LG B02 p.typeIs PySem.F.entry_dict_values (PySem.F.args_dict_values_1 _) (meets_dict_values (d_ X.prog X.w) a L) #[#[M,p],?_];have l:(g.heap.push { cls:=.type "dict_values",data:=.fields [.ref a].toArray}).get? g.heap.objs.size=some { cls:=.type "dict_values",data:=.fields [.ref a].toArray}:=E1 _ rfl;apply#[.ref g.heap.objs.size,_,i.laid (t':=g.toks) (o:=Ci g.heap.objs.size a) (λb u E=>B8 _ E) (B9 _) #[#[_,l,rfl,rfl],#[_,l],λS R ⟨o,e,c⟩ k=>#[o,k o e,c]],rfl,q _ (i.aE.fresh (B9 _))]
def KV.vals{κ:Type}{kvs:List (κ×V)}{vs:List (κ×Value)}(r:KV kvs vs):Vals (kvs.map (·.2)) (vs.map (·.2)):=by
 induction r with
 | nil=>exact .nil| cons h _ f=>exact .cons h.2 f
def v60(hh:X.A.handled=none):bG X (.type "list") (λxs H Q=>∃(v a:Addr) (kvs:List (Key×V)),xs=[.ref v]/\H v=some (Ci v a)/\Rd H a (.dK kvs)/\∀(l:Addr),H l=none->Q (.ref l) (upd H l (.lst (kvs.map (·.2))))):=by
 intro pins s σ H xs us Q I r h;let#[v,a,kvs,rfl,x,L,q]:=h;let#[u,rfl,t]:=vals1 r;cases t;let#[k,_,_]:=I.aE v _ x;let#[z,J,i,g,dd]:=xj I.aE L;let#[o,R,n,C,M,O,Y,B,E]:=id dd;have BJ:=g.length;apply W.kdl_call (W.kdl_values (kvs:=i) (ep:=n)) hh #[k,o,R,C,M,O,Y,B,E] () λh' p f S Z G m=>?_;have U:f.toList.length=i.length:=by rw[K3];exact m.1
 have hi:f.toList=i.map (·.2):=W.kdl_vals_eq _ U λj u e=>m.2 j u (by rw[<- V2];exact e);have y:Vals (kvs.map (·.2)) f.toList:=by rw[hi];exact g.vals
 apply#[.ref s.heap.objs.size,_,I.laid (t':=p) (λb u N=>Z b u N) (B9 _) (show bg X.prog X.w _ _ _ (.lst (kvs.map (·.2))) from #[by rw[B0];omega,f.toList,S,y,G]),rfl,q _ (I.aE.fresh (B9 _))]
end
end L2
namespace L3
open PySem PySem.Spec PyProof.Rows L2
section
variable{X:Cx}{K:W.Frag}{H:Hp}
def Qm(h:bu):bu:=λg G q=>h g G λx f=>∃(a:Addr) (kvs:List (Key×D)),x=.ref a/\(f a=some (.bI kvs)\/∃o,f a=some (.qg o kvs))/\∀p,f p=none->q (.ref p) (aG f p (.lst (kvs.map (·.2))))
def ws7(h:TE):TE:=λg H Q=>Sf (vw0 h) xF g H λxs f=>∃(v a:Addr) (kvs:List (Key×V)),xs=[.ref v]/\f v=some (Ci v a)/\Rd f a (.dK kvs)/\∀(l:Addr),f l=none->Q (.ref l) (upd f l (.lst (kvs.map (·.2))))
def vq5(h:aH K (Qm x) r H Q):ws7 (aH K x) r H Q:=by
 let#[g,G,q,B,c,t,f]:=h;apply#[g,G,_,B,c,t,λd M v m E c1 I A=>?_];let#[a,kvs,rfl,J,y]:=A;cases E.aj;let#[i,e,C]:=qH c1 J;apply#[a,i,rfl,e,λv j=>?_];have n:Le m (upd m v (Ci v a)):=Le.fresh j;have p:a≠v:=by rintro rfl;rcases e with e|⟨_,e⟩ <;> rw[j] at e <;> cases e
 have L:Rd (upd m v (Ci v a)) a (.dK i):=by
  rcases e with e|⟨o,e⟩
  .exact .inl (by rw[cU p];exact e)
  .exact .inr ⟨o,by rw[cU p];exact e⟩
 apply⟨v,a,i,rfl,hJ,L,λl k=>?_⟩;have c2:=c1.side (u:=Ci v a) j;exact f _ _ _ _ ae.eW (c2.cG k (C.le n).2) (I.trans (n.trans (Le.fresh k))) (y l (c2.fresh k))
def v57(i:aQ k X.A){f g p pos:Pos}(j:E3 X o to)(m:Gl X "list")(l:X.mg "list" = none)(n:N3 o "values" X.env (eval o X.env)=eval o X.env:=by rfl)(q:(f.endLine==g.line)=true:=by rfl)
  (h:D0 [.Call (.Attribute o "values" f) [] [] g] X.env=(false,eval (.Call (.Attribute o "values" f) [] [] g) X.env)::D0 [] X.env:=by rfl):
  E3 X (.Call (.Name "list" p) [.Call (.Attribute o "values" f) [] [] g] [] pos) (Qm to):=
 dH (us1 (v60 i.hd) m l ∅ (vb6 (vp2 j n q) w05 h)) λ_ _ _=>vq5
end
end L3
namespace L2
open PySem PySem.Spec PyProof.Rows
def vi2:Ly (.type "list") "keys" = pure none:=by rw[Yu,YT];kernel_rfl
def wm3{A:Around}{s:Shared}(h:s.heap.get? a=some o)(j:o.cls=.type "list")(m:o.data=.seq xs k)(i:o.dict=none)(t:A.handled=none) (q:∀h' tk,(∀b o,s.heap.get? b=some o->h'.get? b=some o)->Q none { s with heap:=h',toks:=tk}):wpAny (model prog w) A (Oo (.ref a) "keys") Q E s:=by
 let#[c,u,x,p]:=o;simp only at j m i;subst j m i;let#[r,g,d,tk,os]:=s;have l:∀n,(#[r,g,d,n,os]:Shared).TypeIs (.ref a) "list" := λ_=>#[_,h,rfl];have f1:=sub_AttributeError;have I:=F.slot_list_getattribute.lookup;have H:=F.slot_list_getattribute.bind (.ref a);have G:=am_list_getattr_none;unfold Oo getAttrBy? getAttrBy;repeat(any_goals (first|assumption|exact l _|((with_reducible show wpAny _ _ (call (Yq "list.__getattribute__") _ _) _ _ _);apply Cs F.slot_list_getattribute (l _) am_entry_list_getattribute (F.args_list_getattribute_2 _ _) (meets_getattribute_miss_list a xs k p "keys" _ vi2 ∅) ⟨h,t,λh' n e f=>?_⟩)|wp_step))
 let#[B,y,C]:=f.there;show wpAny _ _ (Ph _ _ _ _ _ _ _) _ _ _;unfold Ph;repeat(any_goals (first|assumption|wp_step))
 exact q _ _ f.keeps
def Pr2(h:Heap)(T:Addr)(x y:Value):Prop:=∃o n,h.get? T=some o/\o.cls=.type "tuple" /\ o.data=.seq [x,y].toArray n
def wm2 {prog: Program} {w: World} {A: Around} {s: Shared} {R: Result -> Shared -> Prop} {l it S: Addr} {us: Array Value} {h1: Heap} (hh: A.in1.handled = none) (hS: S ≠ it) (WR: S ≠ l) (hil: it ≠ l) {ks:List Key} {rv:List V} (hn:ks.length=rv.length) (hu:us.size=ks.length) (hz:ks.length<=1000) (hl:h1.IsList l us) (pr:∀(i:Nat) (k:Key) (v:V),ks[i]?=some k->rv[i]?=some v->∃(T:Addr) (x y:Value),us[i]?=some (E7 T)/\T≠S/\T≠it/\Pr2 h1 T x y/\RelV (kV k) x/\RelV v y) (q:∀(h':Heap) (tk:Nat) (vs:List (Key×Value)),(∀b o,b≠S->b≠it->h1.get? b=some o->h'.get? b=some o)->KV (putAll ks rv []) vs->h'.DictOf (d_ prog w) S vs->R (.ok (.ret .none)) { s with heap:=h',toks:=tk}): ∀(k i:Nat) (h:Heap) (tk:Nat) (ii:Int) (kvs:List (Key×V)) (vs:List (Key×Value)),ks.length-i=k->i<=ks.length->h.IsListIter it l i->KV kvs vs->h.DictOf (d_ prog w) S vs->kvs.length<=i->putAll (ks.drop i) (rv.drop i) kvs=putAll ks rv [] -> (∀b o,b≠S->b≠it->h1.get? b=some o->h.get? b=some o)->sO (model prog w) A (.builtin "dict.update.loop" { pos:=[.ref S,.ref it,rawInt ii,.none]}) R { s with heap:=h,toks:=tk}:=by
  have li:∀h:Heap,(∀b o,b≠S->b≠it->h1.get? b=some o->h.get? b=some o)->h.IsList l us:=λh kp=>by let#[o,e,r]:=hl;exact#[o,kp l o (D2 WR) (D2 hil) e,r]
  intro k;induction k with
  | zero =>
    intro i h tk ii kvs vs hk hi st rel dd NP he kp;have hi:i=ks.length:=()
    subst hi;have hx:us[ks.length]?=none:=by simp[hu]
    have sy:putAll ks rv []=kvs:=by rw[<- he,C07];rfl
    apply OX M_ ?_;rw[Z4 yZ];apply B5 (wpAny_pyNext_list_end (s:={ s with heap:=h,toks:=tk}) hh st (li h kp) hx λh' eb=>?_);apply B5 (C4 (C4 ?_));exact q h' tk vs (λb o b1 b2 e=>eb b o b2 (kp b o b1 b2 e)) (by rw[sy];exact rel) (dd.at λo e=>eb S o hS e)
  | succ k ih =>
    intro i h tk ii kvs vs hk hi st rel dd NP he kp;have cS:i<ks.length:=()
    obtain⟨kk,ek⟩:∃kk,ks[i]?=some kk:=#[ks[i],B6 cS];obtain⟨vv,ev⟩:∃vv,rv[i]?=some vv:=#[rv[i]'(),B6 _];let#[T,x,y,eT,T1,T2,#[oT,n,gT,cT,dT],rx,ry]:=pr i kk vv ek ev;have IV:putAll (ks.drop (i+1)) (rv.drop (i+1)) (putK kvs kk vv)=putAll ks rv []:=by
      rw[<- he];have e1:ks.drop i=kk::ks.drop (i+1):=by rw[O6 cS];congr 1;exact D8 ((B6 cS).symm.trans ek)
      have e2:rv.drop i=vv::rv.drop (i+1):=by rw[O6 ()];congr 1;exact D8 ((B6 ()).symm.trans ev)
      rw[e1,e2];rfl
    apply OX M_ ?_;rw[Z4 yZ];have hsz:vs.length<=sizeLine:=by rw[<- rel.length];exact D3 (m:=1000) () ∅
    apply B5 (wpAny_pyNext_list_item (s:={ s with heap:=h,toks:=tk}) st (li h kp) eT λh' mw sb=>?_);have gT':h'.get? T=some oT:=(sb.2 T T2).trans (kp T oT T1 T2 gT);have qo:h'.DictOf (d_ prog w) S vs:=dd.at λo e=>(sb.2 S hS).trans e;have go: wpAny (model prog w) A.in1 (dictSet S x y) (fun _ s1 => wpAny (model prog w) A.in1 (again (.builtin "dict.update.loop" { pos:= [.ref S,.ref it,rawInt (ii + 1),.none] }))
          (λfin s'=>match fin with|.done f=>R (.ok f) s'|.again c'=>c'.quiet=true/\sO (model prog w) A c' R s') (λe s'=>R (.error e) s') s1) (λe s'=>R (.error e) s') { s with heap:=h',toks:=tk}:=by
      apply wpAny_dictSet_pairs (s:={ s with heap:=h',toks:=tk}) (hsz:=hsz) (AB rx) qo λBY wO dG=>?_;apply C4 #[OM yZ _,?_];have hlp:=AQ kvs kk vv;apply ih (i+1) _ _ _ (putK kvs kk vv) _ () cS ?_ (rel.put kk ry) wO () IV λb o b1 b2 e=>(dG.2 b b1).trans ((sb.2 b b2).trans (kp b o b1 b2 e));let#[o,e,r]:=mw;exact#[o,(dG.2 it (D2 hS)).trans e,r]
    apply B5 (M0 (B5 (Yr ?_)));unfold YZ;apply B5 (DX #[_,gT',cT] ?_);rw[if_pos ∅];apply B5 (L9 gT' dT (C4 ?_));exact M0 go
def uk3{prog:Program}{w:World}{A:Around}{E:Value->Shared->Prop}{s:Shared}{l:Addr}{us:Array Value}{o:Obj}{n:Nat}{Q:Value->Shared->Prop}(hh:A.in1.in1.handled=none)(g:s.heap.get? l=some o)(r:o.cls=.type "list")(G:o.data=.seq us n)(Z:o.dict=none) {ks:List Key} {rv:List V} (Y:ks.length=rv.length) (X:us.size=ks.length) (U:ks.length<=1000) (N:∀(i:Nat) (k:Key) (v:V),ks[i]?=some k->rv[i]?=some v->∃(T:Addr) (x y:Value),us[i]?=some (E7 T)/\Pr2 s.heap T x y/\RelV (kV k) x/\RelV v y) (q:∀(h':Heap) (tk:Nat) (vs:List (Key×Value)),(∀b o,s.heap.get? b=some o->h'.get? b=some o)->KV (putAll ks rv []) vs->h'.DictOf (d_ prog w) s.heap.objs.size vs->Q (.ref s.heap.objs.size) { s with heap:=h',toks:=tk}): wpAny (model prog w) A (call (.type "dict") [.ref l]) Q E s:=by
 apply callType_codes (Q₁:=λh H=>h=.ref s.heap.objs.size/\H={ s with heap:=s.heap.push { cls:=.type "dict",data:=.dict [].toArray}}) F.kt_called_dict (F.kt_typeCall_dict_1 (.ref l)) F.entry_dict_init (kt_code_dict_new (.ref l) #[rfl,rfl]) λh H S=>?_;let#[e1,e2]:=S;subst e1;subst e2;have ed:(s.heap.push { cls:=.type "dict",data:=.dict [].toArray}).DictOf (d_ prog w) s.heap.objs.size []:=YC s.heap;have up:∀b o,s.heap.get? b=some o->(s.heap.push { cls:=.type "dict",data:=.dict [].toArray}).get? b=some o:=λb o e=>B8 _ e;apply#[ed.typeIs,F.args_dict_init_2 _ _,?_];unfold Builtin.«dict.__init__» B00;apply B5 (B5 (wpAny_notOrdered_dict ed.typeIs (C4 ?_)));show wpAny _ _ (X5 "dict.__init__" s.heap.objs.size (.ref l) [] .none) _ _ { s with heap:=s.heap.push { cls:=.type "dict",data:=.dict [].toArray}};unfold X5;apply B5 (DX #[_,up _ _ g,r] ?_);rw[if_pos ∅];apply B5 (wm3 (s:={ s with heap:=s.heap.push { cls:=.type "dict",data:=.dict [].toArray}}) (up _ _ g) r G Z hh λh' tk B=>?_);simp only[B77,if_true];apply B5 (Ct ?_);have p:∀b o,s.heap.get? b=some o->h'.get? b=some o:=λb o e=>B b o (up b o e);have J:h'.IsList l us:=#[o,p _ _ g,r,n,G];apply B5 (W5 (s:={ s with heap:=h',toks:=tk}) J ?_);apply C4 #[OM yZ _,?_];have WR:s.heap.objs.size≠l:=Y0 (D5 g);have j:s.heap.objs.size<h'.objs.size:=by let#[o,es,ep,e,_]:=ed;exact D5 (B _ _ e)
 have old:∀{b o},s.heap.get? b=some o->b≠s.heap.objs.size/\b≠h'.objs.size:=λe=>#[J0 (D5 e),J0 (C72 (D5 e) j)];have t:∀b o,h'.get? b=some o->(h'.push { cls:=.type "list_iterator",data:=.fields [.ref l,.int 0 0].toArray}).get? b=some o:=λb o e=>B8 _ e;apply wm2 (s:=s) (h1:=h'.push { cls:=.type "list_iterator",data:=.fields [.ref l,.int 0 0].toArray}) (us:=us) hh (J0 j) WR (D2 (old g).2) Y X U #[o,t _ _ (p _ _ g),r,n,G] (λi k v ek ev=>?_) (λh2 UA vs R u dd=>#[rfl,q h2 UA vs (λb o e=>R b o (old e).1 (old e).2 (t _ _ (p b o e))) u dd]) ks.length 0 _ tk 0 [] [] rfl (J8 _)
  #[_,E1 _ rfl,rfl,rfl] .nil (ed.at λo e=>t _ _ (B _ _ e)) (B9 _) rfl λb o _ _ e=>e
 let#[T,x,y,eT,#[O,m,C,cT,dT],M,L]:=N i k v ek ev;exact#[T,x,y,eT,(old C).1,(old C).2,#[O,m,t _ _ (p _ _ C),cT,dT],M,L]
inductive yF(K:W.Frag)(H:Hp):List V->List Key->List V->Prop
 | nil:yF K H [] [] []
 | cons {t:Addr} {k:Key} {v:V} {xs:List V} {ks:List Key} {rv:List V}:eC K H t [kV k,v]->yF K H xs ks rv->yF K H (.ref t::xs) (k::ks) (v::rv)
def yF.len{K:W.Frag}{H:Hp}{xs:List V}{ks:List Key}{rv:List V}(h:yF K H xs ks rv):xs.length=ks.length/\ks.length=rv.length:=by
 induction h with
 | nil=>exact#[rfl,rfl]| cons _ _ f=>exact#[congrArg (·+1) f.1,congrArg (·+1) f.2]
def yF.at_{K:W.Frag}{H:Hp}{xs:List V}{ks:List Key}{rv:List V}(h:yF K H xs ks rv){us:List Value}(r:Vals xs us):∀(i:Nat) (k:Key) (v:V),ks[i]?=some k->rv[i]?=some v->∃t:Addr,us[i]?=some (E7 t)/\eC K H t [kV k,v]:=by
 induction h generalizing us with
 | nil=>intro i k v e;cases e
 | @cons t o n xs ks rv m _ l =>
  cases r with
  | cons j r =>
   intro i k v g f;cases i with
   | zero=>cases g;cases f;cases j;exact#[t,rfl,m]
   | succ i=>exact l r i k v g f
def v61{X:Cx}(hh:X.A.in1.in1.handled=none):bG X (.type "dict") (λxs H Q=>∃(l:Addr) (g:List V) (ks:List Key) (rv:List V),xs=[.ref l]/\eP X.K H l g/\yF X.K H g ks rv/\ks.length<=1000/\∀(p:Addr),H p=none->Q (.ref p) (upd H p (.dK (putAll ks rv [])))):=by
 intro pins s σ H xs us Q I r h;let#[l,g,ks,rv,rfl,hq,J,L,q]:=h;let#[u,rfl,O]:=vals1 r;cases O;let#[its,G,#[o,n,ho,C,B,E],hsz]:=I.list hq;let#[Y,U]:=J.len;have hu:its.toArray.size=ks.length:=by rw[D9,<- G.length,Y]
 apply uk3 hh ho (by first|exact C|exact B|exact E) (by first|exact E|exact B|exact C) (by first|exact B|exact C|exact E) U hu L (λi k v e1 e2=>?_) λh' N M Z j dd=>?_
 .let#[t,et,st]:=J.at_ G i k v e1 e2;let#[it2,R,#[S,gT,cT,nT,dT],_]:=I.tuple st;let#[x,y,rfl,a1,a2]:=R.two;exact#[t,x,y,by rw[List.getElem?_toArray];exact et,#[S,nT,gT,cT,dT],a1,a2]
 .have f:(putAll ks rv []).length<=sizeLine:=D3 (Uw ks rv []) (D3 (m:=1000) (by simpa using L) ∅);have Bw:(s.heap.objs.size==Q4)=false:=beq_eq_false_iff_ne.mpr (Y0 I.big);exact#[.ref s.heap.objs.size,_,I.laid (a:=s.heap.objs.size) (t':=N) (o:=.dK (putAll ks rv [])) Z (B9 _) #[f,Bw,M,j,dd],rfl,q _ (I.aE.fresh (B9 _))]
end L2
namespace L3
open PySem PySem.Spec PyProof.Rows L2
section
variable{X:Cx}{K:W.Frag}{H:Hp}
def Nt(f:Key×D):D:=.tup [kD f.1,f.2]
theorem w01:∀{kvs:List (Key×D)} {xs:List V},ag K H (kvs.map Nt) xs->∃rv,yF K H xs (kvs.map (·.1)) rv/\ag K H (kvs.map (·.2)) rv
 | [],xs,h=>by obtain rfl:=ag.aY h;exact#[[],.nil,.nil]
 | kv::kvs,xs,h=>by let#[x,r,rfl,n,m]:=ag.au h;let#[a,t,rfl,l,k]:=(show ae K H (.tup [kD kv.1,kv.2]) x from n).aO;let#[u,A,rfl,q,j]:=ag.au k;let#[f,y,rfl,o,i]:=ag.au j;obtain rfl:=ag.aY i;obtain rfl:=AG q;let#[rv,p,g]:=w01 m;exact#[f::rv,.cons l p,.cons o g]
@[reducible] def wq2:C3:=λf G q=>∃(a:Addr) (kvs:List (Key×D)),f=[.ref a]/\bt (G a)=some (kvs.map Nt)/\kvs.length<=1000/\∀(p:Addr),G p=none->q (.ref p) (aG G p (.bI (sU (kvs.map (·.1)) (kvs.map (·.2)) [])))
def w39(B:aQ k X.A):Call3 X (.type "dict") wq2:=pb (v61 B.hd) <| by rintro xs H Q ⟨C,G,q,r,c,t,f⟩;let#[a,kvs,rfl,y,x,t]:=t;let#[v,rfl,n]:=r.one;cases n.aj;let#[i,j,u]:=eR c y;let#[g,p,m]:=w01 u;apply#[_,i,_,g,rfl,j,p,by rw[B0];exact x,λp h=>?_];have l:Le H (upd H p (.dK (putAll (kvs.map (·.1)) g []))):=Le.fresh h;exact f _ _ _ _ ae.eW (c.put (o:=.bI (sU (kvs.map (·.1)) (kvs.map (·.2)) [])) l #[_,hJ,Ux (ag.le l m) #[rfl,.nil]]) l (t p (c.fresh h))
end
end L3
namespace L2
open PySem PySem.Spec PyProof.Rows
abbrev gv:=List Key×List Key
abbrev KN(K:W.Frag)(H:Hp):List (gv×V)->List (gv×Addr×Value)->Prop:=Paired λp q=>p.1=q.1/\zE K H q.2.1 p.1/\RelV p.2 q.2.2
def KN.val{K:W.Frag}{H:Hp}{kvs:List (gv×V)}{xs:List (gv×Addr×Value)}(r:KN K H kvs xs)(k:gv):dz (c8 kvs k) ((atKey xs k).map (·.2)):=by
 induction r with
 | nil=>exact P7| @cons p q m f h t j =>
  let#[i,_,l]:=h;by_cases e:p.1=k
  .have g:q.1=k:=i.symm.trans e;have b:atKey (q::f) k=some q.2:=by simp[atKey,L4,g]
   rw[CZ e,b];exact l
  .have g:¬ q.1=k:=λz=>e (i.trans z);have b:atKey (q::f) k=atKey f k:=by simp[atKey,L4,g]
   rw[CY e,b];exact j
def KN.tS{K:W.Frag}{H:Hp}{kvs:List (gv×V)}{xs:List (gv×Addr×Value)}(r:KN K H kvs xs)(k:gv){y:V}{u:Value}(j:RelV y u): KN K H (kvs.map λg=>if g.1=k then(g.1,y) else g) (xs.map (putAt k u)):=by
 induction r with
 | nil=>exact .nil| @cons p q o n h t l =>
  let#[f,i,m]:=h;apply .cons ?_ l;unfold putAt;dsimp only;by_cases e:p.1=k
  .rw[if_pos e,if_pos (f.symm.trans e)];exact#[f,i,j]
  .rw[if_neg e,if_neg (λz=>e (f.trans z))];exact#[f,i,m]
def KN.put{K:W.Frag}{H:Hp}{kvs:List (gv×V)}{xs:List (gv×Addr×Value)}(r:KN K H kvs xs)(k:gv){b:Addr}{y:V}{u:Value}(h:zE K H b k)(f:RelV y u): KN K H (putK kvs k y) (Ol xs k b u):=by
 have e:(kvs.any λg=>decide (g.1=k))=(atKey xs k).isSome:=by rw[Ug,(r.val k).iq,YI]
 unfold putK Ol;rw[e];by_cases q:(atKey xs k).isSome=true
 .rw[if_pos q,if_pos q];exact r.tS k f
 .rw[if_neg q,if_neg q];exact Yb r #[rfl,h,f]
def wQ.sq{K:W.Frag}{H:Hp}{a:Addr}{xs:List V}(h:wQ K H a xs):eC K H a xs:=by
 rcases h with h|h|h
 .exact .inl (.inl h)
 .exact .inl (.inr h)
 .exact .inr h
def eC.tp{K:W.Frag}{H:Hp}{a:Addr}{xs:List V}(h:eC K H a xs):wQ K H a xs:=by
 rcases h with(h|h)|h
 .exact .inl h
 .exact .inr (.inl h)
 .exact .inr (.inr h)
section
variable{X:Cx}{pins:List (Addr×Obj)}{σ:L2.St}{H:Hp}{s:Shared}{a b:Addr}{A:Around}{E:Value->Shared->Prop}
def Me{q:gv}(I:Inv X pins σ H s)(h:zE X.K H b q):(AO (d_ X.prog X.w)).is s.heap q b:=by
 let#[c,l,k]:=h;let#[its,r,#[o,e,t,n,d],_]:=I.tuple l.sq;let#[u,i,#[o2,m,f,j,p],_]:=I.tuple k.sq;cases r with
 | cons g r =>cases g;exact#[o,_,n,c,_,e,t,d,rfl,#[o2,u.toArray,j,m,f,p,by simpa using Na i],Na r]
def Qn(I:Inv X pins σ H s)(e:H a=some (.dN X.K kvs)):kvs.length<=sizeLine/\(a==Q4)=false /\ ∃xs,KN X.K H kvs xs/\s.heap.DictOfH (AO (d_ X.prog X.w)) a xs:=by
 let#[z,y,xs,r,o,u,B,n,k,j,i,h]:=(show bg X.prog X.w H s.heap a (.dN X.K kvs) from I.aE a _ e);apply#[z,y,xs,r,o,u,B,n,k,j,i,λx hx=>?_,h];have all:∀{l:List (gv×V)} {m:List (gv×Addr×Value)},KN X.K H l m->∀x∈m,(AO (d_ X.prog X.w)).is s.heap x.1 x.2.1:=by
  intro l m q;induction q with
  | nil=>intro x hx;exact nomatch hx| @cons p q G C f t g =>
   intro x hx;rcases D4.mp hx with e|hx
   .subst e;exact Me I (by rw[<- f.1];exact f.2.1)
   .exact g x hx
 exact all r x hx
def wt0(K:W.Frag):TE:=λ_ H Q=>∀p,H p=none->Q (.ref p) (upd H p (.dN K []))
def vp4:PE X (.Dict [] [] pos) (wt0 X.K):=λpins s σ H Q I h =>
 wpAny_Dict_empty #[.ref s.heap.objs.size,_,I.laid (a:=s.heap.objs.size) (o:=.dN X.K []) (t':=s.toks) (λ_ _ q=>B8 _ q) (B9 _)
  #[J8 _,beq_eq_false_iff_ne.mpr (D2 (J0 I.big)),[],.nil,_,[].toArray,0,E1 _ rfl,#[rfl,rfl,rfl],rfl,rfl,OV],rfl,h _ (I.aE.fresh (B9 _))]
def wt2(K:W.Frag)(g ty:TE):TE:=λσ H Q=>g σ H λx h=>ty σ h λy f=>∃a b kvs k v,x=.ref a/\y=.ref b/\f a=some (.dN K kvs)/\zE K f b k/\c8 kvs k=some v/\Q v f
def vp6{o i:Expr}{pos:Pos}{j ty:TE}(J:X.A.units+2<cLine)(N:PE X o j)(hi:PE X i ty)(L:sL i):PE X (.Subscript o i pos) (wt2 X.K j ty):=by
 intro pins s σ H Q I h
 (apply v91 A87.lookup L (aZ (N pins s σ H _ I h) ?_);rintro u m ⟨x,H1,Y,q,t⟩;apply aZ (hi pins m σ H1 _ Y t) ?_;rintro G s2 ⟨y,Z,g,n,a,b,kvs,k,v,ex,S,R,O,l,r⟩)
 subst ex;subst S;obtain rfl:u=E7 a:=q;obtain rfl:G=E7 b:=n;let#[z,hd,xs,f,dd]:=Qn g R;apply#[dd.typeIs,?_];let#[w',hw,C]:=dz.some_of (v:=v) (o:=(atKey xs k).map (·.2)) (by rw[<- l];exact f.val k);let#[p,M,U]:=E8.mp hw;apply wpAny_getItem_heap (knd:=AO (d_ X.prog X.w)) J (Me g O) dd M ?_;rw[U];exact#[v,Z,g.tok _,C,r]
def US(K:W.Frag):R2:=λx y H Q=>∃a b kvs k,x=.ref b/\y=.ref a/\H a=some (.dN K kvs)/\zE K H b k/\Q (.bl (!(c8 kvs k).isSome)) H
def vb8(l:X.A.units+2<cLine):cX X (K2 .NotIn) (US X.K):=by intro pins s σ H x y v u Q I i g h;let#[a,b,kvs,k,rfl,rfl,o,n,q]:=h;obtain rfl:v=E7 b:=i;obtain rfl:u=E7 a:=g;let#[z,m,xs,f,dd]:=Qn I o;apply wpAny_notIn_heap (knd:=AO (d_ X.prog X.w)) l (Me I n) m dd ?_;have e:=(f.val k).iq;rw[YI] at e;rw[<- e];exact#[.bl (!(c8 kvs k).isSome),H,I.tok _,rfl,q]
def wu4(K:W.Frag)(h ty g:TE):TS:=λD σ H=>g σ H λv j=>h σ j λx i=>ty σ i λy f=>∃a b kvs k,x=.ref a/\y=.ref b/\f a=some (.dN K kvs)/\zE K f b k/\kvs.length<sizeLine/\D.nx σ (upd f a (.dN K (putK kvs k v)))
def vo2{o i value:Expr}{pos f:Pos}{t ty p:TE}(hu:X.A.units+2<cLine)(ho:PE X o t)(hi:PE X i ty)(hv:PE X value p)(m:X7 value (some (.Subscript o i f)) pos.line X.env=pure false): PS X (.Assign [.Subscript o i f] value pos) (wu4 X.K t ty p):=by
 intro pins s σ H D I h
 (apply wpAny_Assign_Subscript (aZ (hv pins s σ H _ I h) ?_) m;rintro r M ⟨v,H1,I1,Q,Y⟩;apply aZ (ho pins M σ H1 _ I1 Y) ?_;rintro u L ⟨x,H2,I2,O,U⟩;apply aZ (hi pins L σ H2 _ I2 U) ?_;rintro iv s3 ⟨y,J,I3,N,a,b,kvs,k,ex,ey,e,G,l,S⟩)
 subst ex;subst ey;obtain rfl:u=E7 a:=O;obtain rfl:iv=E7 b:=N;let#[z,hd,xs,g,dd]:=Qn I3 e;have hz:xs.length<=sizeLine:=by rw[<- OU g];exact z
 have hl:(putK kvs k v).length<=sizeLine:=by have:=AQ kvs k v;omega
 apply wpAny_setItem_heap (knd:=AO (d_ X.prog X.w)) (hsz:=hz) hu (Me I3 G) dd λh' R m=>?_;let#[q,es,ep,C,n,h3,h4,_,h5]:=R;have B:∀{c j},wQ X.K J c j->wQ X.K (upd J a (.dN X.K (putK kvs k v))) c j:=λh=>h.fZ (λc j ec=>by rw[cU (Qr ec e (λz=>nomatch z))];exact ec) λc o j ec=>by rw[cU (Qr ec e (λz=>nomatch z))];exact ec
 apply#[σ,_,CO (ob:=.dN X.K (putK kvs k v)) I3 (by rw[e];exact P7) m #[q,C] #[hl,hd,_,Paired.tZ (g.put k G Q) λ_ _ z=>#[z.1,let ⟨c,h1,n⟩:=z.2.1;#[c,B h1,B n],z.2.2],q,es,ep,C,n,h3,h4,h5],S]
end
end L2
namespace L3
open PySem PySem.Spec PyProof.Rows L2
def jE(kvs:List (gv×D))(k:gv):Option D:=(kvs.find? λf=>decide (f.1=k)).map (·.2)
def ze(kvs:List (gv×D))(k:gv)(v:D):List (gv×D):=if(kvs.any λf=>decide (f.1=k))=true then kvs.map (λf=>if f.1=k then(f.1,v) else f) else kvs++[(k,v)]
def HH(q:gv):D:=.tup (.tup (q.1.map kD)::q.2.map kD)
section
variable{X:Cx}{K:W.Frag}{G:Gp}{H:Hp}{p:Addr}
theorem Tx:∀{kvs:List (gv×D)} {ys:List (gv×V)},aB K H kvs ys->(jE kvs k=none/\c8 ys k=none)\/∃d v,jE kvs k=some d/\c8 ys k=some v/\ae K H d v
 | [],ys,⟨f,i⟩=>by
  have:ys=[]:=by cases ys with|nil=>rfl|cons y ys=>simp at f
  subst this;exact .inl #[rfl,rfl]
 | (g,d)::kvs,[],⟨f,i⟩=>by simp at f| (g,d)::kvs,(q,v)::ys,⟨f,i⟩=>by
  rw[C0,C0] at f;let#[l,u]:=X0 f;have l:g=q:=l;subst l;let#[x,B,m,o,n]:=i.au;rw[C0] at m;let#[j,t]:=X0 m;have j:v=x:=j;subst j;by_cases h:g=k
  .right;exact#[d,v,by simp[jE,L4,h],CZ h,o]
  .have r:=Tx (k:=k) (kvs:=kvs) (ys:=ys) #[u,by rw[t];exact n];have A:jE ((g,d)::kvs) k=jE kvs k:=by simp[jE,L4,h]
   rw[A,CY h];exact r
theorem vd3(q:ae K H d v):∀{kvs:List (gv×D)} {ys:List (gv×V)},aB K H kvs ys->aB K H (kvs.map (λf=>if f.1=k then(f.1,d) else f)) (ys.map (λf=>if f.1=k then(f.1,v) else f))/\(kvs.any λf=>decide (f.1=k))=(ys.any λf=>decide (f.1=k))
 | [],ys,⟨g,j⟩=>by
  have:ys=[]:=by cases ys with|nil=>rfl|cons y ys=>simp at g
  subst this;exact#[#[rfl,.nil],rfl]
 | (h,J)::kvs,[],⟨g,j⟩=>by simp at g| (h,J)::kvs,(A,r)::ys,⟨g,j⟩=>by
  rw[C0,C0] at g;let#[m,I]:=X0 g;have m:h=A:=m;subst m;let#[x,L,o,u,t]:=j.au;rw[C0] at o;let#[l,E]:=X0 o;have l:r=x:=l;subst l;let#[#[C,n],B]:=vd3 (k:=k) q (kvs:=kvs) (ys:=ys) #[I,by rw[E];exact t];apply#[#[?_,?_],by rw[O0,O0,B]]
  .rw[C0,C0,C0,C0,C];by_cases i:h=k <;> simp[i]
  .rw[C0,C0,C0,C0];by_cases i:h=k
   .simp only[i,if_true];exact .cons q n
   .simp only[i,if_false];exact .cons u n
def we9(q:ae K H d v)(h:aB K H kvs ys):aB K H (ze kvs k d) (putK ys k v):=by
 let#[g,f]:=vd3 (k:=k) q h;unfold ze putK;rw[f];split
 .exact g
 .exact#[by rw[B7,B7,h.1];rfl,by rw[B7,B7];exact h.2.append (.cons q .nil)]
theorem Le.dN(h:H p=some (.dN K xs)):Le H (upd H p (.dN K ys)):=
  ⟨fun b zs q => by by_cases e: b = p
                    · subst e;rw[h] at q;cases q
                    · rw[cU e];exact q,
   fun b o u q => by by_cases e: b = p
                     · subst e;rw[h] at q;cases q
                     · rw[cU e];exact q⟩
theorem AY:∀{ks:List Key} {xs:List V},ag K H (ks.map kD) xs->xs=ks.map kV
 | [],xs,h=>ag.aY h| k::ks,xs,h=>by let#[x,r,rfl,g,f]:=ag.au h;rw[AG g,AY f];rfl
def SK(h:ae K H (HH q) v):∃b,v=.ref b/\zE K H b q:=by let#[b,xs,rfl,g,k]:=h.aO;let#[x,r,rfl,l,j]:=ag.au k;let#[c,m,rfl,f,i]:=l.aO;rw[AY i] at f;rw[AY j] at g;exact#[b,rfl,c,g.tp,f.tp]
def zp(f:aQ k X.A):X.A.units+2<cLine:=by have:=f.un;omega
def Zz:bu:=λ_ G q=>∀p,G p=none->q (.ref p) (aG G p (.qU []))
def wl4:E3 X (.Dict [] [] pos) Zz:=dH vp4 λj H Q h=>by let#[i,G,q,k,c,t,f]:=h;exact λp g=>f (.ref p) _ (.ref p) _ (by rw[ae]) (c.put (o:=.qU []) (Le.fresh g) #[[],hJ,rfl,.nil]) (Le.fresh g) (t p (c.fresh g))
def Zx(i h:bu):bu:=λf G q=>i f G λx j=>h f j λy g=>∃a kvs k d,x=.ref a/\y=HH k/\g a=some (.qU kvs)/\jE kvs k=some d/\q d g
def wl6(Z:aQ k X.A)(ho:E3 X o to)(hi:E3 X i J)(Y:sL i:=by exact λ_ _=>rfl):E3 X (.Subscript o i pos) (Zx to J):=
 dH (vp6 (zp Z) ho hi Y) λσ H Q h=>by
  let#[g,G,q,m,c,t,f]:=h;apply#[g,G,_,m,c,t,λx G1 v H1 U c1 r N=>#[g,G1,_,m.le r,c1,N,λy G2 u H2 S c2 n M=>?_]];let#[a,kvs,B,d,rfl,rfl,hg,j,L]:=M;have FQ:=ae.le n U;cases FQ.aj;let#[b,rfl,O]:=SK S;let#[I,e,R]:=c2 a _ hg;rcases Tx (k:=B) R with⟨l,_⟩|⟨d',w,l,E,C⟩
  .rw[l] at j;cases j
  .rw[l] at j;cases j;exact⟨a,b,I,B,w,rfl,rfl,e,O,E,f _ _ _ _ C c2 (r.trans n) L⟩
@[reducible] def w41:R3:=λx y G q=>∃(k:gv) (kvs:List (gv×D)) (a:Addr),x=HH k/\y=.ref a/\G a=some (.qU kvs)/\q (.bl (!(jE kvs k).isSome)) G
def vl9(u:aQ k X.A):fG X (K2 .NotIn) w41:=rZ (vb8 (zp u)) λx y H Q h=>by
 let#[d,e,G,q,r,o,c,#[g,kvs,a,rfl,rfl,B,t],f]:=h;cases o.aj;let#[b,rfl,m]:=SK r;let#[l,e,n]:=c a _ B;apply#[a,b,l,g,rfl,rfl,e,m,?_];have C:(jE kvs g).isSome=(c8 l g).isSome:=by rcases Tx (k:=g) n with⟨j,i⟩|⟨E,w,j,i,_⟩ <;> rw[j,i] <;> rfl
 rw[C] at t;exact f _ _ _ _ ae.lY c (Le.refl H) t
def ZA(j i h:bu):iH:=λn f G=>h f G λv m=>j f m λx l=>i f l λy g=>∃(a:Addr) (kvs:List (gv×D)) (k:gv),x=.ref a/\y=HH k/\g a=some (.qU kvs)/\kvs.length<sizeLine/\n.nx f (aG g a (.qU (ze kvs k v)))
def we3{pos g:Pos}(hr:aQ k X.A)(ho:E3 X o to)(hi:E3 X i L)(Z:E3 X value J) (hs:X7 value (some (.Subscript o i g)) pos.line X.env=pure false:=by rfl):S3 X (.Assign [.Subscript o i g] value pos) (ZA to L J):=
 oZ (vo2 (zp hr) ho hi Z hs) λD σ H h=>by
  let#[j,G,d,l,c,t,f]:=h;apply#[j,G,_,l,c,t,λv G1 w H1 Y c1 r Q=>#[j,G1,_,l.le r,c1,Q,λx G2 u H2 U c2 q O=>#[j,G2,_,l.le (r.trans q),c2,O,λy G3 z I S E n N=>?_]]];let#[a,kvs,k,rfl,rfl,hg,hl,M]:=N;have UW:=ae.le n U;cases UW.aj;let#[b,rfl,R]:=SK S;let#[B,e,C]:=E a _ hg;have m:Le I (upd I a (.dN _ (putK B k w))):=Le.dN e;have Vx:B.length=kvs.length:=by have:=congrArg J1 C.1;rw[B0,B0] at this;exact this.symm
  apply#[a,b,B,k,rfl,rfl,e,R,by rw[Vx];exact hl,?_];apply f.nx _ _ _ _ (((l.le r).le q).le (n.trans m)) ?_ (r.trans (q.trans (n.trans m))) M;exact E.put m #[_,hJ,(we9 (ae.le (q.trans n) Y) C).le m]
end
end L3
namespace Rw
open PySem PyProof.Rows L2 L3
def Wv.tr(le:fr<=f)(h:∀r∈new,Rw.tg fr f r):Wv fr f new (λ_ _=>True):=#[le,h,λ_ _ _ _ _=>trivial]
def xg9(E:W<=16)(C:x<fr)(B:y<fr)(p:o∈L3.signs):∀r∈gq W x y fr o,tg fr (my fr o) r:=by
 have l:∀r∈cM fr x y W,tg fr (fr+1) r:=λr f=>by let#[i,hi,rfl]:=D7.mp f;have hi:=N7.mp hi;apply#[B9 _,(),(),by simp,λc h=>?_];simp only[D4,X6,or_false] at h;rcases h with rfl|rfl <;> exact⟨(),(),()⟩
 have g:∀(z i k m:Nat) (j:List (Nat×Nat)),fr<=z->z<fr+m->i<32->(∀c∈j,c.1<z/\c.2<32)->j.length<=2->tg fr (fr+m) (.turn z i j):=λz i k m j A u t n q=>#[A,u,t,q,λc h=>#[by have:=n c h;omega,by have:=n c h;omega,(n c h).2]];intro r f;rcases Ua p with rfl|rfl|rfl|rfl|rfl|rfl|rfl
 all_goals
  simp only[gq,my,eF,C7,if_false,if_true,E9,D4,X6,or_false,List.mem_replicate] at f⊢
 .rcases f with rfl|rfl|rfl|rfl
  .exact⟨(),(),(),()⟩
  .exact⟨(),(),(),()⟩
  .exact g _ _ 0 2 _ () () () (by simp;omega) (by simp)
  .exact⟨(),(),(),()⟩
 .rcases f with(rfl|rfl)|rfl|rfl
  .exact⟨(),(),(),()⟩
  .exact⟨(),(),(),()⟩
  .exact g _ _ 0 2 _ () () () (by simp) (by simp)
  .exact⟨(),(),(),()⟩
 .exact l r f
 .rcases f with f|(rfl|rfl)|⟨_,rfl⟩
  .exact AJ (l r f) (B9 _) ()
  .exact⟨(),(),(),()⟩
  .exact⟨(),(),(),()⟩
  .exact⟨(),(),(),()⟩
 .rcases f with f|(rfl|rfl)|⟨_,rfl⟩
  .exact AJ (l r f) (B9 _) ()
  .exact⟨(),(),(),()⟩
  .exact⟨(),(),(),()⟩
  .exact⟨(),(),(),()⟩
 .rcases f with(rfl|rfl)|rfl
  .exact⟨(),(),(),()⟩
  .exact⟨(),(),(),()⟩
  .exact g _ _ 0 2 _ () () () (by simp) (by simp)
 .rcases f with((rfl|rfl)|rfl|rfl)|rfl|rfl|rfl
  .exact⟨(),(),(),()⟩
  .exact⟨(),(),(),()⟩
  .exact⟨(),(),(),()⟩
  .exact⟨(),(),(),()⟩
  .exact g _ _ 0 3 _ () () () (by simp) (by simp)
  .exact g _ _ 0 3 _ () () () (by simp) (by simp)
  .exact g _ _ 0 3 _ () () () (by simp) (by simp)
def Mf(h:W<=16)(g:jN W bs a):∀r∈di fr a,tg fr (a_ fr a) r:=by
 intro r f;cases a with
 | num i =>obtain rfl:=F4.mp f;have j:i<2^W:=g;have:=C5 j (Z3 (n:=2) ∅ h);exact#[B9 _,R4 _,(),()]
 | box x=>cases f
theorem Si:∀{ps:List Nat} {fr:Nat},f0<=fr->(∀p∈ps,p<f0)->∀r∈iX fr ps,tg fr (fr+ps.length) r
 | [],_,_,_,_,hr=>nomatch hr| p::ps,fr,g,f,r,hr=>by
  have i:=f p C6;rcases D4.mp hr with rfl|hr
  .exact⟨B9 _,by simp,by rw[C1];omega,()⟩
  .exact AJ (Si (fr:=fr+1) () (λp h=>f p (C2 _ h)) r hr) () (by rw[C1];omega)
def vn0(n:x<fr):Wv fr (fr+2) [.take fr (.box x),.turn (fr+1) 0 [(fr,31)]] (λ_ b'=>gt b' (fr+1)=0\/gt b' (fr+1)=1):=by
 apply⟨(),λr f=>?_,λl k h m i=>?_⟩
 .simp only[D4,X6,or_false] at f;rcases f with rfl|rfl
  .exact⟨B9 _,(),(),()⟩
  .exact⟨(),(),(),by simp,λc g=>by rw[F4.mp g];exact#[(),(),()]⟩
 .have o:=h.len;have j:gt (df 1 k (.take fr (.box x))) (fr+1)=0:=by rw[vg7 (),if_neg (),i (fr+1) ()]
  rw[T',T',we4,vg6 (by rw[w57];omega),if_pos rfl,j];split
  .exact .inr (W_ 0)
  .exact .inl rfl
abbrev DH(a fr f:Nat)(new:List Row)(st:Nat):Prop:=Wk a fr f new st (λ_=>True) (λ_ _=>True)
theorem DH.seq(h1:DH a fr m f i)(k:DH (a+f.length) m l j g):DH a fr l (f++j) (i+g):=(Wk.seq h1 k λ_ _ _ _ _=>trivial).imp (λ_ h=>h) λ_ _ _ _ _=>trivial
def Xs(bs:List Str)(a fr:Nat)(x:List Row×List Nat×Nat×Nat):Prop:=DH a fr x.2.2.1 x.1 x.2.2.2/\x.2.1.length=bs.length/\∀p∈x.2.1,p<x.2.2.1
def ZP(h:∀p∈pl,p<fr)(j:fr<=f)(i:p<f):∀q∈eG bs pl x p,q<f:=λq g=>by
 rcases Zg g with z|z
 .exact C5 (h q z) j
 .rw[z];exact i
def MI{bs:List Str}{pl:List Nat}(f:pl.length=bs.length)(h:∀p∈pl,p<f0)(g:f0<=fr)(j:jN W bs a):fo bs pl fr a<a_ fr a:=by
 cases a with
 | num i=>exact R4 _| box x=>exact C5 (h _ (K9 (vt1 j f))) g
mutual
theorem UC(i:W<=16):∀(r:av) {a:Nat} {pl:List Nat} {fr:Nat},sX W bs r->wz r->pl.length=bs.length->(∀p∈pl,p<fr)->Xs bs a fr (cB W bs r a pl fr)
 | .is x c,a,pl,fr,hr,_,g,h=>#[Wk.of (Wv.tr (o9 c).1 (Mf i hr.2)),by show(eG _ _ _ _).length=_;unfold eG;rw[J9];exact g,ZP h (o9 c).1 (MI g h (B9 _) hr.2)]| .op x o c d,a,pl,fr,hr,_,g,h=>by
  let#[_,X,l,L]:=hr;have f1:=o9 (fr:=fr) c;have f2:=o9 (fr:=a_ fr c) d;have M:=vw6 (fr:=a_ (a_ fr c) d) (o:=o);have b1:=MI g h (B9 fr) l;have Z:=MI g h f1.1 L;apply#[Wk.of (Wv.tr (by show fr<=my _ _;omega) λr hr=>?_),by show(eG _ _ _ _).length=_;unfold eG;rw[J9];exact g,ZP h (by show fr<=my _ _;omega) M.2.2];rcases E9.mp hr with hr|hr
  .rcases E9.mp hr with hr|hr
   .exact AJ (Mf i l r hr) (B9 _) (by show a_ fr c<=my _ _;omega)
   .exact AJ (Mf i L r hr) f1.1 M.1
  .exact AJ (xg9 i () Z X r hr) () (B9 _)
 | .fz c j m,a,pl,fr,hr,A,g,h=>by obtain⟨l,VZ,V_⟩:jN W bs c/\d5 W bs j/\d5 W bs m:=hr;obtain⟨Wh,Wj⟩:fO j/\fO m:=A;let#[C,J,I]:=tM i j (a:=a) VZ Wh g h;have O:=C.le;let#[E,U,S]:=tM i m (a:=a+(bp W bs j a pl fr).1.length) V_ Wj g λp u=>C5 (h p u) O;have B:=E.le;unfold cB Xs;dsimp only;generalize bp W bs j a pl fr=y at *;generalize bp W bs m (a+y.1.length) pl y.2.2.1=n at *;have u:=o9 (fr:=n.2.2.1) c;have Y:=MI g h (D3 O B) l;have ty:=Wv.tr (fr:=a_ n.2.2.1 c+2) (R6 _ _) (Si (f0:=n.2.2.1) (ps:=uY y.2.1 n.2.1) () λp q=>C5 (I p (SV q)) B);have G:=Wv.tr (fr:=a_ n.2.2.1 c+2) (R6 _ _) (Si (f0:=n.2.2.1) (ps:=uN y.2.1 n.2.1) () λp q=>S p (SU q));rw[<- CC] at G;have Q:DH a fr _ _ _:=(C.seq E).seq (Wk.of (Wv.tr u.1 (Mf i l)));have H:=(Wk.seq (P2:=λ_=>True) Q (Wk.of (vn0 Y)) λ_ _ _ _ _=>trivial).seq (Wk.choice (ch:=a_ n.2.2.1 c+1) ty G (by rw[xv,xv,CC]) ()) λ_ _ _ ⟨_,_,f,_⟩ _=>f;rw[xv] at H;exact#[H.imp (λ_ p=>p) λ_ _ _ _ _=>trivial,by rw[EL (by rw[J,U])];exact J,λx t=>SG (f0:=n.2.2.1) () (λx t=>C5 (I x t) B) x t]
 | .j8 k j,a,pl,fr,_,A,_,_=>A.elim
theorem tM(j:W<=16):∀(rs:List av) {a:Nat} {pl:List Nat} {fr:Nat},d5 W bs rs->fO rs->pl.length=bs.length->(∀p∈pl,p<fr)->Xs bs a fr (bp W bs rs a pl fr)
 | [],a,pl,fr,_,_,f,h=>#[Wk.of (Wv.nil λ_=>trivial),f,h]| r::rs,a,pl,fr,g,i,f,h=>by let#[l,q,n]:=UC j r (a:=a) g.1 i.1 f h;let#[k,o,m]:=tM j rs (a:=a+(cB W bs r a pl fr).1.length) g.2 i.2 q n;exact#[l.seq k,o,m]
end
end Rw
namespace Law
open PySem L2 L3 Rw
def Nq(f:Nat->Nat):oU->oU
 | .num n=>.num n| .box y=>.box (f y)
def sf(f:Nat->Nat):Row->Row
 | .add x o=>.add (f x) (Nq f o)| .take x o=>.take (f x) (Nq f o)| .turn x i g=>.turn (f x) i (g.map λc=>(f c.1,c.2))| .swap x y=>.swap (f x) (f y)| .go x n k=>.go (f x) n k| .aT x n k=>.aT (f x) n k
structure wU(f:Nat->Nat)(m d:Nat):Prop where
 inj:∀x y,f x=f y->x=y
 up:∀x,m<=x->f x=x+d
section
variable{f:Nat->Nat}{m d:Nat}
def Mx(h:wU f m d)(g:m<=fr)(a:l0):di (fr+d) a=(di fr a).map (sf f):=by
 cases a with
 | num i=>show[Row.add (fr+d) _]=[Row.add (f fr) _];rw[h.up fr g];rfl| box x=>rfl
def SN(a:l0):a_ (fr+d) a=a_ fr a+d:=by
 cases a with
 | num i=>show fr+d+1=fr+1+d;omega| box x=>rfl
def Mu{bs:List Str}(h:wU f m d){pl:List Nat}(j:m<=fr)(g:pl.length=bs.length)(k:jN W bs a):fo bs (pl.map f) (fr+d) a=f (fo bs pl fr a):=by
 cases a with
 | num i=>exact(h.up fr j).symm| box x =>show((pl.map f)[ip bs x]?).getD 0=f ((pl[ip bs x]?).getD 0);rw[F8,B6 (by rw[g];exact Sx k)];rfl
def xb9(h:wU f m d)(g:m<=fr):cM (fr+d) (f x) (f y) k=(cM fr x y k).map (sf f):=by unfold cM;rw[Q1];exact M5 λi _=>by show _=Row.turn (f fr) _ _;rw[h.up fr g];rfl
def xh0(h:wU f m d)(g:m<=fr):gq W (f x) (f y) (fr+d) o=(gq W x y fr o).map (sf f)/\AW (fr+d) o=f (AW fr o)/\my (fr+d) o=my fr o+d:=by
 have k:=h.up fr g;have j:=h.up (fr+1) ();have i:=h.up (fr+2) ();unfold gq AW my
 repeat' split
 all_goals apply#[?_,(),()]
 all_goals simp[sf,Nq,k,j,i,xb9 h g,YM]
def w00{pl:List Nat}:eG bs (pl.map f) x (f p)=(eG bs pl x p).map f:=by unfold eG;rw[OH]
theorem Fd(h:wU f m d):∀{ps qs:List Nat},uY (ps.map f) (qs.map f)=(uY ps qs).map f/\uN (ps.map f) (qs.map f)=(uN ps qs).map f
 | [],_=>by simp[uY,uN]| _::_,[]=>#[rfl,rfl]| p::ps,q::qs=>by
  let#[i,g]:=Fd h (ps:=ps) (qs:=qs);by_cases e:p=q
  .simp[uY,uN,e,i,g]
  .simp[uY,uN,e,mt (h.inj p q) e,i,g]
theorem SH(h:wU f m d):∀{ps qs:List Nat} {fr:Nat},m<=fr->gs (fr+d) (ps.map f) (qs.map f)=(gs fr ps qs).map f
 | [],_,_,_=>by simp[gs]| _::_,[],_,_=>rfl| p::ps,q::qs,fr,g=>by
  by_cases e:p=q
  .simp[gs,e,SH h g]
  .simp[gs,e,mt (h.inj p q) e,h.up fr g,YM fr d 1,SH h (show m<=fr+1 by omega)]
theorem wr8(h:wU f m d):∀{ps:List Nat} {fr:Nat},m<=fr->iX (fr+d) (ps.map f)=(iX fr ps).map (sf f)
 | [],_,_=>rfl| p::ps,fr,g=>by show Row.add (fr+d) (.box (f p))::iX (fr+d+1) (ps.map f)=Row.add (f fr) (.box (f p))::(iX (fr+1) ps).map (sf f);rw[h.up fr g,YM fr d 1,wr8 h (show m<=fr+1 by omega)]
def xj5{ys ns:List Row}:sH a (f ch) (ys.map (sf f)) (ns.map (sf f))=(sH a ch ys ns).map (sf f):=by unfold sH;simp[sf]
abbrev yE(f:Nat->Nat)(d:Nat)(x y:List Row×List Nat×Nat×Nat):Prop:=y=(x.1.map (sf f),x.2.1.map f,x.2.2.1+d,x.2.2.2)
mutual
theorem wr0{bs:List Str}(h:wU f m d)(u:W<=16)(t:bs.length<=6):∀(r:av) {a:Nat} {pl:List Nat} {fr:Nat},sX W bs r->wz r->pl.length=bs.length->m<=fr->yE f d (cB W bs r a pl fr) (cB W bs r a (pl.map f) (fr+d))
 | .is x c,a,pl,fr,k,q,g,j=>by let#[_,l]:=k;simp only[yE,cB,wg,Mx h j,SN,Mu h j g l,w00,B0]| .op x o c e,a,pl,fr,k,q,g,j=>by let#[_,ho,l,Q]:=k;have f1:=(o9 (fr:=fr) c).1;have f2:=(o9 (fr:=a_ fr c) e).1;let#[O,N,M]:=xh0 h (W:=W) (x:=fo bs pl fr c) (y:=fo bs pl (a_ fr c) e) (fr:=a_ (a_ fr c) e) (o:=o) ();simp only[yE,cB,wg,Mx h j,SN,Mx h (show m<=a_ fr c by omega),Mu h j g l,Mu h (show m<=a_ fr c by omega) g Q,O,N,M,w00,<- B7,B0]| .fz c i p,a,pl,fr,k,q,g,j=>by
  let#[l,H,A]:=k;obtain⟨B,C⟩:fO i/\fO p:=q;let#[_,_,l1,Z,_]:=sV (a:=a) (fr:=fr) u t i H B g;have G:=Mz h u t i (a:=a) H B g j;let#[_,_,k1,k2,_]:=sV (a:=a+(bp W bs i a pl fr).1.length) (fr:=(bp W bs i a pl fr).2.2.1) u t p A C g;have E:=Mz h u t p (a:=a+(bp W bs i a pl fr).1.length) A C g (show m<=(bp W bs i a pl fr).2.2.1 by omega);simp only[yE] at G E;simp only[yE,cB,G,B0];rw[E];generalize bp W bs i a pl fr=y at *;generalize bp W bs p (a+y.1.length) pl y.2.2.1=n at *;have f1:=(o9 (fr:=n.2.2.1) c).1;have I:m<=n.2.2.1:=()
  let#[L,J]:=Fd h (ps:=y.2.1) (qs:=n.2.1);have R:=h.up (a_ n.2.2.1 c) ();have g1:=h.up (a_ n.2.2.1 c+1) ();have U:a_ n.2.2.1 c+d+1=a_ n.2.2.1 c+1+d:=()
  have S:a_ n.2.2.1 c+d+2=a_ n.2.2.1 c+2+d:=()
  simp only[Mx h I,SN,Mu h I g l,L,J,B0,B4,B7,U,S,SH h (show m<=a_ n.2.2.1 c+2 by omega),wr8 h (show m<=a_ n.2.2.1 c+2 by omega),<- g1,xj5,C0,LJ,sf,Nq,R,C1,Pl];apply Lx rfl (Lx rfl (Lx ?_ rfl));show _+d+_=_+_+d;omega
 | .j8 _ _,a,pl,fr,k,q,g,j=>rfl
theorem Mz{bs:List Str}(h:wU f m d)(i:W<=16)(g:bs.length<=6):∀(rs:List av) {a:Nat} {pl:List Nat} {fr:Nat},d5 W bs rs->fO rs->pl.length=bs.length->m<=fr->yE f d (bp W bs rs a pl fr) (bp W bs rs a (pl.map f) (fr+d))
 | [],a,pl,fr,_,_,_,_=>rfl| r::rs,a,pl,fr,t,u,n,x=>by obtain⟨o,y⟩:sX W bs r/\d5 W bs rs:=t;obtain⟨j,p⟩:wz r/\fO rs:=u;let#[_,_,A,q,_]:=v77 (a:=a) (fr:=fr) i g r o j n;have l:=wr0 h i g r (a:=a) o j n x;have k:=Mz h i g rs (a:=a+(cB W bs r a pl fr).1.length) y p q (show m<=(cB W bs r a pl fr).2.2.1 by omega);simp only[yE] at l k;simp only[yE,bp,l,B0,k,B7]
end
end
def fre(T:Nat->Prop):Row->Prop
 | .add x o=>¬ T x/\∀y,o=.box y->¬ T y| .take x o=>¬ T x/\∀y,o=.box y->¬ T y| .turn x _ f=>¬ T x/\∀c∈f,¬ T c.1| .swap x y=>¬ T x/\¬ T y| .go x _ _=>¬ T x| .aT x _ _=>¬ T x
def x97(h:∀x,¬ T (f x))(r:Row):fre T (sf f r):=by
 cases r with
 | add x o=>exact#[h x,λy e=>by cases o <;> cases e;exact h _]
 | take x o=>exact#[h x,λy e=>by cases o <;> cases e;exact h _]
 | turn x i j=>exact#[h x,λc g=>by let#[l,_,rfl]:=D7.mp g;exact h _]| swap x y=>exact#[h x,h y]| go x n k=>exact h x| aT x n k=>exact h x
def nT{T:Nat->Prop}{i x:Nat}(h:T i)(h':¬ T x):¬ i=x:=λe=>h' (e▸h)
def jU(add:Bool)(bK:Nat)(pl:List Nat):List Row:=(F3 pl.length).map λj=>if add=true then Row.add (bK+j) (.box (pl.getD j 0)) else Row.take (bK+j) (.box (pl.getD j 0))
def xb6{pl:List Nat}(m:bK+pl.length<=sz)(k:∀p∈pl,p<sz/\(p<bK\/bK+pl.length<=p)):∀r∈jU add bK pl,tg 0 sz r:=by
 intro r h;let#[j,f,rfl]:=D7.mp h;have f:=N7.mp f;have i:pl.getD j 0∈pl:=by rw[K4,B6 f];exact M6 f
 let#[l,n]:=k _ i;have g:oU.ok sz (bK+j) (.box (pl.getD j 0)):=#[l,()];split
 .exact#[J8 _,(),g]
 .exact#[J8 _,(),g]
structure qr(W:Nat)(bs:List Str)(rs:List av):Prop where
 nb:bs.length<=6
 nd:bs.Nodup
 ok:d5 W bs rs
 nt:fO rs
 dp:bc rs<=6
 sz:22*bZ rs<=3960
 hW:W<=16
def tN(W:Nat)(bs:List Str)(rs:List av):Nat:=(bp W bs rs 0 (F3 bs.length) bs.length).2.2.2
def c9(f m:Nat):List Nat:=(F3 m).map λj=>f+j
def si(add:Bool)(W:Nat)(bs:List Str)(rs:List av)(f bK fr:Nat):List Row:=uc [] [(bp W bs rs 0 (c9 f bs.length) fr).1,jU add bK (bp W bs rs 0 (c9 f bs.length) fr).2.1,oO (bp W bs rs 0 (c9 f bs.length) fr).1]
theorem Tj:∀{cs:List (List Row)} {a:List Row},(uc a cs).length=a.length+(cs.map J1).sum
 | [],a=>rfl| c::cs,a=>by rw[uc,Tj,v29,C0,M7];omega
def uz1(t m:Nat):(c9 t m).length=m:=by unfold c9;rw[B0,J4]
def v92(h:t+m<=fr)(f:p∈c9 t m):p<fr:=by let#[j,g,rfl]:=D7.mp f;have:=N7.mp g;omega
section
variable{W src bK fr sz:Nat}{bs:List Str}{rs:List av}
def wt7(g:src+bs.length<=fr):wU (λx=>if x<bs.length then src+x else x+(fr-bs.length)) bs.length (fr-bs.length):=#[λx y e=>by split at e <;> split at e <;> omega,λx f=>if_neg ()]
def wq9(ok:qr W bs rs)(k:src+bs.length<=fr):(bp W bs rs 0 (c9 src bs.length) fr).2.2.2=tN W bs rs/\(∀p∈(bp W bs rs 0 (c9 src bs.length) fr).2.1,src<=p/\p<src+bs.length\/fr<=p)/\∀T:Nat->Prop,(∀x,src<=x->x<src+bs.length->¬ T x)->(∀x,fr<=x->¬ T x)->∀r∈(bp W bs rs 0 (c9 src bs.length) fr).1,fre T r:=by
 have h:=Mz (wt7 k) ok.hW ok.nb rs (a:=0) (pl:=F3 bs.length) (fr:=bs.length) ok.ok ok.nt (J4) (B9 _);have n:(F3 bs.length).map (λx=>if x<bs.length then src+x else x+(fr-bs.length))=c9 src bs.length:=M5 λx j=>if_pos (N7.mp j);rw[n,show bs.length+(fr-bs.length)=fr by omega] at h;simp only[yE] at h;rw[h];apply#[rfl,λp m=>?_,λT g f r l=>?_]
 .let#[x,_,rfl]:=D7.mp m;split <;> omega
 .let#[i,_,rfl]:=D7.mp l;apply x97 (λx=>?_) i;split
  .exact g _ () ()
  .exact f _ ()
end
def Di(w:Str)(k:Nat):D:=.tup [.str w,.int (k:Int)]
def yy(W:Nat)(bs:List Str)(p:List av):Int:=((2*tN W bs p+bs.length:Nat):Int)
inductive zF(W:Nat)(bs:List Str)(rs:List av)(f bK fr:Nat):D->List Row->Nat->Prop
 | lay {k:Nat}:zF W bs rs f bK fr (Di "lay" k) (si true W bs rs f bK fr) (bp W bs rs 0 (c9 f bs.length) fr).2.2.1
 | clear {k:Nat}:zF W bs rs f bK fr (Di "clear" k) (si false W bs rs f bK fr) (bp W bs rs 0 (c9 f bs.length) fr).2.2.1
 | px:zF W bs rs f bK fr (.tup [.str "show"]) ((F3 bs.length).map λj=>Row.add (bs.length+j) (.box (bK+j))) (bK+bs.length)
section
variable{W:Nat}{bs:List Str}{PP:List (List av)}
def getD_mem(h:k<PP.length):PP.getD k []∈PP:=by rw[K4,B6 h];exact M6 h
end
end Law
namespace L2
open PySem PySem.Spec PyProof.Rows
section
variable{X:Cx}
def vg1{P:Program}{w:World}{ns:List Int}{vs:List (Key×Value)}(f:vs.map (·.1)=ns.map M4){us:List Value}(g:us.length=vs.length)(h:∀(j:Nat) (v:Value),us[j]?=some v->∃k x,vs[j]?=some (k,x)/\(d_ P w).is k v=true):wc us ns:=by
 induction ns generalizing vs us with
 | nil =>
  have:vs=[]:=by simpa using f
  subst this;have:us=[]:=by simpa using g
  subst this;exact .nil
 | cons n ns i =>
  match vs,f,us,g with
  | (k,x)::vs,f,u::us,g =>rw[C0,C0,Y4] at f;let#[o,m,e,hi]:=h 0 u rfl;cases e;obtain rfl:k=.inl n:=f.1;let#[t,rfl]:=(show∃t,u=.int n t from ZL hi);exact .cons n t (i f.2 (by simpa using g) λj v l=>h (j+1) v (by simpa using l))
def ut4(hh:X.A.handled=none):bG X (.builtin "sorted") (λxs H Q=>∃(p:Addr) (ns:List Int) (kvs:List (Key×V)),xs=[.ref p]/\kvs.map (·.1)=ns.map M4/\H p=some (.dK kvs)/\ns.length<64/\∀(l:Addr) (k:List Int),H l=none->k.Perm ns->k.Pairwise (·<=·)->Q (.ref l) (upd H l (.lst (k.map V.int)))):=by
 intro pins s O H xs us Q I r h;let#[p,ns,kvs,rfl,Z,hd,Dz,q]:=h;let#[u,rfl,R]:=vals1 r;cases R;apply Calls.call_function_entry kind_sorted plain_sorted entry_sorted (args_sorted1 _) ?_;unfold Builtin.«sorted»;let#[z,x,B,i,dd]:=xj I.aE (.inl hd);let#[o,es,L,U,hc,fb,IP,S,Y]:=id dd;have IK:=i.keys;have BJ:=i.length;apply B5 (m:=checkCount "sorted" 1 1 _) (C4 (B5 (W.kdu_collect (A:=X.A.in1) (W.kdl_dict (kvs:=B) (ep:=L) x) hh #[o,es,U,hc,fb,IP,S,Y] () λn t f BM C=>?_)));have WM:f.toList.length=B.length:=by rw[K3];exact C.1
 have hi:=vg1 (P:=X.prog) (w:=X.w) (ns:=ns) (by rw[<- IK];exact Z) WM λj v e=>C.2 j v (by rw[<- V2];exact e);have G:f.toList.length<=sizeLine:=()
 have N:Inv X pins O H { s with heap:=n,toks:=t}:=I.kept BM;apply B5 (wpAny_newList ?_ G);have y:(n.push (seqObj "list" f.toList.toArray 0)).get? n.objs.size=some (seqObj "list" f.toList.toArray 0):=E1 _ rfl;show wpAny _ _ _ _ _ { s with heap:=n.push (seqObj "list" f.toList.toArray 0),toks:=t};apply B5 (M0 (O5 slot_list_sort #[_,y,rfl] entry_list_sort (list_sort_tree y hi (by rw[hi.length];exact Dz) λout k a1 M a3=>#[_,rfl,?_]) (args_list_sort _)));let#[c,e]:=sortedHeap_at (out:=out) y;apply C4 #[_,rfl,.ref n.objs.size,_,N.laid (t':=t) (λb u J=>?_) (B9 _) (show bg X.prog X.w _ _ _ (.lst (k.map V.int)) from #[by rw[B0,M.length_eq,<- hi.length];exact G,out.toList,c,Nb a1,e]),rfl,q _ _ (N.aE.fresh (B9 _)) M a3];have E:=D5 J;rw[sortedHeap_old (J0 E) (by rw[size_push'];exact Nat.lt_succ_of_lt E)];exact B8 _ J
end
end L2
namespace L3
open PySem PySem.Spec PyProof.Rows L2
section
variable{X:Cx}{K:W.Frag}{H:Hp}
@[reducible] def vm4:C3:=λh G q=>∃(a:Addr) (f:List Int) (kvs:List (Key×D)),h=[.ref a]/\kvs.map (·.1)=f.map M4/\G a=some (.bI kvs)/\f.length<64/\∀(p:Addr) (g:List Int),G p=none->g.Perm f->g.Pairwise (·<=·)->q (.ref p) (aG G p (.lst (g.map .int)))
def v69(o:aQ k X.A):Call3 X (.builtin "sorted") vm4:=pb (ut4 o.hd) <| by rintro xs H Q ⟨C,G,q,r,c,t,f⟩;let#[a,m,kvs,rfl,u,n,B,t]:=t;let#[v,rfl,l]:=r.one;cases l.aj;let#[i,e,j]:=c a _ n;exact#[_,m,i,rfl,by rw[<- u];exact j.1.symm,e,B,λp h g y x=>f _ _ _ _ ae.eW (c.cG g (T_ h)) (Le.fresh g) (t p h (c.fresh g) y x)]
end
end L3
namespace Law
open PySem L2 L3
def top(i:Nat):Stmt:=A56.main.body.getD i (.Pass #[0,0,0,0])
abbrev QT:Stmt:=top 6
abbrev Ry:Stmt:=top 7
abbrev CB:Stmt:=inClass (top 9) 0
abbrev QH:Stmt:=inClass (top 9) 1
abbrev QD:Stmt:=inClass (top 9) 2
abbrev QE:Stmt:=inClass (top 9) 3
abbrev QC:Stmt:=inClass (top 9) 4
abbrev QB:Stmt:=inClass (top 9) 5
abbrev QA:Stmt:=inClass (top 9) 6
abbrev QG:Stmt:=inClass (top 9) 7
abbrev QF:Stmt:=inClass (top 9) 8
abbrev QS:Stmt:=top 10
abbrev QN:Stmt:=top 11
abbrev Rz:Stmt:=top 12
abbrev RS:Stmt:=top 13
abbrev RD:Stmt:=top 14
abbrev RC:Stmt:=top 15
abbrev R':Stmt:=top 16
abbrev RT:Stmt:=top 18
abbrev RU:Stmt:=top 19
abbrev Qv:Stmt:=inClass (top 22) 0
abbrev Qu:Stmt:=inClass (top 22) 1
abbrev Qx:Stmt:=inClass (top 22) 2
abbrev Qy:Stmt:=inClass (top 22) 3
abbrev Qz:Stmt:=inClass (top 22) 4
abbrev RX:Stmt:=top 23
abbrev RZ:Stmt:=top 24
abbrev RY:Stmt:=top 25
abbrev RB:Stmt:=top 26
abbrev R_:Stmt:=top 27
abbrev RP:Stmt:=top 28
abbrev QQ:Stmt:=top 29
abbrev Qt:Stmt:=top 30
abbrev QL:Stmt:=top 31
abbrev QK:Stmt:=top 32
abbrev QM:Stmt:=top 33
abbrev RO:Stmt:=top 34
abbrev RJ:Stmt:=top 35
abbrev QI:Stmt:=top 36
abbrev RQ:Stmt:=top 37
abbrev Rq:Stmt:=top 39
abbrev Rr:Stmt:=top 40
abbrev RA:Stmt:=top 42
abbrev RV:Stmt:=top 43
abbrev RW:Stmt:=top 44
abbrev RM:Stmt:=top 46
abbrev QP:Stmt:=top 47
abbrev QO:Stmt:=top 49
abbrev Rt:Stmt:=top 50
abbrev RE:Stmt:=top 51
abbrev RK:Stmt:=top 52
abbrev Rp:Stmt:=top 53
abbrev QJ:Stmt:=top 54
abbrev RF:Stmt:=top 55
abbrev Ru:Stmt:=top 56
abbrev Sb:Stmt:=top 57
abbrev Ro:Stmt:=top 59
abbrev RL:Stmt:=top 60
abbrev RH:Stmt:=top 61
abbrev RI:Stmt:=top 62
abbrev QR:Stmt:=top 63
abbrev Rx:Stmt:=top 64
abbrev Rv:Stmt:=top 65
abbrev RG:Stmt:=top 66
abbrev Rn:Stmt:=top 67
abbrev QZ:Stmt:=top 69
abbrev QW:Stmt:=top 70
abbrev Rl:Stmt:=top 71
abbrev Rm:Stmt:=top 72
abbrev Ra:Stmt:=top 73
abbrev QV:Stmt:=top 74
abbrev QY:Stmt:=top 75
abbrev Rf:Stmt:=top 76
abbrev Rj:Stmt:=top 77
abbrev Rb:Stmt:=top 78
abbrev QU:Stmt:=top 79
abbrev Rh:Stmt:=top 80
abbrev Ri:Stmt:=top 81
abbrev Rg:Stmt:=top 82
abbrev QX:Stmt:=top 83
abbrev Q_:Stmt:=top 84
abbrev Rc:Stmt:=top 85
abbrev Rk:Stmt:=top 86
abbrev Sd:Stmt:=top 87
local macro_rules | `(tactic| ac_nf)=>`(tactic| exact ⟨rfl,rfl,rfl,∅,rfl,∅,∅⟩)
def jc:af ["codes", "rows", "code", "ahead"] ["codes"] (bf QT):=by ac_nf
def vx7:af ["row", "ahead"] ["row", "ahead"] (bf Ry):=by ac_nf
def wu1:af ["self", "code", "boxes", "place"] ["self", "code", "boxes", "place"] (bf CB):=by ac_nf
def vy8:af ["self"] ["self"] (bf QH):=by ac_nf
def vy9:af ["self"] ["self"] (bf QD):=by ac_nf
def pN:af ["self", "row"] ["self"] (bf QE):=by ac_nf
def pO:af ["self", "row"] ["self"] (bf QC):=by ac_nf
def vz0:af ["self"] ["self"] (bf QB):=by ac_nf
def vz1:af ["self"] ["self"] (bf QA):=by ac_nf
def pL:af ["self", "row"] ["self"] (bf QG):=by ac_nf
def pM:af ["self", "row"] ["self"] (bf QF):=by ac_nf
def vy3:af ["row", "held"] ["row", "held"] (bf QS):=by ac_nf
def pJ:af ["row", "held", "way", "first"] ["row", "held", "way"] (bf QN):=by ac_nf
def vx6:af ["operand", "held"] ["operand", "held"] (bf Rz):=by ac_nf
def pA:af ["row", "held", "cond"] ["row", "held"] (bf RS):=by ac_nf
def ic:af ["code", "boxes", "most", "ride", "steps", "word"] ["code", "boxes", "most"] (bf RD):=by ac_nf
def ie:af ["code", "boxes", "place", "most", "ride", "steps", "word"] ["code", "boxes", "place", "most"] (bf RC):=by ac_nf
def vw8:af ["there", "there_word", "may_go_on"] ["there", "there_word", "may_go_on"] (bf R'):=by ac_nf
def pz:af ["code", "last"] ["code"] (bf RT):=by ac_nf
def vx1:af ["row", "last"] ["row", "last"] (bf RU):=by ac_nf
def vz4:af ["self", "wide", "fresh"] ["self", "wide", "fresh"] (bf Qv):=by ac_nf
def vz5:af ["self"] ["self"] (bf Qu):=by ac_nf
def vz3:af ["self", "rows"] ["self", "rows"] (bf Qx):=by ac_nf
def vz2:af ["self", "chosen", "yes", "no"] ["self", "chosen", "yes", "no"] (bf Qy):=by ac_nf
def pP:af ["self", "box", "number", "rows", "start"] ["self", "box", "number", "rows"] (bf Qz):=by ac_nf
def kU:af ["pieces", "boxes", "wide", "places", "fresh", "loom", "where"] ["pieces", "boxes", "wide", "places", "fresh"] (bf RX):=by ac_nf
def i_:af ["rows", "where", "loom", "row", "first", "second"] ["rows", "where", "loom"] (bf RZ):=by ac_nf
def f_:af ["row", "where", "loom", "yes", "no", "chosen", "unlike", "name"] ["row", "where", "loom"] (bf RY):=by ac_nf
def pE:af ["atom", "where", "loom", "box"] ["atom", "where", "loom"] (bf RB):=by ac_nf
def vw9:af ["sign", "first", "second", "loom"] ["sign", "first", "second", "loom"] (bf R_):=by ac_nf
def kY:af ["first", "second", "loom", "box", "over"] ["first", "second", "loom"] (bf RP):=by ac_nf
def lr:af ["first", "second", "loom", "box", "over"] ["first", "second", "loom"] (bf QQ):=by ac_nf
def pQ:af ["first", "second", "loom", "box"] ["first", "second", "loom"] (bf Qt):=by ac_nf
def pK:af ["first", "second", "loom", "box"] ["first", "second", "loom"] (bf QL):=by ac_nf
def vy6:af ["first", "second", "loom"] ["first", "second", "loom"] (bf QK):=by ac_nf
def vy5:af ["first", "second", "loom"] ["first", "second", "loom"] (bf QM):=by ac_nf
def kZ:af ["first", "second", "count", "loom", "both", "box"] ["first", "second", "count", "loom"] (bf RO):=by ac_nf
def k_:af ["first", "second", "loom", "apart", "box"] ["first", "second", "loom"] (bf RJ):=by ac_nf
def je:af ["first", "second", "loom", "apart", "other_way", "box"] ["first", "second", "loom"] (bf QI):=by ac_nf
def kX:af ["asked", "loom", "below", "box"] ["asked", "loom"] (bf RQ):=by ac_nf
def ig:af ["word", "stretch", "program", "source", "target", "fresh", "many", "told", "woven", "carried"] ["word", "stretch", "program", "source", "target", "fresh"] (bf Rq):=by ac_nf
def lb:af ["stretch", "program", "many", "told"] ["stretch", "program"] (bf Rr):=by ac_nf
def vx5:af ["program"] ["program"] (bf RA):=by ac_nf
def kW:af ["rows", "plain", "row"] ["rows"] (bf RV):=by ac_nf
def vx0:af ["row"] ["row"] (bf RW):=by ac_nf
def f':af ["program", "cuts", "all_pieces", "parts", "begin", "size"] ["program", "cuts"] (bf RM):=by ac_nf
def vy4:af ["program", "cuts"] ["program", "cuts"] (bf QP):=by ac_nf
def dt:af ["plan", "n", "s", "marks", "shown", "at", "move", "may_be"] ["plan", "n", "s"] (bf QO):=by ac_nf
def pG:af ["move", "marks", "n", "s", "k"] ["move", "marks", "n", "s"] (bf Rt):=by ac_nf
def vx4:af ["k"] ["k"] (bf RE):=by ac_nf
def vx2:af ["k", "marks"] ["k", "marks"] (bf RK):=by ac_nf
def ja:af ["marks", "many"] ["marks"] (bf Rp):=by ac_nf
def vy7:af ["move", "marks"] ["move", "marks"] (bf QJ):=by ac_nf
def ib:af ["plan", "marks", "sets", "move"] ["plan"] (bf RF):=by ac_nf
def vx8:af ["plan"] ["plan"] (bf Ru):=by ac_nf
def vw7:af ["plan", "costs"] ["plan", "costs"] (bf Sb):=by ac_nf
def ij:af ["program", "cuts", "s", "plan", "parts", "word", "slots", "codes"] ["program", "cuts", "s", "plan"] (bf Ro):=by ac_nf
def pB:af ["program", "cuts", "s", "plan", "prices"] ["program", "cuts", "s", "plan"] (bf RL):=by ac_nf
def h_:af ["plan", "many", "slots", "told", "move"] ["plan", "many"] (bf RH):=by ac_nf
def pC:af ["move", "slots", "many", "held"] ["move", "slots", "many"] (bf RI):=by ac_nf
def jd:af ["slots", "many", "taken", "box"] ["slots", "many"] (bf QR):=by ac_nf
def dr:af ["program", "parts", "plan", "slots", "fresh", "known", "codes", "at", "move", "standing", "k", "key"] ["program", "parts", "plan", "slots"] (bf Rx):=by ac_nf
def pF:af ["move", "stretch", "program", "source", "target", "fresh", "word"] ["move", "stretch", "program", "source", "target", "fresh"] (bf Rv):=by ac_nf
def vx3:af ["slot", "many"] ["slot", "many"] (bf RG):=by ac_nf
def vx9:af ["slot", "many"] ["slot", "many"] (bf Rn):=by ac_nf
def da:af ["_law_state", "_law_many", "_law_script", "_law_k", "_law_rest", "_law_cell", "_law_number_here", "_law_digit"] ["_law_state", "_law_many"] (bf QZ):=by ac_nf
def vy1:af ["_law_s", "_law_is_alone"] ["_law_s", "_law_is_alone"] (bf QW):=by ac_nf
def lh:af ["_law_plan_here", "_law_found", "_law_move"] ["_law_plan_here"] (bf Rl):=by ac_nf
def gb:af ["_law_state", "_law_first", "_law_last", "_law_s", "_law_is_alone", "_law_fits", "_law_m", "_law_found"] ["_law_state", "_law_first", "_law_last", "_law_s", "_law_is_alone"] (bf Rm):=by ac_nf
def lq:af ["_law_there", "_law_n", "_law_s", "_law_found", "_law_k"] ["_law_there", "_law_n", "_law_s"] (bf Ra):=by ac_nf
def vy2:af ["_law_there", "_law_move"] ["_law_there", "_law_move"] (bf QV):=by ac_nf
def cE:af ["_law_state", "_law_way_here", "_law_n", "_law_s", "_law_found", "_law_there", "_law_move", "_law_aside", "_law_turn", "_law_some", "_law_one"] ["_law_state", "_law_way_here", "_law_n", "_law_s"] (bf QY):=by ac_nf
def lp:af ["_law_state", "_law_n", "_law_s", "_law_is_left", "_law_way_here", "_law_back"] ["_law_state", "_law_n", "_law_s", "_law_is_left"] (bf Rf):=by ac_nf
def lj:af ["_law_state", "_law_is_left", "_law_most", "_law_s"] ["_law_state", "_law_is_left", "_law_most"] (bf Rj):=by ac_nf
def cD:af ["_law_state", "_law_many", "_law_letters", "_law_size_here", "_law_at", "_law_first", "_law_base", "_law_found", "_law_k", "_law_sign", "_law_name"] ["_law_state", "_law_many"] (bf Rb):=by ac_nf
def pI:af ["_law_state", "_law_names_here", "_law_wide", "_law_sort"] ["_law_state", "_law_names_here", "_law_wide"] (bf QU):=by ac_nf
def ik:af ["_law_state", "_law_names_here", "_law_wide", "_law_deep", "_law_sort", "_law_some", "_law_x", "_law_sign"] ["_law_state", "_law_names_here", "_law_wide", "_law_deep"] (bf Rh):=by ac_nf
def vy0:af ["_law_state", "_law_names_here", "_law_wide", "_law_deep", "_law_most"] ["_law_state", "_law_names_here", "_law_wide", "_law_deep", "_law_most"] (bf Ri):=by ac_nf
def ll:af ["_law_state", "_law_wide", "_law_names_here"] ["_law_state"] (bf Rg):=by ac_nf
def jb:af ["_law_state", "_law_many", "_law_n", "_law_found", "_law_turn", "_law_k"] ["_law_state", "_law_many", "_law_n"] (bf QX):=by ac_nf
def c_:af ["_law_state", "_law_most", "_law_program_here", "_law_is_left", "_law_many", "_law_n", "_law_s", "_law_plan_here", "_law_cuts_here", "_law_x", "_law_row_here"] ["_law_state", "_law_most"] (bf Q_):=by ac_nf
def pH:af ["_law_state", "_law_sort"] ["_law_state"] (bf Rc):=by ac_nf
def d3:af ["_law_code", "_law_boxes", "_law_at", "_law_many", "_law_forth", "_law_ride", "_law_gone", "_law_turn", "_law_good"] ["_law_code", "_law_boxes", "_law_at", "_law_many", "_law_forth"] (bf Rk):=by ac_nf
def cx:af ["_law_script", "_law_state", "_law_program_here", "_law_cuts_here", "_law_s", "_law_plan_here", "_law_code", "_law_most", "_law_rows_here", "_law_many", "_law_at", "_law_litter", "_law_there"] ["_law_script"] (bf Sd):=by ac_nf
@[reducible]def bH:Addr:=151
set_option genInjectivity false in
set_option genSizeOf false in
structure Cm(K:W.Frag)(mg:Str->Option Value) where
 cl:jB K bH
 m:mg "Ride" = some (.ref bH)
 cy:bD K bH "rows"
 e_:bD K bH "held"
 cQ:bD K bH "spot"
@[reducible]def bB:Addr:=261
set_option genInjectivity false in
set_option genSizeOf false in
structure Cn(K:W.Frag)(mg:Str->Option Value) where
 cl:jB K bB
 m:mg "Loom" = some (.ref bB)
 jf:bD K bB "wide"
 iZ:bD K bB "fresh"
 cy:bD K bB "rows"
 qO:bD K bB "steps"
set_option genInjectivity false in
set_option genSizeOf false in
structure Fg(K:W.Frag)(mg:Str->Option Value)(x:Str)(st:Stmt)(ps:List Str) extends FnAt K x x st ps where
 g:mg x=some (.ref a)
set_option genInjectivity false in
set_option genSizeOf false in
structure Txt(K:W.Frag)(mg:Str->Option Value) where
 kB:Fg K mg "joined" QT ["codes"]
 ni:Fg K mg "moved" Ry ["row", "ahead"]
 gN:FnAt K "__init__" "Ride.__init__" CB ["self", "code", "boxes", "place"]
 eA:FnAt K "place" "Ride.place" QH ["self"]
 eB:FnAt K "boxes" "Ride.boxes" QD ["self"]
 fg:FnAt K "forth" "Ride.forth" QE ["self"]
 fh:FnAt K "back" "Ride.back" QC ["self"]
 fT:FnAt K "at_end" "Ride.at_end" QB ["self"]
 fU:FnAt K "at_begin" "Ride.at_begin" QA ["self"]
 fR:FnAt K "may_forth" "Ride.may_forth" QG ["self"]
 fS:FnAt K "may_back" "Ride.may_back" QF ["self"]
 iF:Fg K mg "holds" QS ["row", "held"]
 kE:Fg K mg "change" QN ["row", "held", "way"]
 nh:Fg K mg "operand_value" Rz ["operand", "held"]
 mW:Fg K mg "turn_bit" RS ["row", "held"]
 m_:Fg K mg "run_forth" RD ["code", "boxes", "most"]
 ng:Fg K mg "run_back" RC ["code", "boxes", "place", "most"]
 kf:Fg K mg "word_of" R' ["there", "there_word", "may_go_on"]
 mV:Fg K mg "turned" RT ["code"]
 mU:Fg K mg "turned_row" RU ["row", "last"]
 kI:FnAt K "__init__" "Loom.__init__" Qv ["self", "wide", "fresh"]
 bA:FnAt K "fresh_box" "Loom.fresh_box" Qu ["self"]
 bM:FnAt K "put" "Loom.put" Qx ["self", "rows"]
 iG:FnAt K "put_by_choice" "Loom.put_by_choice" Qy ["self", "chosen", "yes", "no"]
 gO:FnAt K "put_unless" "Loom.put_unless" Qz ["self", "box", "number", "rows"]
 kg:Fg K mg "weave" RX ["pieces", "boxes", "wide", "places", "fresh"]
 gJ:Fg K mg "weave_rows" RZ ["rows", "where", "loom"]
 mS:Fg K mg "weave_choose" RY ["row", "where", "loom"]
 kr:Fg K mg "place_of" RB ["atom", "where", "loom"]
 mR:Fg K mg "weave_sign" R_ ["sign", "first", "second", "loom"]
 mY:Fg K mg "total" RP ["first", "second", "loom"]
 nU:Fg K mg "difference" QQ ["first", "second", "loom"]
 jm:Fg K mg "gap" Qt ["first", "second", "loom"]
 kG:Fg K mg "bits_of_both" QL ["first", "second", "loom"]
 nX:Fg K mg "bits_of_any" QK ["first", "second", "loom"]
 nW:Fg K mg "bits_of_one" QM ["first", "second", "loom"]
 kh:Fg K mg "sum_without_both" RO ["first", "second", "count", "loom"]
 mZ:Fg K mg "smaller" RJ ["first", "second", "loom"]
 nY:Fg K mg "alike" QI ["first", "second", "loom"]
 mX:Fg K mg "truth" RQ ["asked", "loom"]
 nB:Fg K mg "marking" Rq ["word", "stretch", "program", "source", "target", "fresh"]
 nA:Fg K mg "marking_steps" Rr ["stretch", "program"]
 ku:Fg K mg "pieces" RA ["program"]
 gK:Fg K mg "unrolled" RV ["rows"]
 mT:Fg K mg "unrolled_row" RW ["row"]
 ki:Fg K mg "stretches" RM ["program", "cuts"]
 nV:Fg K mg "costs" QP ["program", "cuts"]
 kC:Fg K mg "checked" QO ["plan", "n", "s"]
 nz:Fg K mg "may_do" Rt ["move", "marks", "n", "s"]
 jk:Fg K mg "set_of" RE ["k"]
 ko:Fg K mg "stands" RK ["k", "marks"]
 kx:Fg K mg "many_in" Rp ["marks"]
 kH:Fg K mg "behind" QJ ["move", "marks"]
 m9:Fg K mg "sets_along" RF ["plan"]
 nu:Fg K mg "most_marks" Ru ["plan"]
 mQ:Fg K mg "work" Sb ["plan", "costs"]
 nC:Fg K mg "made" Ro ["program", "cuts", "s", "plan"]
 kj:Fg K mg "steps" RL ["program", "cuts", "s", "plan"]
 m7:Fg K mg "slots_along" RH ["plan", "many"]
 m6:Fg K mg "slots_behind" RI ["move", "slots", "many"]
 nS:Fg K mg "free_slot" QR ["slots", "many"]
 nj:Fg K mg "move_codes" Rx ["program", "parts", "plan", "slots"]
 nk:Fg K mg "move_code" Rv ["move", "stretch", "program", "source", "target", "fresh"]
 m8:Fg K mg "shown_code" RG ["slot", "many"]
 nE:Fg K mg "left_code" Rn ["slot", "many"]
 cW:Fg K mg "_law_draw" QZ ["_law_state", "_law_many"]
 kz:Fg K mg "_law_cap" QW ["_law_s", "_law_is_alone"]
 jl:Fg K mg "_law_turned" Rl ["_law_plan_here"]
 gL:Fg K mg "_law_way" Rm ["_law_state", "_law_first", "_law_last", "_law_s", "_law_is_alone"]
 nM:Fg K mg "_law_moves" Ra ["_law_there", "_law_n", "_law_s"]
 nQ:Fg K mg "_law_behind" QV ["_law_there", "_law_move"]
 nO:Fg K mg "_law_detoured" QY ["_law_state", "_law_way_here", "_law_n", "_law_s"]
 nJ:Fg K mg "_law_plan" Rf ["_law_state", "_law_n", "_law_s", "_law_is_left"]
 nG:Fg K mg "_law_size" Rj ["_law_state", "_law_is_left", "_law_most"]
 nL:Fg K mg "_law_names" Rb ["_law_state", "_law_many"]
 nR:Fg K mg "_law_atom" QU ["_law_state", "_law_names_here", "_law_wide"]
 ky:Fg K mg "_law_row" Rh ["_law_state", "_law_names_here", "_law_wide", "_law_deep"]
 gM:Fg K mg "_law_rows" Ri ["_law_state", "_law_names_here", "_law_wide", "_law_deep", "_law_most"]
 nH:Fg K mg "_law_program" Rg ["_law_state"]
 nP:Fg K mg "_law_cuts" QX ["_law_state", "_law_many", "_law_n"]
 nN:Fg K mg "_law_making" Q_ ["_law_state", "_law_most"]
 nK:Fg K mg "_law_number" Rc ["_law_state"]
 nF:Fg K mg "_law_there_and_back" Rk ["_law_code", "_law_boxes", "_law_at", "_law_many", "_law_forth"]
 gI:Fg K mg "law" Sd ["_law_script"]
 ai:Cm K mg
 ao:Cn K mg
 gE:Mk K bH gN.a
 Jk:∃t,Binds K gN.fd ["self", "code", "boxes", "place"] [.int 0 t]
 t7:Meth K bH "place" eA.a
 t_:Meth K bH "boxes" eB.a
 t9:Meth K bH "forth" fg.a
 ua:Meth K bH "back" fh.a
 zi:Meth K bH "at_end" fT.a
 zj:Meth K bH "at_begin" fU.a
 zg:Meth K bH "may_forth" fR.a
 zh:Meth K bH "may_back" fS.a
 lD:Mk K bB kI.a
 eh:Meth K bB "fresh_box" bA.a
 gF:Meth K bB "put" bM.a
 HN:Meth K bB "put_by_choice" iG.a
 zk:Meth K bB "put_unless" gO.a
 j':∃t,mg "NUMBERS" = some (.int 4294967296 t)
 bN:∃t,mg "BELOW_NOUGHT" = some (.int 31 t)
 uE:mg "abs" = none
 gj:mg "dict" = none
 jt:mg "divmod" = none
 cL:mg "enumerate" = none
 jr:mg "int" = none
 d7:mg "isinstance" = none
 bq:mg "len" = none
 fj:mg "list" = none
 qZ:mg "max" = none
 qY:mg "min" = none
 bw:mg "range" = none
 gi:mg "reversed" = none
 gV:mg "sorted" = none
 uD:mg "str" = none
 qX:mg "sum" = none
 fA:mg "tuple" = none
 uC:mg "zip" = none
end Law
namespace Law
open PySem L2 L3 Rw
section
variable{P:Program}{w:World}{K:W.Frag}{mg:Str->Option Value}{base:Heap}(T:Txt K mg)
def qB:gu:=spec (λf G=>∃(st:Addr) (m:Int),f=[.ref st,.int m]/\cq G st/\0<m/\m<1073741824)
 (λf G d g=>∃(st:Addr) (m v:Int),f=[.ref st,.int m]/\cC st G g/\d=.int v/\0<=v/\v<m)
variable(ds:List D)(G:Gp)(R:DK)
inductive kL:Prop
 | mk (row:Row) (a x:Nat) (bs:List Int) (n:Int) (k:Nat) (_:ds=[row.d,.ref a]) (_:(row=.go x n k\/row=.aT x n k)) (_:G a=some (.lst (bs.map .int))) (_:x<bs.length) (_:R (.bl (decide (gt bs x=n))) G):kL
inductive uU:Prop
 | mk (o:oU) (a:Nat) (bs:List Int) (_:ds=[o.d,.ref a]) (_:G a=some (.lst (bs.map .int))) (_:(∀y,o=.box y->y<bs.length)) (_:R (.int (val bs o)) G):uU
inductive uM:Prop
 | mk (x i:Nat) (cs:List (Nat×Nat)) (a sz:Nat) (bs:List Int) (_:ds=[(Row.turn x i cs).d,.ref a]) (_:(Row.turn x i cs).ok sz) (_:dA sz bs) (_:G a=some (.lst (bs.map .int))) (_:∀f,uG a (df 1 bs (.turn x i cs)) G f->R .non f):uM
inductive fW:Prop
 | mk (row:Row) (a sz:Nat) (s:Int) (bs:List Int) (_:ds=[row.d,.ref a,.int s]) (_:(s=1\/s=-1)) (_:row.ok sz) (_:dA sz bs) (_:G a=some (.lst (bs.map .int))) (_:∀f,uG a (df s bs row) G f->R .non f):fW
inductive oz:Prop
 | mk (p f g:Addr) (rs:List Row) (bs:List Int) (s:Nat) (_:ds=[.ref p]) (_:aX bH G p f g rs bs s) (_:R (.bl (decide (s=rs.length))) G):oz
inductive oA:Prop
 | mk (p f g:Addr) (rs:List Row) (bs:List Int) (s:Nat) (_:ds=[.ref p]) (_:aX bH G p f g rs bs s) (_:R (.bl (decide (s=0))) G):oA
inductive jw:Prop
 | mk (p f g:Addr) (rs:List Row) (bs:List Int) (s:Nat) (_:ds=[.ref p]) (_:aX bH G p f g rs bs s) (_:R (.int (s:Int)) G):jw
inductive jx:Prop
 | mk (p f g:Addr) (rs:List Row) (bs:List Int) (s:Nat) (_:ds=[.ref p]) (_:aX bH G p f g rs bs s) (_:∀q,G q=none->R (.ref q) (aG G q (.lst (bs.map .int)))):jx
inductive ot:Prop
 | mk (p f g:Addr) (rs:List Row) (bs:List Int) (s sz:Nat) (_:ds=[.ref p]) (_:aX bH G p f g rs bs s) (_:i7 sz rs bs s) (_:R (.bl (bQ rs bs s)) G):ot
inductive ou:Prop
 | mk (p f g:Addr) (rs:List Row) (bs:List Int) (s sz:Nat) (_:ds=[.ref p]) (_:aX bH G p f g rs bs s) (_:i7 sz rs bs s) (_:R (.bl (cF rs bs s)) G):ou
inductive ow:Prop
 | mk (p h g:Addr) (rs:List Row) (bs:List Int) (s sz:Nat) (_:ds=[.ref p]) (_:aX bH G p h g rs bs s) (_:i7 sz rs bs s) (_:∀f,(bQ rs bs s=false->f=G)->(bQ rs bs s=true->aX bH f p h g rs (cP rs bs s).2 (cP rs bs s).1/\∀b,b≠p->b≠g->f b=G b)->R (.bl (bQ rs bs s)) f):ow
inductive ox:Prop
 | mk (p h g:Addr) (rs:List Row) (bs:List Int) (s sz:Nat) (_:ds=[.ref p]) (_:aX bH G p h g rs bs s) (_:i7 sz rs bs s) (_:∀f,(cF rs bs s=false->f=G)->(cF rs bs s=true->aX bH f p h g rs (dF rs bs s).2 (dF rs bs s).1/\∀b,b≠p->b≠g->f b=G b)->R (.bl (cF rs bs s)) f):ox
inductive kM:Prop
 | mk (p:Addr) (j:D) (i bx:Addr) (rs:List Row) (bs:List Int) (s:Nat) (_:ds=[.ref p,.tup [j,.ref i],.ref bx,.int (s:Int)]) (_:G p=some (.ins bH [])) (_:G i=some (.lst (rs.map Row.d))) (_:G bx=some (.lst (bs.map .int))) (_:∀g h f,G g=none->G h=none->aX bH f p g h rs bs s->(∀b o,b≠p->G b=some o->f b=some o)->R .non f):kM
def dZ{G:Gp}{st:Addr}{m:Int}{q:DK}(h:cq G st)(j:0<m)(h1:m<1073741824)(k:∀(v:Int) (f:Gp),cC st G f->0<=v->v<m->q (.int v) f): ∃R,qB [.ref st,.int m] G R/\∀d f,R d f->q d f:=v94 ⟨st,m,rfl,h,j,h1⟩ λd f ⟨l,n,v,e,a,ed,i,g⟩=>by cases e;subst ed;exact k v f a i g
def So{G:Gp}{p t bx:Addr}{rs:List Row}{bs:List Int}{s:Nat}{x:D}{q:Gp->Prop}(u:G p=none)(A:G t=some (.lst (rs.map Row.d)))(y:G bx=some (.lst (bs.map .int))) (k:∀g i f,G g=none->G i=none->aX bH f p g i rs bs s->ax G f->q f):∃R,kM [.ref p,.tup [x,.ref t],.ref bx,.int (s:Int)] (aG G p (.ins bH [])) R/\∀d f,R d f->d=.non/\q f:=by
 have j:ax G (aG G p (.ins bH [])):=ax.refl.new u;exact jF (post:=λd f=>d=.non/\∃g i,G g=none/\G i=none/\aX bH f p g i rs bs s/\ax G f)
   (λR h=>#[p,x,t,bx,rs,bs,s,rfl,aC,j.kp _ _ A,j.kp _ _ y,λg i f r n m l=>h _ _ #[rfl,g,i,j.none r,j.none n,m,#[λb o e=>l b o (aP e u) (j.kp _ _ e)]]]) λd f ⟨e,g,i,r,n,m,l⟩=>#[e,k g i f r n m l]
inductive l9(a b c d:Prop):Prop
 | mk:a->b->c->d->l9 a b c d
inductive LA(a b c d e:Prop):Prop
 | mk:a->b->c->d->e->LA a b c d e
inductive yK(a b c d e f:Prop):Prop
 | mk:a->b->c->d->e->f->yK a b c d e f
inductive DT(a b c d e f g:Prop):Prop
 | mk:a->b->c->d->e->f->g->DT a b c d e f g
inductive Ai8(a b c d e f g h:Prop):Prop
 | mk:a->b->c->d->e->f->g->h->Ai8 a b c d e f g h
inductive OR(a b c d e f g h i:Prop):Prop
 | mk:a->b->c->d->e->f->g->h->i->OR a b c d e f g h i
inductive LD(a b c d e f g h i j:Prop):Prop
 | mk:a->b->c->d->e->f->g->h->i->j->LD a b c d e f g h i j
inductive LC(a b c d e f g h i j k l:Prop):Prop
 | mk:a->b->c->d->e->f->g->h->i->j->k->l->LC a b c d e f g h i j k l
inductive LB(a b c d e f g h i j k l m:Prop):Prop
 | mk:a->b->c->d->e->f->g->h->i->j->k->l->m->LB a b c d e f g h i j k l m
inductive Cr(a b c d e f g h i j k l m n:Prop):Prop
 | mk:a->b->c->d->e->f->g->h->i->j->k->l->m->n->Cr a b c d e f g h i j k l m n
inductive Xr{a b:Type}(p:a->b->Prop):Prop
 | mk (A B) (_:p A B):Xr p
inductive lK{a b c:Type}(p:a->b->c->Prop):Prop
 | mk (A B C) (_:p A B C):lK p
inductive sI{a b c d:Type}(p:a->b->c->d->Prop):Prop
 | mk (A B C D) (_:p A B C D):sI p
inductive DG{a b c d e:Type}(p:a->b->c->d->e->Prop):Prop
 | mk (A B C D E) (_:p A B C D E):DG p
inductive Xq{a b c d e f:Type}(p:a->b->c->d->e->f->Prop):Prop
 | mk (A B C D E F) (_:p A B C D E F):Xq p
inductive Xi7{a b c d e f g:Type}(p:a->b->c->d->e->f->g->Prop):Prop
 | mk (A B C D E F G) (_:p A B C D E F G):Xi7 p
inductive Jv{a b c d e f g h i j:Type}(p:a->b->c->d->e->f->g->h->i->j->Prop):Prop
 | mk (A B C D E F G H I J) (_:p A B C D E F G H I J):Jv p
inductive Ju{a b c d e f g h i j k l m:Type}(p:a->b->c->d->e->f->g->h->i->j->k->l->m->Prop):Prop
 | mk (A B C D E F G H I J K L M) (_:p A B C D E F G H I J K L M):Ju p
def bS{S:gu}{ds:List D}{G:Gp}{q:DK}(h:S ds G q):∃R,S ds G R/\∀d f,R d f->q d f:=⟨q,h,λ_ _ z=>z⟩
inductive kK:Prop
 | mk (a c:Bool) (w:Str) (_:ds=[.bl a,.str w,.bl c]) (_:R (.str (if a=true then w else if c=true then "tired" else "torn")) G):kK
inductive uS:Prop
 | mk (h:D) (g bx:Addr) (rs:List Row) (bs:List Int) (most sz:Nat) (_:ds=[.tup [h,.ref g],.ref bx,.int (most:Int)]) (_:G g=some (.lst (rs.map Row.d))) (_:G bx=some (.lst (bs.map .int))) (_:i7 sz rs bs 0) (_:Pairs rs) (_:∀q f,G q=none->f q=some (.lst ((rn true rs most 0 bs).2.2.map .int))->ax G f->R (outD true rs (rn true rs most 0 bs) q) f):uS
inductive vy:Prop
 | mk (p:Addr) (W fr:Nat) (_:ds=[.ref p,.int (W:Int),.int (fr:Int)]) (_:G p=some (.ins bB [])) (_:∀rp f,G rp=none->aq bB f p rp W fr [] 0->(∀b o,b≠p->G b=some o->f b=some o)->R .non f):vy
inductive dR:Prop
 | mk (p rp:Addr) (W fr:Nat) (f:List Row) (st:Nat) (_:ds=[.ref p]) (_:aq bB G p rp W fr f st) (_:∀g,aq bB g p rp W (fr+1) f st->cA p rp G g->R (.int (fr:Int)) g):dR
inductive dQ:Prop
 | mk (p rp q:Addr) (W fr:Nat) (f new:List Row) (st:Nat) (_:ds=[.ref p,.ref q]) (_:aq bB G p rp W fr f st) (_:G q=some (.lst (new.map Row.d))) (_:q≠rp) (_:f.length<=9000) (_:new.length<=1000) (_:∀g,aq bB g p rp W fr (f++new) (st+new.length)->cA p rp G g->R .non g):dQ
inductive eD(h:Nat)(xs:Nat->Nat->List D)(bx:Nat->Nat)(fn:Nat->Nat)(nw:Nat->Nat->Nat->Nat->List Row)(ds:List D)(G:Gp)(R:DK):Prop
 | mk (p rp:Addr) (W fr x y:Nat) (f:List Row) (st:Nat) (_:ds=xs x y++[.ref p]) (_:aq bB G p rp W fr f st) (_:W<=16) (_:f.length+2*h<=4100) (_:∀g,aq bB g p rp W (fn fr) (f++nw W x y fr) (st+(nw W x y fr).length)->cA p rp G g->R (.int (bx fr:Int)) g):eD h xs bx fn nw ds G R
def xy(x y:Nat):List D:=[.int (x:Int),.int (y:Int)]
def Zs:gu:=eD 20 xy (λf=>f) (λf=>f+2) λW x y f=>gq W x y f "+"
def Zo:gu:=eD 20 xy (λf=>f) (λf=>f+2) λW x y f=>gq W x y f "-"
def LX:gu:=eD 0 xy (λf=>f) (λf=>f+1) λ_ x y f=>[.add f (.box x),.take f (.box y)]
def Qa:gu:=eD 0 xy (λf=>f) (λf=>f+1) λW x y f=>cM f x y W
def Zm:gu:=eD 20 xy (λf=>f+1) (λf=>f+2) λW x y f=>gq W x y f "|"
def Zn:gu:=eD 20 xy (λf=>f+1) (λf=>f+2) λW x y f=>gq W x y f "^"
inductive rj:Prop
 | mk (n:Nat) (_:n<=2) (_:eD 19 (λx y=>[.int (x:Int),.int (y:Int),.int (n:Int)]) (λfr=>fr+1) (λfr=>fr+2) (λW x y fr=>cM fr x y W++([.add (fr+1) (.box x),.add (fr+1) (.box y)]++D6 n (.take (fr+1) (.box fr)))) ds G R):rj
def Zr:gu:=eD 20 xy (λf=>f+1) (λf=>f+2) λW x y f=>gq W x y f "<"
def Zl:gu:=eD 20 xy (λf=>f+2) (λf=>f+3) λW x y f=>gq W x y f "="
inductive uJ:Prop
 | mk (o:Str) (_:o∈L3.signs) (_:eD 21 (λx y=>[.str o,.int (x:Int),.int (y:Int)]) (λfr=>AW fr o) (λfr=>my fr o) (λW x y fr=>gq W x y fr o) ds G R):uJ
inductive oo:Prop
 | mk (p rp h:Addr) (W fr:Nat) (f:List Row) (st:Nat) (bs:List Str) (pl:List Nat) (a:l0) (_:ds=[aD a,.ref h,.ref p]) (_:aq bB G p rp W fr f st) (_:G h=some (.bI (bC bs pl))) (_:pl.length=bs.length) (_:jN W bs a) (_:f.length<=4100) (_:∀g,aq bB g p rp W (a_ fr a) (f++di fr a) (st+(di fr a).length)->cA p rp G g->R (.int (fo bs pl fr a:Int)) g):oo
inductive rK:Prop
 | mk (p rp q:Addr) (W fr x:Nat) (n:Int) (f new:List Row) (st:Nat) (_:ds=[.ref p,.int (x:Int),.int n,.ref q]) (_:aq bB G p rp W fr f st) (_:G q=some (.lst (new.map Row.d))) (_:q≠rp) (_:f.length<=9000) (_:new.length<=1000) (_:∀g,aq bB g p rp W fr (f++(.go x n (f.length+new.length+1)::(new++[.aT x n f.length]))) st->cA p rp G g->R .non g):rK
inductive vx:Prop
 | mk (p rp h g:Addr) (W fr ch:Nat) (f ys ns:List Row) (st:Nat) (_:ds=[.ref p,.int (ch:Int),.ref h,.ref g]) (_:aq bB G p rp W fr f st) (_:G h=some (.lst (ys.map Row.d))) (_:G g=some (.lst (ns.map Row.d))) (_:h≠rp) (_:g≠rp) (_:f.length<=4100) (_:ys.length<=10) (_:ns.length<=10) (_:∀i,aq bB i p rp W fr (f++sH f.length ch ys ns) (st+(ys.length+3))->cA p rp G i->R .non i):vx
inductive uO:Prop
 | mk (p rp:Addr) (W fr x:Nat) (f:List Row) (st:Nat) (_:ds=[.int (x:Int),.ref p]) (_:aq bB G p rp W fr f st) (_:f.length<=4100) (_:∀g,aq bB g p rp W (fr+2) (f++[.take fr (.box x),.turn (fr+1) 0 [(fr,31)]]) (st+2)->cA p rp G g->R (.int ((fr+1:Nat):Int)) g):uO
inductive fB(dp:Nat)(ds:List D)(G:Gp)(R:DK):Prop
 | mk (d:D) (p rp g:Addr) (W fr:Nat) (bs:List Str) (pl:List Nat) (f:List Row) (st:Nat) (rs:List av) (_:ds=[d,.ref g,.ref p]) (_:aq bB G p rp W fr f st) (_:G g=some (.bI (bC bs pl))) (_:tP G d=some (bY rs)) (_:d≠.ref rp) (_:pl.length=bs.length) (_:bs.length<=6) (_:bs.Nodup) (_:d5 W bs rs) (_:fO rs) (_:bc rs<dp) (_:f.length+22*bZ rs<=3960) (_:W<=16) (_:∀h,aq bB h p rp W (bp W bs rs f.length pl fr).2.2.1 (f++(bp W bs rs f.length pl fr).1) (st+(bp W bs rs f.length pl fr).2.2.2)->h g=some (.bI (bC bs (bp W bs rs f.length pl fr).2.1))->(∀b o,b≠p->b≠rp->b≠g->G b=some o->h b=some o)->R .non h):fB dp ds G R
def Zu:gu:=fB 8
def xd3:n<*T.gJ.1<*fB 0:=Mt (by rintro ds G R ⟨_,_,_,_,_,_,_,_,_,_,_,_,_,_,_,_,_,_,_,_,_,h,_⟩;omega)
inductive lL(dp:Nat)(ds:List D)(G:Gp)(R:DK):Prop
 | mk (p rp g:Addr) (W fr:Nat) (bs:List Str) (pl:List Nat) (f:List Row) (st:Nat) (c:l0) (ys ns:List av) (_:ds=[gD (.fz c ys ns),.ref g,.ref p]) (_:aq bB G p rp W fr f st) (_:G g=some (.bI (bC bs pl))) (_:pl.length=bs.length) (_:bs.length<=6) (_:bs.Nodup) (_:sX W bs (.fz c ys ns)) (_:wz (.fz c ys ns)) (_:bc ys<dp) (_:bc ns<dp) (_:f.length+22*pe (.fz c ys ns)<=3960) (_:W<=16) (_:∀h,aq bB h p rp W (cB W bs (.fz c ys ns) f.length pl fr).2.2.1 (f++(cB W bs (.fz c ys ns) f.length pl fr).1) (st+(cB W bs (.fz c ys ns) f.length pl fr).2.2.2)->h g=some (.bI (bC bs (cB W bs (.fz c ys ns) f.length pl fr).2.1))->(∀b o,b≠p->b≠rp->b≠g->G b=some o->h b=some o)->R .non h):lL dp ds G R
inductive rh:Prop
 | mk (pc i:Addr) (W fr:Nat) (bs:List Str) (pl:List Nat) (rs:List av) (_:ds=[.ref pc,.tup (bs.map .str),.int (W:Int),.ref i,.int (fr:Int)]) (_:G pc=some (.lst (bY rs))) (_:G i=some (.lst (pl.map nD))) (_:pl.length=bs.length) (_:bs.length<=6) (_:bs.Nodup) (_:d5 W bs rs) (_:fO rs) (_:bc rs<=6) (_:22*bZ rs<=3960) (_:W<=16) (_:∀(g f:Addr) (h:Gp),G g=none->G f=none->g≠f->h g=some (.lst ((bp W bs rs 0 pl fr).1.map Row.d))->h f=some (.lst ((bp W bs rs 0 pl fr).2.1.map nD))->ax G h->R (.tup [.ref g,.ref f,.int ((bp W bs rs 0 pl fr).2.2.1:Int),.int ((bp W bs rs 0 pl fr).2.2.2:Int)]) h):rh
def sS{G:Gp}{p rp:Addr}{W fr st:Nat}{f:List Row}{q:DK}(h:aq bB G p rp W fr f st)(k:∀g,aq bB g p rp W (fr+1) f st->cA p rp G g->q (.int (fr:Int)) g):∃R,dR [.ref p] G R/\∀d g,R d g->q d g:=bS ⟨p,rp,W,fr,f,st,rfl,h,k⟩
def xj6{G:Gp}{p rp i:Addr}{W fr st:Nat}{f new:List Row}{q:DK}(h:aq bB G p rp W fr f st)(j:G i=some (.lst (new.map Row.d)))(l:i≠rp)(h1:f.length<=9000)(m:new.length<=1000)(k:∀g,aq bB g p rp W fr (f++new) (st+new.length)->cA p rp G g->q .non g):∃R,dQ [.ref p,.ref i] G R/\∀d g,R d g->q d g:=bS ⟨p,rp,i,W,fr,f,new,st,rfl,h,j,l,h1,m,k⟩
def tF{i:Nat}{xs:Nat->Nat->List D}{bx fn:Nat->Nat}{nw:Nat->Nat->Nat->Nat->List Row}{G:Gp}{p rp:Addr}{W fr x y st:Nat}{f:List Row}{q:DK}(h:aq bB G p rp W fr f st)(j:W<=16)(h1:f.length+2*i<=4100)(k:∀g,aq bB g p rp W (fn fr) (f++nw W x y fr) (st+(nw W x y fr).length)->cA p rp G g->q (.int (bx fr:Int)) g):∃R,eD i xs bx fn nw (xs x y++[.ref p]) G R/\∀d g,R d g->q d g:=bS ⟨p,rp,W,fr,x,y,f,st,rfl,h,j,h1,k⟩
def MC{G:Gp}{p rp i:Addr}{W fr st:Nat}{f:List Row}{bs:List Str}{pl:List Nat}{a:l0}{q:DK}(h:aq bB G p rp W fr f st)(hw:G i=some (.bI (bC bs pl)))(j:pl.length=bs.length)(l:jN W bs a)(h1:f.length<=4100)(k:∀g,aq bB g p rp W (a_ fr a) (f++di fr a) (st+(di fr a).length)->cA p rp G g->q (.int (fo bs pl fr a:Int)) g):∃R,oo [aD a,.ref i,.ref p] G R/\∀d g,R d g->q d g:=bS ⟨p,rp,i,W,fr,f,st,bs,pl,a,rfl,h,hw,j,l,h1,k⟩
def xm{G:Gp}{p rp h:Addr}{W fr st:Nat}{f new:List Row}{q:DK}(A:aq bB G p rp W fr f st)(i:G h=none)(h1:f.length<=9000)(j:new.length<=1000)(k:∀g,aq bB g p rp W fr (f++new) (st+new.length)->cA p rp G g->q .non g):∃R,dQ [.ref p,.ref h] (aG G h (.lst (new.map Row.d))) R/\∀d g,R d g->q d g:=xj6 (A.new i) aC (D2 (aP A.ro i)) h1 j λg m l=>k g m ((cA.refl.new i).trans l)
def w31(h1:0<=x)(g:x<26):dg (F6 "abcdefghijklmnopqrstuvwxyz").cps.toList x=some (97+x.toNat):=by
 let#[n,rfl]:=Int.eq_ofNat_of_zero_le h1;have f:n<26:=()
 have key:∀n:Fin 26,(F6 "abcdefghijklmnopqrstuvwxyz").cps.toList[n.val]?=some (97+n.val):=∅;have e:=vk4 (xs:=(F6 "abcdefghijklmnopqrstuvwxyz").cps.toList) (i:=(n:Int)) h1 (by exact g);rw[e,<- B6];exact key #[n,f]
def x98{G:Gp}(f:tP G d=some xs)(n:l[i]?=some (some d))(k:∀ok:Gp->Prop,(∀j,tP j d=some xs->ok j)->forL ok g tb E xs l G):uy (xg (dP i)) g tb E l G:=by
 unfold uy xg dP;rw[n];cases d with
 | tup ds =>
  have e:ds=xs:=by simpa[tP] using f
  subst e;exact k _ λ_ _=>trivial
 | ref a =>have m:bt (G a)=some xs:=f;dsimp only;rw[m];exact k _ λj h=>h| _=>exact absurd f (by simp[tP])
def uy4:bp W bs (q::l) a pl fr=((cB W bs q a pl fr).1++(bp W bs l (a+(cB W bs q a pl fr).1.length) (cB W bs q a pl fr).2.1 (cB W bs q a pl fr).2.2.1).1,(bp W bs l (a+(cB W bs q a pl fr).1.length) (cB W bs q a pl fr).2.1 (cB W bs q a pl fr).2.2.1).2.1,(bp W bs l (a+(cB W bs q a pl fr).1.length) (cB W bs q a pl fr).2.1 (cB W bs q a pl fr).2.2.1).2.2.1,(cB W bs q a pl fr).2.2.2+(bp W bs l (a+(cB W bs q a pl fr).1.length) (cB W bs q a pl fr).2.1 (cB W bs q a pl fr).2.2.1).2.2.2):=rfl
theorem uy2:∀(l:List av) {r:av} {a:Nat} {pl:List Nat} {fr:Nat},bp W bs (l++[r]) a pl fr=((bp W bs l a pl fr).1++(cB W bs r (a+(bp W bs l a pl fr).1.length) (bp W bs l a pl fr).2.1 (bp W bs l a pl fr).2.2.1).1,(cB W bs r (a+(bp W bs l a pl fr).1.length) (bp W bs l a pl fr).2.1 (bp W bs l a pl fr).2.2.1).2.1,(cB W bs r (a+(bp W bs l a pl fr).1.length) (bp W bs l a pl fr).2.1 (bp W bs l a pl fr).2.2.1).2.2.1,(bp W bs l a pl fr).2.2.2+(cB W bs r (a+(bp W bs l a pl fr).1.length) (bp W bs l a pl fr).2.1 (bp W bs l a pl fr).2.2.1).2.2.2)
 | [],r,a,pl,fr=>by
  show((cB W bs r a pl fr).1++[],(cB W bs r a pl fr).2.1,(cB W bs r a pl fr).2.2.1,(cB W bs r a pl fr).2.2.2+0)=([]++(cB W bs r (a+0) pl fr).1,(cB W bs r (a+0) pl fr).2.1,(cB W bs r (a+0) pl fr).2.2.1,0+(cB W bs r (a+0) pl fr).2.2.2)
  rw[E5,I0,C77,C77,U6]
 | q::l,r,a,pl,fr=>by rw[J7,uy4,uy4,uy2 l];simp only[B4,D1,L7]
def iW:List Str->List Nat->List Nat->List Str
 | b::h,p::g,q::f=>if p=q then iW h g f else b::iW h g f| _,_,_=>[]
def asg(bs:List Str):List Str->Nat->List Nat->List Nat
 | [],_,g=>g| n::h,f,g=>asg bs h (f+1) (eG bs g n f)
theorem ER:∀{bs:List Str} {ps qs:List Nat} {x:Str},x∈iW bs ps qs->x∈bs
 | [],ps,qs,x,h=>by cases ps <;> cases qs <;> cases h
 | b::bs,[],qs,x,h=>by cases qs <;> cases h
 | b::bs,p::ps,[],x,h=>by cases h
 | b::bs,p::ps,q::qs,x,h=>by
  unfold iW at h;split at h
  .exact C2 _ (ER h)
  .rcases D4.mp h with e|h
   .rw[e];exact C6
   .exact C2 _ (ER h)
def vn8(h:b≠n):eG (b::bs) (p::pl) n f=p::eG bs pl n f:=by unfold eG;rw[ip,if_neg h,P5];rfl
def wq(h:b≠n):gtB (b::bs) (p::pl) n=gtB bs pl n:=by unfold gtB;rw[ip,if_neg h,P5];rfl
def AL:gtB (b::bs) (p::pl) b=p:=by unfold gtB;rw[ip,if_pos rfl];rfl
theorem TH:∀{ns:List Str} {p f:Nat} {pl:List Nat},b∉ns->asg (b::bs) ns f (p::pl)=p::asg bs ns f pl
 | [],_,_,_,_=>rfl| n::ns,p,f,pl,h=>by have g:b≠n:=λe=>h (by rw[e];exact C6);show asg (b::bs) ns (f+1) (eG (b::bs) (p::pl) n f)=p::asg bs ns (f+1) (eG bs pl n f);rw[vn8 g,TH λe=>h (C2 _ e)]
theorem Ta:∀{bs:List Str} {ps qs:List Nat} {f:Nat},bs.Nodup->ps.length=bs.length->qs.length=bs.length->asg bs (iW bs ps qs) f ps=gs f ps qs
 | [],ps,qs,f,_,g,h=>by have m:ps=[]:=E4 g;subst m;cases qs <;> rfl
 | b::bs,[],qs,f,_,g,_=>by cases g
 | b::bs,p::ps,[],f,_,_,h=>by cases h
 | b::bs,p::ps,q::qs,f,l,g,h=>by
  let#[k,j]:=N0.mp l;have g:ps.length=bs.length:=O4 g;have h:qs.length=bs.length:=O4 h;have i:b∉iW bs ps qs:=λe=>k (ER e);unfold iW gs;split
  .rw[TH i,Ta j g h]
  .show asg (b::bs) (iW bs ps qs) (f+1) (eG (b::bs) (p::ps) b f)=_;have e:eG (b::bs) (p::ps) b f=f::ps:=by unfold eG;rw[ip,if_pos rfl];rfl
   rw[e,TH i,Ta j g h]
theorem Ue:∀{bs:List Str} {ps qs:List Nat} {f:Nat},bs.Nodup->ps.length=bs.length->qs.length=bs.length -> ((iW bs ps qs).map λn=>Row.add (gtB bs (gs f ps qs) n) (.box (gtB bs ps n)))=iX f (uY ps qs)/\((iW bs ps qs).map λn=>Row.add (gtB bs (gs f ps qs) n) (.box (gtB bs qs n)))=iX f (uN ps qs)
 | [],ps,qs,f,_,j,i=>by have m:ps=[]:=E4 j;have l:qs=[]:=E4 i;subst m l;exact#[rfl,rfl]| b::bs,[],qs,f,_,j,_=>by cases j
 | b::bs,p::ps,[],f,_,_,i=>by cases i
 | b::bs,p::ps,q::qs,f,x,j,i=>by
  let#[u,t]:=N0.mp x;have j:ps.length=bs.length:=O4 j;have i:qs.length=bs.length:=O4 i;have h:∀n∈iW bs ps qs,b≠n:=λn g e=>u (by rw[e];exact ER g);by_cases e:p=q
  .have k:=Ue (f:=f) t j i;have m:iW (b::bs) (p::ps) (q::qs)=iW bs ps qs:=by rw[iW,if_pos e]
   have l:gs f (p::ps) (q::qs)=p::gs f ps qs:=by rw[gs,if_pos e]
   have r:uY (p::ps) (q::qs)=uY ps qs:=by rw[uY,if_pos e]
   have o:uN (p::ps) (q::qs)=uN ps qs:=by rw[uN,if_pos e]
   rw[m,l,r,o,<- k.1,<- k.2];exact#[M5 λn g=>by rw[wq (h n g),wq (h n g)],M5 λn g=>by rw[wq (h n g),wq (h n g)]]
  .have k:=Ue (f:=f+1) t j i;have m:iW (b::bs) (p::ps) (q::qs)=b::iW bs ps qs:=by rw[iW,if_neg e]
   have l:gs f (p::ps) (q::qs)=f::gs (f+1) ps qs:=by rw[gs,if_neg e]
   have r:uY (p::ps) (q::qs)=p::uY ps qs:=by rw[uY,if_neg e]
   have o:uN (p::ps) (q::qs)=q::uN ps qs:=by rw[uN,if_neg e]
   rw[m,l,r,o,C0,C0,AL,AL,AL];show(_::_=Row.add f (.box p)::iX (f+1) (uY ps qs))/\(_::_=Row.add f (.box q)::iX (f+1) (uN ps qs))
   rw[<- k.1,<- k.2];exact#[congrArg _ (M5 λn g=>by rw[wq (h n g),wq (h n g)]),congrArg _ (M5 λn g=>by rw[wq (h n g),wq (h n g)])]
theorem v80:∀{bs:List Str} {ps qs:List Nat},ps.length=bs.length->qs.length=bs.length->(iW bs ps qs).length=(uY ps qs).length
 | [],ps,qs,g,f=>by have j:ps=[]:=E4 g;have i:qs=[]:=E4 f;subst j i;rfl| b::bs,[],qs,g,_=>by cases g
 | b::bs,p::ps,[],_,f=>by cases f
 | b::bs,p::ps,q::qs,g,f=>by
  have h:=v80 (bs:=bs) (ps:=ps) (qs:=qs) (O4 g) (O4 f);unfold iW uY;split
  .exact h
  .rw[C1,C1,h]
def vd5:∀{bs:List Str} {pl ps:List Nat},bs.Nodup->pl.length=bs.length->ps.length=bs.length->CL (bC bs pl) (bC bs ps)=bC bs ps:=by
 have key:∀(f g:List Str) (k i j:List Nat),(f++g).Nodup->k.length=f.length->i.length=g.length->j.length=g.length->CL (bC (f++g) (k++i)) (bC g j)=bC (f++g) (k++j):=by
  intro f g;induction g generalizing f with
  | nil =>intro k i j _ _ l o;have A:i=[]:=E4 l;have y:j=[]:=E4 o;subst A y;rfl| cons b g r =>
   intro k i j m n l o;cases i with
   | nil=>cases l
   | cons p i =>
    cases j with
    | nil=>cases o
    | cons q j =>
     have u:b∈f++b::g:=by simp
     have st:mh (bC (f++b::g) (k++p::i)) (.inr b) (.int (q:Int))=bC (f++b::g) (k++q::i):=by
      rw[Ur u m (by rw[B4,B4,n,l])];have B:ip (f++b::g) b=f.length:=by
       have t:b∉f:=λh=>(Y9.mp m).2.2 b h b C6 rfl;clear r m n l o u;induction f with
       | nil=>show(if b=b then 0 else _)=0;rw[if_pos rfl]| cons a f r =>have x:¬ a=b:=λe=>t (by rw[e];exact C6);show(if a=b then 0 else 1+ip (f++b::g) b)=_;rw[if_neg x,r λh=>t (C2 _ h),C1];omega
      unfold eG;rw[B,<- n,List.set_append_right _ _ (B9 _),Ea];rfl
     show CL (mh (bC (f++b::g) (k++p::i)) (.inr b) (.int (q:Int))) (bC g j)=_;rw[st];have:=r (f++[b]) (k++[q]) i j (by simpa using m) (by simp[n]) (O4 l) (O4 o);simpa using this
 intro bs pl ps m n l;have:=key [] bs [] pl ps m rfl n l;simpa using this
theorem v20:∀{bs:List Str} {ps:List Nat},ps.length=bs.length->(bC bs ps).map (λf=>kD f.1)=bs.map D.str
 | [],ps,_=>by cases ps <;> rfl
 | b::bs,[],h=>by cases h
 | b::bs,p::ps,h=>by show D.str b::(bC bs ps).map (λf=>kD f.1)=_;rw[v20 (O4 h)];rfl
theorem uk4:∀{bs:List Str} {ps qs:List Nat},bs.Nodup->ps.length=bs.length->qs.length=bs.length->bs.filter (λn=>!decide (gtB bs ps n=gtB bs qs n))=iW bs ps qs
 | [],ps,qs,_,_,_=>by cases ps <;> cases qs <;> rfl
 | b::bs,[],qs,_,g,_=>by cases g
 | b::bs,p::ps,[],_,_,f=>by cases f
 | b::bs,p::ps,q::qs,m,g,f=>by
  let#[k,j]:=N0.mp m;have l:=uk4 j (show ps.length=bs.length from O4 g) (show qs.length=bs.length from O4 f);have h:bs.filter (λn=>!decide (gtB (b::bs) (p::ps) n=gtB (b::bs) (q::qs) n))=iW bs ps qs:=by rw[<- l];apply B93 λn o=>?_;have i:b≠n:=λe=>k (by rw[e];exact o);rw[wq i,wq i]
  by_cases e:p=q
  .rw[B14 (by rw[AL,AL];simp[e]),h,iW,if_pos e]
  .rw[B15 (by rw[AL,AL];simp[e]),h,iW,if_neg e]
theorem v27:∀{u:List Str} {x:Str} {f:Nat} {pl:List Nat},asg bs (u++[x]) f pl=eG bs (asg bs u f pl) x (f+u.length)
 | [],x,f,pl=>rfl| n::u,x,f,pl=>by show asg bs (u++[x]) (f+1) (eG bs pl n f)=eG bs (asg bs u (f+1) (eG bs pl n f)) x (f+(u.length+1));rw[v27,show f+1+u.length=f+(u.length+1) by omega]
theorem vk5:∀{u:List Str} {f:Nat} {pl:List Nat},(asg bs u f pl).length=pl.length
 | [],f,pl=>rfl| n::u,f,pl=>by show(asg bs u (f+1) (eG bs pl n f)).length=_;rw[vk5];unfold eG;rw[J9]
def iQ{G:Gp}(h:f s G):Go f s G:=h
inductive uK:Prop
 | mk (row:Row) (m:Nat) (_:ds=[row.d,.int ((m:Int)-1)]) (_:(∀x n k,(row=.go x n k\/row=.aT x n k)->k<m)) (_:R (mr m row).d G):uK
inductive uL:Prop
 | mk (h:D) (g:Addr) (rs:List Row) (_:ds=[.tup [h,.ref g]]) (_:G g=some (.lst (rs.map Row.d))) (_:Pairs rs) (_:rs.length<=4000) (_:∀q f,G q=none->f q=some (.lst ((oO rs).map Row.d))->ax G f->R (.tup [h,.ref q]) f):uL
inductive uV:Prop
 | mk (row:Row) (a:Nat) (_:ds=[row.d,.int (a:Int)]) (_:R (mv a row).d G):uV
inductive rG:Prop
 | mk (g:Addr) (cs:List dU) (_:ds=[.ref g]) (_:G g=some (.lst (cs.map dU.d))) (_:(∀c∈cs,G c.ra=some (.lst (c.rs.map Row.d))/\c.rs.length<=4000)) (_:0<cs.length) (_:cs.length<=2100) (_:∀q f,G q=none->f q=some (.lst ((uc [] (cs.map dU.rs)).map Row.d))->ax G f->R (.tup [.int (tY cs:Int),.ref q]) f):rG
inductive uT:Prop
 | mk (h:D) (g bx:Addr) (rs:List Row) (bs:List Int) (s most sz:Nat) (_:ds=[.tup [h,.ref g],.ref bx,.int (s:Int),.int (most:Int)]) (_:G g=some (.lst (rs.map Row.d))) (_:G bx=some (.lst (bs.map .int))) (_:i7 sz rs bs s) (_:Pairs rs) (_:∀q f,G q=none->f q=some (.lst ((rn false rs most s bs).2.2.map .int))->ax G f->R (outD false rs (rn false rs most s bs) q) f):uT
def add_l{G:Gp}(h1:G a=some (.lst xs))(g:G b=some (.lst ys))(f:xs.length+ys.length<=10000001)(k:∀p,G p=none->q (.ref p) (aG G p (.lst (xs++ys)))):ma (.ref a) (.ref b) G q:=by show(match G a,G b with|some (.lst xs),some (.lst ys)=>xs.length+ys.length<=sizeLine/\∀p,G p=none->q (.ref p) (aG G p (.lst (xs++ys)))|_,_=>False);rw[h1,g];exact⟨D3 f ∅,k⟩
inductive fD(dp:Nat)(ds:List D)(G:Gp)(R:DK):Prop
 | mk (rs:List av) (_:ds=[.tup (bY rs)]) (_:bc rs<dp) (_:de rs<=1000) (_:jJ rs) (_:∀(q:Addr) (f:Gp),G q=none->f q=some (.lst (bY (aW rs)))->ax G f->R (.ref q) f):fD dp ds G R
def Zt:gu:=fD 8
def xd4:n<*T.gK.1<*fD 0:=Mt (by rintro ds G R ⟨_,_,h,_⟩;omega)
inductive lM(dp:Nat)(ds:List D)(G:Gp)(R:DK):Prop
 | mk (r:av) (_:ds=[gD r]) (_:jS r<=dp) (_:qy r<=1000) (_:DD r) (_:∀(q:Addr) (f:Gp),G q=none->f q=some (.lst (bY (iL r)))->ax G f->R (.ref q) f):lM dp ds G R
inductive rB:Prop
 | mk (x y:D) (rs:List av) (_:ds=[.tup [x,y,.tup (bY rs)]]) (_:bc rs<=6) (_:de rs<=1000) (_:jJ rs) (_:∀(q:Addr) (f:Gp),G q=none->f q=some (.lst (bY (aW rs)))->ax G f->R (.ref q) f):rB
theorem qV:∀{a b:List av},jJ (a++b)↔jJ a/\jJ b
 | [],b=>by simp[jJ]| r::a,b=>by show DD r/\jJ (a++b)↔(DD r/\jJ a)/\jJ b;rw[qV,and_assoc]
def gd(ks:List Nat)(n:Nat):Prop:=ks≠[]/\(∀k∈ks,1<=k)/\ks.sum=n
def nI(ks:List Nat):List Int:=ks.map λ(k:Nat)=>(k:Int)
theorem w15:∀ks:List Nat,(nI ks).sum=((ks.sum:Nat):Int)
 | []=>rfl| k::ks=>by have:=w15 ks;show(k:Int)+(nI ks).sum=_;rw[this,M7];omega
def iC:List Nat->List av->List (List av)
 | [],_=>[]| c::f,O=>O.take c::iC f (O.drop c)
theorem uz9:∀(l:List Nat) (c:Nat) (O:List av),iC (l++[c]) O=iC l O++[(O.drop l.sum).take c]
 | [],c,O=>rfl| k::l,c,O=>by
  show O.take k::iC (l++[c]) (O.drop k)=O.take k::iC l (O.drop k)++[_]
  rw[uz9 l c,List.drop_drop,M7];rfl
theorem MJ:∀(l:List Nat) (O:List av),l.sum<=O.length->(iC l O).map J1=l
 | [],O,_=>rfl| k::l,O,h=>by rw[M7] at h;show(O.take k).length::(iC l (O.drop k)).map J1=k::l;rw[MJ l _ (by rw[X4];omega),Q0,Yy ()]
def jX(G:Gp):List Addr->List (List av)->Prop
 | [],f=>f=[]| a::as,f=>∃p t,f=p::t/\G a=some (.lst (bY p))/\jX G as t
theorem jX.kp{G f:Gp}(g:∀a o,G a=some o->f a=some o):∀{as:List Addr} {ps:List (List av)},jX G as ps->jX f as ps
 | [],_,h=>h| _::_,_,⟨p,t,e,h,r⟩=>#[p,t,e,g _ _ h,r.kp g]
theorem jX.Dm{G f:Gp}:∀{as:List Addr} {ps:List (List av)},(∀a∈as,∀o,G a=some o->f a=some o)->jX G as ps->jX f as ps
 | [],_,_,h=>h| a::_,_,g,⟨p,t,e,h,r⟩=>#[p,t,e,g a C6 _ h,r.Dm λb i=>g b (C2 _ i)]
theorem jX.snoc{G:Gp}(h1:G a=some (.lst (bY p))):∀{as:List Addr} {ps:List (List av)},jX G as ps->jX G (as++[a]) (ps++[p])
 | [],_,h=>by rw[show _=[] from h];exact#[p,[],rfl,h1,rfl]| _::_,_,⟨f,t,e,h,r⟩=>by rw[e];exact#[f,t++[p],rfl,h,r.snoc h1]
theorem jX.len{G:Gp}:∀{as:List Addr} {ps:List (List av)},jX G as ps->as.length=ps.length
 | [],_,h=>by rw[show _=[] from h];rfl| _::_,_,⟨f,t,e,h,r⟩=>by rw[e,C1,C1,r.len]
def wn3{O:List av}{a c:Nat}(h:a+c<=O.length):cutD (bY O) (some (a:Int)) (some ((a:Int)+(c:Int)))=bY ((O.drop a).take c):=by
 have g:HT.bR (bY O).length 0 (some (a:Int))=a:=by have:=xA O;simp only[HT.bR];split <;> omega
 have f:HT.bR (bY O).length (bY O).length (some ((a:Int)+(c:Int)))=a+c:=by have:=xA O;simp only[HT.bR];split <;> omega
 unfold cutD;rw[g,f,xB,xB,<- C65,<- C66,Za]
def vj3{f:Type}{xs:List f}{n:Nat}:cutD xs (some (n:Int)) none=xs.drop n:=by
 unfold cutD;rw[HT.mz,HT.lu];rcases C76 n xs.length with h|h
 .rw[Yy h,Y1 (by rw[X4];omega)]
 .rw[C05 h,B31 (B9 _),B31 h,List.take_nil]
inductive oq:Prop
 | mk (s:Nat) (b:Bool) (_:ds=[.int (s:Int),.bl b]) (_:s<=100) (_:∀f,ax G f->R (.int (fL s b:Int)) f):oq
inductive jv:Prop
 | mk (a:Addr) (w:List Pm) (_:ds=[.ref a]) (_:G a=some (.lst (w.map cH))) (_:w.length<=10000) (_:∀q f,G q=none->f q=some (.lst ((lZ w).map cH))->ax G f->R (.ref q) f):jv
inductive d8(dp:Nat)(ds:List D)(G:Gp)(R:DK):Prop
 | mk (st:Addr) (f l s:Nat) (b:Bool) (_:ds=[.ref st,.int (f:Int),.int (l:Int),.int (s:Int),.bl b]) (_:cq G st) (_:f<l) (_:l-f<=dp) (_:l<=24) (_:l-f<=fL s b) (_:s<=8) (_:∀(q:Addr) (w:List Mv) (g:Gp),cC st G g->G q=none->q≠st->g q=some (.lst (w.map mD))->oh f l s b w->w.length<=(l-f)*(l-f)->R (.ref q) g):d8 dp ds G R
def Zq:gu:=d8 26
inductive rD:Prop
 | mk (a:Addr) (m n s:Nat) (_:ds=[.ref a,.int (n:Int),.int (s:Int)]) (_:G a=some (.lst ((dX m).map .int))) (_:n<=24) (_:m<2^n) (_:∀(q:Addr) (ps:List Mv) (f:Gp),G q=none->f q=some (.lst (ps.map mD))->(∀p,p∈ps↔j_ n s m p)->ps.length<=1000->ax G f->R (.ref q) f):rD
inductive rF:Prop
 | mk (a:Addr) (m:Nat) (p:Mv) (_:ds=[.ref a,mD p]) (_:G a=some (.lst ((dX m).map .int))) (_:xS m (some p)) (_:∀(q:Addr) (f:Gp),G q=none->f q=some (.lst ((dX (xr m p.2)).map .int))->ax G f->R (.ref q) f):rF
inductive rE:Prop
 | mk (st a:Addr) (w:List Mv) (n s:Nat) (_:ds=[.ref st,.ref a,.int (n:Int),.int (s:Int)]) (_:cq G st) (_:a≠st) (_:G a=some (.lst (w.map mD))) (_:fK n s 0 w) (_:1<=n) (_:n<=24) (_:1<=s) (_:w.length<=140) (_:∀(q:Addr) (u:List Mv) (f:Gp),cC st G f->G q=none->q≠st->f q=some (.lst (u.map mD))->fK n s 0 u->fin 0 u=fin 0 w->u.length<=1000->R (.ref q) f):rE
inductive vj:Prop
 | mk (st:Addr) (n s:Nat) (b:Bool) (_:ds=[.ref st,.int (n:Int),.int (s:Int),.bl b]) (_:cq G st) (_:1<=n) (_:n<=11) (_:1<=s) (_:s<=8) (_:n<=fL s b) (_:∀(q:Addr) (w:List Pm) (f:Gp),cC st G f->G q=none->q≠st->f q=some (.lst (w.map cH))->jW n s b w->w.length<=2001->R (.ref q) f):vj
inductive vg:Prop
 | mk (st:Addr) (b:Bool) (most:Nat) (_:ds=[.ref st,.bl b,.int (most:Int)]) (_:cq G st) (_:1<=most) (_:most<=24) (_:∀(n s:Nat) (f:Gp),cC st G f->1<=n->n<=most->1<=s->s<=8->n<=fL s b->R (.tup [.int (n:Int),.int (s:Int)]) f):vg
def Qc{G:Gp}{s:Nat}{b:Bool}{q:DK}(g:s<=100)(k:∀f,ax G f->q (.int (fL s b:Int)) f):∃R,oq [.int (s:Int),.bl b] G R/\∀d f,R d f->q d f:=jF (post:=λd f=>d=.int (fL s b:Int)/\ax G f) (λR h=>#[s,b,rfl,g,λf x=>h _ _ #[rfl,x]]) λd f ⟨e,x⟩=>by subst e;exact k f x
def xj7{G:Gp}{a:Addr}{w:List Pm}{q:DK}(h:G a=some (.lst (w.map cH)))(i:w.length<=10000)(k:∀g f,G g=none->f g=some (.lst ((lZ w).map cH))->ax G f->q (.ref g) f):∃R,jv [.ref a] G R/\∀d f,R d f->q d f:=jF (post:=λd f=>∃g,d=.ref g/\G g=none/\f g=some (.lst ((lZ w).map cH))/\ax G f) (λR j=>#[a,w,rfl,h,i,λg f x y z=>j _ _ #[g,rfl,x,y,z]]) λd f ⟨g,e,x,y,z⟩=>by subst e;exact k g f x y z
def MZ{G:Gp}{a:Addr}{w:List Mv}{q:DK}(h:G a=some (.lst (w.map mD)))(i:w.length<=10000)(k:∀g f,G g=none->f g=some (.lst ((fM w).map mD))->ax G f->q (.ref g) f):∃R,jv [.ref a] G R/\∀d f,R d f->q d f:=xj7 (w:=w.map some) (by rw[EY];exact h) (by rw[B0];exact i) λg f x y z=>k g f x (by rw[TK,EY] at y;exact y) z
def LZ{G:Gp}{st:Addr}{f l s dp:Nat}{b:Bool}{q:DK}(S:cq G st)(h1:f<l)(x:l-f<=dp)(u:l<=24)(t:l-f<=fL s b)(r:s<=8)(k:∀(g:Addr) (w:List Mv) (h:Gp),cC st G h->G g=none->g≠st->h g=some (.lst (w.map mD))->oh f l s b w->w.length<=(l-f)*(l-f)->q (.ref g) h):∃R,d8 dp [.ref st,.int (f:Int),.int (l:Int),.int (s:Int),.bl b] G R/\∀d h,R d h->q d h:=jF (post:=λd h=>∃(g:Addr) (w:List Mv),d=.ref g/\cC st G h/\G g=none/\g≠st/\h g=some (.lst (w.map mD))/\oh f l s b w/\w.length<=(l-f)*(l-f)) (λR y=>#[st,f,l,s,b,rfl,S,h1,x,u,t,r,λg w h p o n m j i=>y _ _ #[g,w,rfl,p,o,n,m,j,i]]) λd h ⟨g,w,e,p,o,n,m,j,i⟩=>by subst e;exact k g w h p o n m j i
def wn9{G:Gp}{a:Addr}{m n s:Nat}{q:DK}(u:G a=some (.lst ((dX m).map .int)))(r:n<=24)(t:m<2^n)(k:∀(g:Addr) (ps:List Mv) (f:Gp),G g=none->f g=some (.lst (ps.map mD))->(∀p,p∈ps↔j_ n s m p)->ps.length<=1000->ax G f->q (.ref g) f):∃R,rD [.ref a,.int (n:Int),.int (s:Int)] G R/\∀d f,R d f->q d f:=jF (post:=λd f=>∃(g:Addr) (ps:List Mv),d=.ref g/\G g=none/\f g=some (.lst (ps.map mD))/\(∀p,p∈ps↔j_ n s m p)/\ps.length<=1000/\ax G f) (λR x=>#[a,m,n,s,rfl,u,r,t,λg ps f o l j i h=>x _ _ #[g,ps,rfl,o,l,j,i,h]]) λd f ⟨g,ps,e,o,l,j,i,h⟩=>by subst e;exact k g ps f o l j i h
def Uk{G:Gp}{a:Addr}{m:Nat}{p:Mv}{q:DK}(i:G a=some (.lst ((dX m).map .int)))(h:xS m (some p))(k:∀(g:Addr) (f:Gp),G g=none->f g=some (.lst ((dX (xr m p.2)).map .int))->ax G f->q (.ref g) f):∃R,rF [.ref a,mD p] G R/\∀d f,R d f->q d f:=jF (post:=λd f=>∃g,d=.ref g/\G g=none/\f g=some (.lst ((dX (xr m p.2)).map .int))/\ax G f) (λR j=>#[a,m,p,rfl,i,h,λg f x y z=>j _ _ #[g,rfl,x,y,z]]) λd f ⟨g,e,x,y,z⟩=>by subst e;exact k g f x y z
def Qd{G:Gp}{st a:Addr}{w:List Mv}{n s:Nat}{q:DK}(S:cq G st)(t:a≠st)(B:G a=some (.lst (w.map mD)))(hw:fK n s 0 w)(y:1<=n)(r:n<=24)(x:1<=s)(A:w.length<=140)(k:∀(f:Addr) (u:List Mv) (g:Gp),cC st G g->G f=none->f≠st->g f=some (.lst (u.map mD))->fK n s 0 u->fin 0 u=fin 0 w->u.length<=1000->q (.ref f) g):∃R,rE [.ref st,.ref a,.int (n:Int),.int (s:Int)] G R/\∀d g,R d g->q d g:=jF (post:=λd g=>∃(f:Addr) (u:List Mv),d=.ref f/\cC st G g/\G f=none/\f≠st/\g f=some (.lst (u.map mD))/\fK n s 0 u/\fin 0 u=fin 0 w/\u.length<=1000) (λR C=>#[st,a,w,n,s,rfl,S,t,B,hw,y,r,x,A,λf u g p o m l j i h=>C _ _ #[f,u,rfl,p,o,m,l,j,i,h]]) λd g ⟨f,u,e,p,o,m,l,j,i,h⟩=>by subst e;exact k f u g p o m l j i h
def xd5:n<*T.gL.1<*d8 0:=Mt (by rintro ds G R ⟨st,f,l,s,b,_,_,h,g,_⟩;omega)
inductive om:Prop
 | mk (k:Nat) (_:ds=[.int (k:Int)]) (_:k<=1000) (_:(k=0->R (.int 0) G)) (_:(∀i,k=i+1->R (.int (1*2^i)) G)):om
inductive rC:Prop
 | mk (b m:Nat) (_:ds=[.int (m:Int)]) (_:m<2^b) (_:R (.int (pc b m:Int)) G):rC
inductive rJ:Prop
 | mk (p:Pm) (m:Nat) (_:ds=[cH p,.int (m:Int)]) (_:xS m p) (_:R (.int (iM m p:Int)) G):rJ
inductive rA:Prop
 | mk (a:Addr) (w:List Pm) (_:ds=[.ref a]) (_:G a=some (.lst (w.map cH))) (_:lS 0 w) (_:w.length<=3000) (_:∀q f,G q=none->f q=some (.lst ((0::gf 0 w).map nD))->ax G f->R (.ref q) f):rA
inductive uZ:Prop
 | mk (a:Addr) (w:List Pm) (_:ds=[.ref a]) (_:G a=some (.lst (w.map cH))) (_:lS 0 w) (_:w.length<=3000) (_:∀(M:Int) f,M∈((0::gf 0 w).map λm=>(cnt 24 m:Int))->(∀z∈((0::gf 0 w).map λm=>(cnt 24 m:Int)),z<=M)->ax G f->R (.int M) f):uZ
def iI(pl:List Int):List Pm->Int
 | []=>0| none::r=>iI pl r| some p::r=>pl.getD (p.2-1) 0+iI pl r
inductive uI:Prop
 | mk (a b:Addr) (w:List Pm) (pl:List Int) (_:ds=[.ref a,.ref b]) (_:G a=some (.lst (w.map cH))) (_:G b=some (.lst (pl.map .int))) (_:w.length<=3000) (_:(∀p,some p∈w->1<=p.2/\p.2<=pl.length)) (_:∀f,ax G f->R (.int (iI pl w)) f):uI
def wo2{G:Gp}{a:Addr}{w:List Pm}{q:DK}(h:G a=some (.lst (w.map cH)))(i:lS 0 w)(j:w.length<=3000)(k:∀g f,G g=none->f g=some (.lst ((0::gf 0 w).map nD))->ax G f->q (.ref g) f):∃R,rA [.ref a] G R/\∀d f,R d f->q d f:=jF (post:=λd f=>∃g,d=.ref g/\G g=none/\f g=some (.lst ((0::gf 0 w).map nD))/\ax G f) (λR l=>#[a,w,rfl,h,i,j,λg f x y z=>l _ _ #[g,rfl,x,y,z]]) λd f ⟨g,e,x,y,z⟩=>by subst e;exact k g f x y z
theorem MQ:∀{l r:List Pm},iI pl (l++r)=iI pl l+iI pl r
 | [],r=>by show iI pl r=0+iI pl r;omega| none::l,r=>by show iI pl (l++r)=iI pl l+iI pl r;exact MQ| some p::l,r=>by show _+iI pl (l++r)=(_+iI pl l)+iI pl r;rw[MQ];omega
inductive oj:Prop
 | mk (k m:Nat) (_:ds=[.int (k:Int),.int (m:Int)]) (_:k<=1000) (_:R (.bl (tO k m)) G):oj
def LY{G:Gp}{k m:Nat}{q:DK}(h:k<=1000)(g:q (.bl (tO k m)) G):∃R,oj [.int (k:Int),.int (m:Int)] G R/\∀d f,R d f->q d f:=fY (v:=.bl (tO k m)) (G1:=G) (λR i=>#[k,m,rfl,h,i]) g
inductive u6:Prop
 | mk (p:Mv) (m n s:Nat) (_:ds=[mD p,.int (m:Int),.int (n:Int),.int (s:Int)]) (_:j_ n s m p) (_:n<=1000) (_:m<2^n) (_:R (.bl true) G):u6
inductive rH:Prop
 | mk (a:Addr) (w:List Pm) (n s:Nat) (b:Bool) (_:ds=[.ref a,.int (n:Int),.int (s:Int)]) (_:G a=some (.lst (w.map cH))) (_:jW n s b w) (_:1<=n) (_:n<=24) (_:w.length<=3000) (_:R (.str (if b then "left" else "shown")) G):rH
inductive rl:Prop
 | mk (x y:D) (rs:List av) (g:Addr) (ks:List Nat) (_:ds=[.tup [x,y,.tup (bY rs)],.ref g]) (_:G g=some (.lst ((nI ks).map .int))) (_:bc rs<=6) (_:de rs<=1000) (_:jJ rs) (_:ks.length<=1000) (_:gd ks (aW rs).length) (_:∀(q:Addr) (as:List Addr) (f:Gp),G q=none->(∀a∈as,G a=none)->(∀a∈as,a≠q)->f q=some (.lst (as.map .ref))->jX f as (iC ks (aW rs))->ax G f->R (.ref q) f):rl
inductive uR:Prop
 | mk (s m:Nat) (_:ds=[.int (s:Int),.int (m:Int)]) (_:m<=1000) (_:∀(q:Addr) (f:Gp),G q=none->f q=some (.lst (((F3 m).map λj=>Row.add (m+j) (.box (s+j))).map Row.d))->ax G f->R (.tup [.int ((s+m:Nat):Int),.ref q]) f):uR
def Zv:gu:=λds G R=>∃(a:Addr) (f:List Int),ds=[.ref a]/\G a=some (.sE (f.map .int))/\f.length<=63/\∀g,R (.bl true) g
inductive ve:Prop
 | mk (s m:Nat) (_:ds=[.int (s:Int),.int (m:Int)]) (_:m<=1000) (_:∀(q:Addr) (f:Gp),G q=none->f q=some (.lst (((F3 m).map λj=>Row.swap (m+j) (s+j)).map Row.d))->ax G f->R (.tup [.int ((s+m:Nat):Int),.ref q]) f):ve
inductive u7:Prop
 | mk (pc:Addr) (W:Nat) (bs:List Str) (rs:List av) (x:D) (_:ds=[.ref pc,.tup [.int (W:Int),.tup (bs.map .str),x]]) (_:G pc=some (.lst (bY rs))) (_:qr W bs rs) (_:∀f,ax G f->R (.int ((2*tN W bs rs+bs.length:Nat):Int)) f):u7
inductive vw:Prop
 | mk (W:Nat) (bs:List Str) (rs:List av) (g:Addr) (ks:List Nat) (_:ds=[.tup [.int (W:Int),.tup (bs.map .str),.tup (bY rs)],.ref g]) (_:G g=some (.lst ((nI ks).map .int))) (_:bc rs<=6) (_:de rs<=1000) (_:jJ rs) (_:ks.length<=1000) (_:gd ks (aW rs).length) (_:(∀p∈iC ks (aW rs),qr W bs p)) (_:∀(q:Addr) (f:Gp),G q=none->f q=some (.lst (((iC ks (aW rs)).map (yy W bs)).map .int))->ax G f->R (.ref q) f):vw
def Qw(add:Bool):Str:=if add=true then "add" else "take"
inductive u_:Prop
 | mk (add:Bool) (pc:Addr) (W:Nat) (bs:List Str) (rs:List av) (x:D) (f bK fr:Nat) (_:ds=[.str (Qw add),.ref pc,.tup [.int (W:Int),.tup (bs.map .str),x],.int (f:Int),.int (bK:Int),.int (fr:Int)]) (_:G pc=some (.lst (bY rs))) (_:qr W bs rs) (_:1<=W) (_:22*bZ rs<=1760) (_:f+bs.length<=fr) (_:fr<=1000) (_:bK<=1000) (_:∀(q:Addr) (g:Gp),G q=none->g q=some (.lst ((si add W bs rs f bK fr).map Row.d))->ax G g->R (.tup [.int ((bp W bs rs 0 (c9 f bs.length) fr).2.2.1:Int),.ref q]) g):u_
inductive uX:Prop
 | mk (mv:D) (pc:Addr) (W:Nat) (bs:List Str) (rs:List av) (x:D) (g bK fr:Nat) (f:List Row) (sz:Nat) (_:ds=[mv,.ref pc,.tup [.int (W:Int),.tup (bs.map .str),x],.int (g:Int),.int (bK:Int),.int (fr:Int)]) (_:G pc=some (.lst (bY rs))) (_:qr W bs rs) (_:1<=W) (_:22*bZ rs<=1760) (_:g+bs.length<=fr) (_:fr<=1000) (_:bK<=1000) (_:zF W bs rs g bK fr mv f sz) (_:∀(q:Addr) (h:Gp),G q=none->h q=some (.lst (f.map Row.d))->ax G h->R (.tup [.int (sz:Int),.ref q]) h):uX
def DL(n:Nat)(mv:D)(k:Nat):Prop:=mv=Di "lay" k\/mv=Di "clear" k\/mv=.tup [.str "show"]/\k=n
def DL.key{n k:Nat}{mv:D}(h:DL n mv k):∃mk:List Key,mv=.tup (mk.map kD):=by
 rcases h with rfl|rfl|⟨rfl,rfl⟩
 .exact⟨[.inr "lay",.inl (k:Int)],rfl⟩
 .exact⟨[.inr "clear",.inl (k:Int)],rfl⟩
 .exact⟨[.inr "show"],rfl⟩
def DL.code{n k:Nat}{mv:D}(h:DL n mv k)(W:Nat)(bs:List Str)(rs:List av)(g bK fr:Nat):∃f sz,zF W bs rs g bK fr mv f sz:=by
 rcases h with rfl|rfl|⟨rfl,rfl⟩
 .exact⟨_,_,.lay⟩
 .exact⟨_,_,.clear⟩
 .exact⟨_,_,.px⟩
theorem jX.get{G:Gp}:∀{as:List Addr} {ps:List (List av)} {i:Nat},jX G as ps->i<ps.length->∃a,as[i]?=some a/\G a=some (.lst (bY (ps.getD i [])))
 | [],ps,i,h,hi=>by have h:ps=[]:=h;subst h;cases hi
 | a::as,ps,i,h,hi=>by
  let#[p,t,rfl,g,f]:=h;cases i with
  | zero=>exact#[a,rfl,g]| succ i =>let#[b,k,j]:=jX.get (i:=i) f (YY hi);exact#[b,k,j]
def wr3(i:jE kvs k=none)(h:jE (ze kvs k v) q=some d):q=k/\d=v\/jE kvs q=some d:=by
 have g:kvs.find? (λf=>decide (f.1=k))=none:=by unfold jE at i;simpa using i
 have j:(kvs.any λf=>decide (f.1=k))=false:=by rw[Pg];rw[YL] at g;exact g
 unfold ze at h;rw[j,if_neg ∅] at h;unfold jE at h⊢;rw[B94] at h;cases e:kvs.find? (λf=>decide (f.1=q)) with
 | some x=>rw[e] at h;exact .inr h| none =>
  rw[e] at h;by_cases z:k=q
  .subst z;simp at h;exact .inl #[rfl,h.symm]
  .simp[z] at h
def vm7(h:jE kvs k=none):jE (ze kvs k v) k=some v:=by
 have f:kvs.find? (λg=>decide (g.1=k))=none:=by unfold jE at h;simpa using h
 have i:(kvs.any λg=>decide (g.1=k))=false:=by rw[Pg];rw[YL] at f;exact f
 unfold ze jE;rw[i,if_neg ∅,B94,f];simp
theorem va8:∀{ks:List Nat} {O p:List av},p∈iC ks O->∃a b,O=a++p++b
 | [],_,_,h=>nomatch h| k::ks,O,p,h=>by
  rcases D4.mp h with rfl|h
  .exact⟨[],O.drop k,by simp⟩
  .let#[a,b,e]:=va8 h;exact#[O.take k++a,b,by rw[D1,D1,<- D1 a p b,<- e,List.take_append_drop]]
theorem vc8:∀{cs:List dU},(∀c∈cs,c.sz<=B)->tY cs<=B
 | [],_=>J8 _| c::cs,h=>Nat.max_le.mpr #[h c C6,vc8 λc f=>h c (C2 _ f)]
def dk(d:FnAt K x f st ps)(i:af N ps (bf st)) (j:∀(g:Value) (A:Around) (outer:List Env) (s:Shared) (H:Hp) (E:XK),aQ k (A.deeper (D08 f (bf st) s.heap.objs.size d.a g))->wR (qq oV P w K mg base N f (bf st) d.a g A outer s H E).xU (qE st) t) (m:∀ds G R,S ds G R->t { nx:=λ_ n=>R .non n,rt:=R} (rY N ds) G) (l:∀ds G R,S ds G R->ds.length=ps.length:=by intro _ _ _ h;cases h;subst_vars;rfl):Ok P w mg base (k+1) d S:=CI d i l j m
def km(F:bz P w K mg base CX j f g ps sp)(h:j<=k:=by decide):bz P w K mg base CX k f g ps sp:=F.mono h
def ek{X:Cx}{d:Fg X.K X.mg x st ps}(G:bz X.prog X.w X.K X.mg X.base oV k d.a d.fd ps (mf X.K S))(j:aQ k X.A)(n:A3 X (e::f) h)(l:Gl X x:=by rfl)(i:(x==("__debug__" :Str))=false:=by decide)
  (m:D0 (e::f) X.env=(false,eval e X.env)::D0 f X.env:=by rfl) (o:(backTo pos (D0 f X.env)).any (·.1)=false:=by rfl):E3 X (.Call (.Name x p) (e::f) [] pos) (jo S [] h):=ec d.1 d.g G j n l i m o
def eV(m:Nat)(f:List (Nat×Nat)):List (Key×D):=f.map λx=>(M4 (x.1:Int),.int (((x.2+2)*m:Nat):Int))
def w58(m:Nat)(f:List (Nat×Nat)):(eV m f).map (·.2)=(f.map λx=>(((x.2+2)*m:Nat):Int)).map D.int:=by unfold eV;rw[Q1,Q1];rfl
def AI(m:Nat)(f:List (Nat×Nat)):(eV m f).map (·.1)=(f.map λx=>(x.1:Int)).map M4:=by unfold eV;rw[Q1,Q1];rfl
def Tw(m:Nat)(f:List (Nat×Nat)):(eV m f).length=f.length:=B0 _
def v96(m:Nat)(a b:List (Nat×Nat)):eV m (a++b)=eV m a++eV m b:=B7
structure oR(M B:Nat)(sl:List (Nat×Nat)):Prop where
 ks:sl.map (λx=>(x.1:Int))=dX M
 nd:(sl.map (·.2)).Nodup
 lt:∀x∈sl,x.2<B
def oR.len(h:oR M B f):f.length=cnt 24 M:=by rw[<- MH,<- h.ks,B0]
def ju(G:Gp)(m B:Nat):List Addr->List Nat->Prop
 | [],f=>f=[]| a::as,f=>∃M r g,f=M::r/\G a=some (.bI (eV m g))/\oR M B g/\ju G m B as r
theorem ju.kp{G f:Gp}:∀{as:List Addr} {ms:List Nat},(∀a∈as,∀o,G a=some o->f a=some o)->ju G m B as ms->ju f m B as ms
 | [],_,_,h=>h| a::as,_,g,h=>by let#[M,r,i,rfl,n,l,k]:=h;exact#[M,r,i,rfl,g a C6 _ n,l,ju.kp (λb j=>g b (C2 _ j)) k]
theorem ju.snoc{G:Gp}(h1:G a=some (.bI (eV m f)))(g:oR M B f):∀{as:List Addr} {ms:List Nat},ju G m B as ms->ju G m B (as++[a]) (ms++[M])
 | [],ms,h=>by have h:ms=[]:=h;subst h;exact#[M,[],f,rfl,h1,g,rfl]| b::as,_,h=>by let#[l,r,i,rfl,e,k,j]:=h;exact#[l,r++[M],i,rfl,e,k,ju.snoc h1 g j]
theorem ju.len{G:Gp}:∀{as:List Addr} {ms:List Nat},ju G m B as ms->as.length=ms.length
 | [],ms,h=>by have h:ms=[]:=h;subst h;rfl| b::as,_,h=>by let#[j,r,g,rfl,e,i,f]:=h;exact congrArg (·+1) (ju.len f)
theorem uz7:∀{i:Nat} {js:List Nat},(∀j,j<i->j∈js)->i<=js.length
 | 0,_,_=>J8 _| i+1,js,h=>by have l:=uz7 (i:=i) (js:=js.erase i) λj f=>(List.mem_erase_of_ne ()).mpr (h j ());have k:=List.length_erase_of_mem (h i (R4 i));have g:0<js.length:=YX (h i (R4 i));omega
inductive vt:Prop
 | mk (a:Addr) (m:Nat) (g:List (Nat×Nat)) (_:ds=[.ref a,.int (m:Int)]) (_:1<=m) (_:m<=1000) (_:g.length<=60) (_:G a=some (.bI (eV m g))) (_:∀(f:Nat) (h:Gp),f∉g.map (·.2)->f<=g.length->ax G h->R (.int (((f+2)*m:Nat):Int)) h):vt
inductive uP:Prop
 | mk (a:Addr) (m M B:Nat) (g:List (Nat×Nat)) (p:Pm) (_:ds=[cH p,.ref a,.int (m:Int)]) (_:1<=m) (_:m<=1000) (_:G a=some (.bI (eV m g))) (_:oR M B g) (_:xS M p) (_:cnt 24 (iM M p)<=B) (_:∀(q:Addr) (h:List (Nat×Nat)) (f:Gp),G q=none->f q=some (.bI (eV m h))->oR (iM M p) B h->ax G f->R (.ref q) f):uP
inductive uQ:Prop
 | mk (g:Addr) (m B:Nat) (w:List Pm) (_:ds=[.ref g,.int (m:Int)]) (_:G g=some (.lst (w.map cH))) (_:1<=m) (_:m<=1000) (_:w.length<=3000) (_:lS 0 w) (_:(∀x∈gf 0 w,cnt 24 x<=B)) (_:∀(q:Addr) (as:List Addr) (f:Gp),G q=none->(∀a∈as,G a=none)->(∀a∈as,a≠q)->f q=some (.lst (as.map .ref))->ju f m B as (0::gf 0 w)->ax G f->R (.ref q) f):uQ
theorem MX:∀{kvs:List (Key×D)} {k:Key} {v:D},(kvs.map (·.1)).Nodup->(k,v)∈kvs->dn kvs k=some v
 | (g,i)::r,k,v,f,h=>by
  unfold dn;rw[L4];rcases D4.mp h with e|h
  .cases e;simp
  .have f:=N0.mp f;have ne:¬ g=k:=λe=>f.1 (by rw[e];exact D7.mpr #[_,h,rfl]);rw[decide_eq_false ne];exact MX f.2 h
def vm8{kvs:List (Key×D)}(h:k∉kvs.map (·.1)):dn kvs k=none:=by
 unfold dn;rw[YL.mpr]
 .rfl
 .intro g f;rw[decide_eq_true_eq];rintro rfl;exact h (D7.mpr #[_,f,rfl])
def vk6{kvs:List (Key×D)}(h:k∉kvs.map (·.1)):(kvs.any λf=>decide (f.1=k))=false:=by rw[Pg];intro f g;rw[decide_eq_true_eq];rintro rfl;exact h (D7.mpr #[_,g,rfl])
theorem ur9:∀{kvs acc:List (Key×D)},((acc++kvs).map (·.1)).Nodup->sU (kvs.map (·.1)) (kvs.map (·.2)) acc=acc++kvs
 | [],acc,_=>(E5 acc).symm| (k,v)::r,acc,h=>by
  have f:k∉acc.map (·.1):=by rw[B7,C0] at h;intro z;exact(Y9.mp h).2.2 _ z _ C6 rfl
  show sU (r.map (·.1)) (r.map (·.2)) (mh acc k v)=_;unfold mh;rw[vk6 f,if_neg ∅,ur9 (by rw[D1];exact h),D1];rfl
def Mp{ns:List Int}(h:ns.Nodup):(ns.map (M4:Int->Key)).Nodup:=Pf.mpr (h.imp λh e=>h (LF e))
theorem SJ:∀{h:List (Nat×Nat)} {x y:Nat×Nat},(h.map (·.2)).Nodup->x∈h->y∈h->x.2=y.2->x=y
 | z::r,x,y,g,i,f,e=>by
  have g:=N0.mp g;cases i with
  | head =>
   cases f with
   | head=>rfl| tail _ f=>exact(g.1 (D7.mpr #[_,f,e.symm])).elim
  | tail _ i =>
   cases f with
   | head=>exact(g.1 (D7.mpr #[_,i,e])).elim| tail _ f=>exact SJ g.2 i f e
def x70{f h:List (Nat×Nat)}(h1:(f.map λx=>(x.1:Int)).Nodup)(g:∀x∈f,x∈h)(k:(h.map (·.2)).Nodup):(f.map (·.2)).Nodup:=Pf.mpr ((Pf.mp h1).imp_of_mem λj i ne e=>ne (by rw[SJ k (g _ j) (g _ i) e]))
def oR.look(h:oR M B f){k:Nat}(h1:1<=k)(o:k<=24)(n:dW k M=true):∃j,(k,j)∈f/\j<B/\dn (eV m f) (M4 (k:Int))=some (.int (((j+2)*m:Nat):Int)):=by
 have l:(k:Int)∈f.map λx=>(x.1:Int):=by rw[h.ks];exact(xu h1 o).mpr n
 let#[#[i,j],g,e]:=D7.mp l;obtain rfl:i=k:=by have e:(i:Int)=k:=e;omega
 apply#[j,g,h.lt _ g,MX ?_ (D7.mpr #[_,g,rfl])];rw[AI,h.ks];exact Mp (xw cR)
def oR.get{M B m k j:Nat}{g:List (Nat×Nat)}(h:oR M B g)(r:(k,j)∈g){z:Int}(p:z≠k):∃f:Nat,(dn (eV m g) (M4 z)).getD (.int 0)=.int (f:Int)/\(f=0\/∃i,i<B/\i≠j/\f=(i+2)*m):=by
 by_cases n:z∈g.map λx=>(x.1:Int)
 .let#[x,l,rfl]:=D7.mp n;apply#[(x.2+2)*m,?_,.inr #[x.2,h.lt _ l,λe=>?_,rfl]]
  .rw[MX (kvs:=eV m g) (v:=.int (((x.2+2)*m:Nat):Int)) (by rw[AI,h.ks];exact Mp (xw cR)) (D7.mpr #[x,l,rfl])];rfl
  .have:=SJ h.nd l r e;subst this;exact p rfl
 .apply#[0,?_,.inl rfl];rw[vm8]
  .rfl
  .rw[AI];intro o;let#[y,q,e]:=D7.mp o;obtain rfl:=LF e;exact n q
def apart(hi:i<B)(f:fr=(2+B)*m):(i+2)*m+m<=fr/\2*m<=(i+2)*m/\(i≠j->(i+2)*m+m<=(j+2)*m\/(j+2)*m+m<=(i+2)*m):=by
 subst f;apply#[?_,R9 _ (),λh=>?_]
 .rw[<- Z7];exact R9 _ ()
 .rcases Nat.lt_or_gt_of_ne h with h|h
  .left;rw[<- Z7];exact R9 _ ()
  .right;rw[<- Z7];exact R9 _ ()
structure Ab(c:dU):Prop where
 pr:Pairs c.rs
 ok:∀r∈c.rs,r.ok c.sz
 ln:c.rs.length<=4000
 s1:1<=c.sz
 s2:c.sz<=2000
structure Xv(W:Nat)(bs:List Str)(PP:List (List av)):Prop where
 ok:∀p∈PP,qr W bs p/\22*bZ p<=1760
 hW:1<=W
 hb:1<=bs.length
 BU:bs.length<=6
def zF.gd{W:Nat}{bs:List Str}{rs:List av}{f bK fr sz:Nat}{a:Addr}{mv:D}{i:List Row}(ok:qr W bs rs)(Q:22*bZ rs<=1760)(h1:1<=bs.length)(q:f+bs.length<=fr)(L:bK+bs.length<=fr)(S:2*bs.length<=bK)(N:f+bs.length<=bK\/bK+bs.length<=f)(M:fr<=800)(x:zF W bs rs f bK fr mv i sz):Ab ⟨sz,a,i⟩:=by
 have O:=ok.nb;have key:∀add,Ab ⟨(bp W bs rs 0 (c9 f bs.length) fr).2.2.1,a,si add W bs rs f bK fr⟩:=by
  intro add;let#[C,u,B]:=wq9 ok q;let#[m,o,n]:=tM (a:=0) ok.hW rs ok.ok ok.nt (uz1 f bs.length) (fr:=fr) (λp k=>v92 q k);have t:=sV (a:=0) (fr:=fr) ok.hW ok.nb rs ok.ok ok.nt (uz1 f bs.length);unfold si;generalize (bp W bs rs 0 (c9 f bs.length) fr)=Z at *;let#[J,I,H,_,_]:=t;have k:=m.pr.pairs;have l:=xb6 (add:=add) (bK:=bK) (sz:=Z.2.2.1) (pl:=Z.2.1) (by rw[o];omega) λp k=>by have:=u p k;have:=n p k;rw[o];omega
  have y:(jU add bK Z.2.1).length=bs.length:=by unfold jU;rw[B0,J4,o]
  apply#[Up (Fe λ_ h=>nomatch h) λr g=>?_,Sy (λ_ h=>nomatch h) λr g=>?_,?_,by show 1<=Z.2.2.1;omega,by show Z.2.2.1<=2000;omega]
  .simp only[D4,X6,or_false] at g;rcases g with rfl|rfl|rfl
   .exact k
   .exact Fe λr g=>MW (l r g)
   .exact v86 k
  .simp only[D4,X6,or_false] at g;rcases g with rfl|rfl|rfl
   .exact m.ok
   .exact λr g=>Mg (l r g) (B9 _)
   .exact wr7 m.ok
  .show(uc _ _).length<=4000;rw[Tj,C0,C0,C0,LJ,MP,y,M7,M7,M7,List.sum_nil,Pl];omega
 cases x with
 | lay=>exact key true| clear=>exact key false| px =>
  apply#[Fe λr g=>?_,λr g=>?_,by show(Cq _ _).length<=4000;rw[B0,J4];omega,by show 1<=bK+bs.length;omega,by show bK+bs.length<=2000;omega]
  .let#[j,_,rfl]:=D7.mp g;rfl
  .let#[j,A,rfl]:=D7.mp g;have:=N7.mp A;exact#[by show bs.length+j<bK+bs.length;omega,by show bK+j<bK+bs.length;omega,()]
inductive uW:Prop
 | mk (W:Nat) (bs:List Str) (x:D) (f:List (List av)) (j pl i:Addr) (as h:List Addr) (w:List Pm) (s B:Nat) (_:ds=[.tup [.int (W:Int),.tup (bs.map .str),x],.ref j,.ref pl,.ref i]) (_:G j=some (.lst (as.map .ref))) (_:jX G as f) (_:G pl=some (.lst (w.map cH))) (_:G i=some (.lst (h.map .ref))) (_:ju G bs.length B h (0::gf 0 w)) (_:lS 0 w) (_:gU f.length s 0 false w) (_:B<=8) (_:B∈(0::gf 0 w).map (cnt 24)) (_:(∀x∈gf 0 w,cnt 24 x<=B)) (_:1<=f.length) (_:f.length<=4) (_:w.length<=2001) (_:Xv W bs f) (_:∀(q:Addr) (cs:List dU) (g:Gp),G q=none->g q=some (.lst (cs.map dU.d))->cs.length=w.length->(∀c∈cs,g c.ra=some (.lst (c.rs.map Row.d))/\c.ra≠q/\Ab c)->ax G g->R (.ref q) g):uW
structure yG(W:Nat)(bs:List Str)(rs:List av)(ks:List Nat)(w:List Pm)(s:Nat)(b:Bool):Prop where
 dp:bc rs<=6
 wt:de rs<=1000
 bd:jJ rs
 kl:ks.length<=4
 gd:gd ks (aW rs).length
 pk:Xv W bs (iC ks (aW rs))
 pl:jW (iC ks (aW rs)).length s b w
 s8:s<=8
 wl:w.length<=2001
inductive vd:Prop
 | mk (W:Nat) (bs:List Str) (rs:List av) (h pl:Addr) (ks:List Nat) (w:List Pm) (s:Nat) (b:Bool) (_:ds=[.tup [.int (W:Int),.tup (bs.map .str),.tup (bY rs)],.ref h,.int (s:Int),.ref pl]) (_:G h=some (.lst ((nI ks).map .int))) (_:G pl=some (.lst (w.map cH))) (_:yG W bs rs ks w s b) (_:∀(q:Addr) (sz:Nat) (f:List Row) (g:Gp),G q=none->g q=some (.lst (f.map Row.d))->Pairs f->(∀r∈f,r.ok sz)->f.length<=9000000->1<=sz->sz<=2000->ax G g->R (.tup [.int (sz:Int),.ref q]) g):vd
inductive rq:Prop
 | mk (W:Nat) (bs:List Str) (rs:List av) (f pl:Addr) (ks:List Nat) (w:List Pm) (s:Nat) (b:Bool) (_:ds=[.tup [.int (W:Int),.tup (bs.map .str),.tup (bY rs)],.ref f,.int (s:Int),.ref pl]) (_:G f=some (.lst ((nI ks).map .int))) (_:G pl=some (.lst (w.map cH))) (_:yG W bs rs ks w s b) (_:∀(g:Gp),ax G g->R (.int (iI ((iC ks (aW rs)).map (yy W bs)) w+(bs.length:Int))) g):rq
inductive vm:Prop
 | mk (st:Addr) (m:Nat) (_:ds=[.ref st,.int (m:Int)]) (_:cq G st) (_:1<=m) (_:m<=4) (_:∀(q:Addr) (bs:List Str) (f:Gp),G q=none->q≠st->f q=some (.lst (bs.map .str))->bs.length=m->(∀b∈bs,b.length<=20)->bs.Nodup->cC st G f->R (.ref q) f):vm
inductive vq:Prop
 | mk (st:Addr) (W:Nat) (bs:List Str) (_:ds=[.ref st,.tup (bs.map .str),.int (W:Int)]) (_:cq G st) (_:1<=W) (_:W<=16) (_:1<=bs.length) (_:bs.length<=6) (_:∀(a:l0) (f:Gp),jN W bs a->cC st G f->R (aD a) f):vq
inductive fE(dp:Nat)(ds:List D)(G:Gp)(R:DK):Prop
 | mk (st:Addr) (W f most:Nat) (bs:List Str) (_:ds=[.ref st,.tup (bs.map .str),.int (W:Int),.int (f:Int),.int (most:Int)]) (_:cq G st) (_:1<=W) (_:W<=16) (_:1<=bs.length) (_:bs.length<=6) (_:f<dp) (_:f<=3) (_:most<=3) (_:∀(rs:List av) (g:Gp),d5 W bs rs->jJ rs->bc rs<=f+1->de rs<=most*6^f->rs.length<=most->cC st G g->R (.tup (bY rs)) g):fE dp ds G R
def Zp:gu:=fE 8
def xd6:n<*T.gM.1<*fE 0:=Mt (by rintro ds G R ⟨_,_,_,_,_,_,_,_,_,_,_,h,_⟩;omega)
inductive i6(dp:Nat)(ds:List D)(G:Gp)(R:DK):Prop
 | mk (st:Addr) (W f:Nat) (bs:List Str) (_:ds=[.ref st,.tup (bs.map .str),.int (W:Int),.int (f:Int)]) (_:cq G st) (_:1<=W) (_:W<=16) (_:1<=bs.length) (_:bs.length<=6) (_:f<=dp) (_:f<=3) (_:∀(r:av) (g:Gp),sX W bs r->DD r->jS r<=f+1->qy r<=6^f->cC st G g->R (gD r) g):i6 dp ds G R
def xk3:gu:=i6 8
inductive vh:Prop
 | mk (st:Addr) (_:ds=[.ref st]) (_:cq G st) (_:∀(W:Nat) (bs:List Str) (rs:List av) (f:Gp),1<=W->W<=16->1<=bs.length->bs.length<=4->bs.Nodup->d5 W bs rs->jJ rs->bc rs<=4->de rs<=78->cC st G f->R (.tup [.int (W:Int),.tup (bs.map .str),.tup (bY rs)]) f):vh
inductive vp:Prop
 | mk (st:Addr) (m n:Nat) (_:ds=[.ref st,.int (m:Int),.int (n:Int)]) (_:cq G st) (_:1<=n) (_:n<=m) (_:m<=24) (_:∀(q:Addr) (ks:List Nat) (f:Gp),gd ks m->ks.length=n->q≠st->G q=none->f q=some (.lst ((nI ks).map .int))->cC st G f->R (.ref q) f):vp
inductive vn:Prop
 | mk (st:Addr) (most:Nat) (_:ds=[.ref st,.int (most:Int)]) (_:cq G st) (_:∀(W:Nat) (bs:List Str) (rs:List av) (g pl:Addr) (ks:List Nat) (w:List Pm) (s:Nat) (b:Bool) (f:Gp),g≠st->pl≠st->f g=some (.lst ((nI ks).map .int))->f pl=some (.lst (w.map cH))->yG W bs rs ks w s b->cC st G f->R (.tup [.tup [.int (W:Int),.tup (bs.map .str),.tup (bY rs)],.ref g,.int (s:Int),.ref pl]) f):vn
inductive vk:Prop
 | mk (st:Addr) (_:ds=[.ref st]) (_:cq G st) (_:∀(i:Int) (f:Gp),0<=i->i<4294967296->cC st G f->R (.int i) f):vk
inductive Cj(fw:Bool)(rs:List Row)(f:Nat)(g:List Int):Nat->Nat->List Int->Prop
 | z:Cj fw rs f g 0 f g
 | s {k s:Nat} {bs:List Int}:Cj fw rs f g k s bs->dw fw rs bs s=true->Cj fw rs f g (k+1) (dE fw rs bs s).1 (dE fw rs bs s).2
def Cj.Jo(i:Pairs rs)(c:i7 sz rs j f):∀{k s:Nat} {bs:List Int},Cj fw rs f j k s bs->i7 sz rs bs s:=by
 intro k s bs h;induction h with
 | z=>exact c| s _ m g=>exact(CD i g m).1
inductive vf:Prop
 | mk (fw:Bool) (h:D) (f bx:Addr) (rs:List Row) (bs:List Int) (s most sz:Nat) (_:ds=[.tup [h,.ref f],.ref bx,.int (s:Int),.int (most:Int),.bl fw]) (_:G f=some (.lst (rs.map Row.d))) (_:G bx=some (.lst (bs.map .int))) (_:i7 sz rs bs s) (_:Pairs rs) (_:most<=100000000) (_:∀g,ax G g->R (.bl true) g):vf
def uz4(i:Int)(n:Nat):(bO i n).length=n:=by unfold bO;rw[B0,J4]
def yG.len{W:Nat}{bs:List Str}{rs:List av}{ks:List Nat}{w:List Pm}{s:Nat}{b:Bool}(h:yG W bs rs ks w s b):1<=(iC ks (aW rs)).length/\(iC ks (aW rs)).length<=4:=by have e:=congrArg J1 (MJ ks (aW rs) (by rw[h.gd.2.2];exact B9 _));rw[B0] at e;have g:=h.kl;have f:ks.length≠0:=λz=>h.gd.1 (B16.mp z);omega
theorem Tc:∀{w:List Pm} {m:Nat} {f:Bool} {p:Mv},gU n s m f w->some p∈w->1<=p.2/\p.2<=n
 | none::r,m,f,p,⟨_,h⟩,hp=>by
  rcases D4.mp hp with e|hp
  .cases e
  .exact Tc h hp
 | some q::r,m,f,p,⟨g,h⟩,hp=>by
  rcases D4.mp hp with e|hp
  .cases e;exact g.1
  .exact Tc h hp
def wf8{n s:Nat}{b:Bool}{w:List Pm}(h:jW n s b w){p:Mv}(f:some p∈w):1<=p.2/\p.2<=n:=Tc (L3.jW.gU h).1 f
theorem Td(i:n<=24):∀{w:List Pm} {m:Nat} {f:Bool},gU n s m f w->lS m w
 | [],_,_,_=>trivial| none::r,m,f,⟨_,h⟩=>#[trivial,Td i (w:=r) h]| some q::r,m,f,⟨g,h⟩=>#[#[#[g.1.1,by have:=g.1.2;omega],g.2.2.1],Td i (w:=r) h]
def wi2(w:List Pm):∃B,B∈(0::gf 0 w).map (cnt 24)/\∀x∈0::gf 0 w,cnt 24 x<=B:=by
 suffices h:∀(l:List Nat) (x:Nat),∃B,B∈(x::l).map (cnt 24)/\∀y∈x::l,cnt 24 y<=B from h _ _;intro l;induction l with
 | nil=>exact λx=>#[cnt 24 x,C6,λy f=>by rw[F4.mp f];exact B9 _]| cons z l i =>
  intro x;let#[B,j,g]:=i z;by_cases e:cnt 24 x<=B
  .exact#[B,C2 _ j,B55.mpr #[e,g]]
  .exact#[cnt 24 x,C6,B55.mpr #[B9 _,λy f=>D3 (g y f) ()]]
def wn6{n s B:Nat}{w:List Pm}(q:n<=24)(h:gU n s 0 false w)(r:B∈(0::gf 0 w).map (cnt 24)):B<=s:=by
 suffices k:∀(w:List Pm) (m:Nat) (j:Bool),m<2^n->cnt n m<=s->gU n s m j w->∀x∈m::gf m w,cnt n x<=s/\x<2^n by let#[x,hx,rfl]:=D7.mp r;let#[g,i]:=k w 0 false (R0 _) (by rw[wo];exact J8 _) h x hx;rw[w29 i q];exact g
 intro w;induction w with
 | nil=>exact λm j g i _ x hx=>by rw[F4.mp hx];exact#[i,g]| cons p w o =>
  intro m j g i l x hx;rcases D4.mp hx with rfl|hx
  .exact⟨i,g⟩
  .cases p with
   | none=>exact o m true g i l.2 x hx| some p =>
    have f:=l.1;have t:xr m p.2<2^n:=Pj g (Z2 ∅ (by have:=f.1;omega));apply o (xr m p.2) j t ?_ l.2 x hx;cases e:dW p.2 m with
    | true =>have:=EU f.1.1 f.1.2 e;omega| false =>have:=yW f.1.1 f.1.2 e;have:=f.2.2.2 (by rw[f.2.2.1,e];rfl);omega
theorem vw4:∀{l:List Nat},(∀x∈l,x<=B)->l.sum<=B*l.length
 | [],_=>J8 _| x::l,h=>by have:=vw4 (l:=l) λy f=>h y (C2 _ f);have:=h x C6;rw[M7,C1,Nat.mul_succ];omega
theorem ju.last{G:Gp}:∀{as:List Addr} {w:List Pm} {M:Nat},ju G m B as (M::gf M w)->∃a f i,as=i++[a]/\G a=some (.bI (eV m f))/\oR (cz M w) B f
 | a::as,[],M,h=>by
  let#[q,r,f,e,k,j,g]:=h;cases e;cases as with
  | nil=>exact#[a,f,[],rfl,k,j]| cons b as=>let#[_,_,_,e,_]:=g;cases e
 | a::as,p::w,M,h=>by let#[q,r,f,e,k,j,g]:=h;cases e;let#[b,l,i,rfl,o,n]:=ju.last (w:=w) g;exact#[b,l,a::i,rfl,o,n]
def ju.two{G:Gp}:∀{g:List Addr},ju G m B g (M::n::r)->∃a f j i k,g=a::f::j/\G a=some (.bI (eV m i))/\G f=some (.bI (eV m k))/\oR M B i/\oR n B k/\ju G m B (f::j) (n::r):=by
 intro g h;rcases g with _|⟨a,_|⟨f,j⟩⟩
 .cases h
 .let#[_,_,_,e,_,_,h]:=h;cases e;cases h
 .let#[_,_,i,e,q,hi,l]:=h;cases e;have p:=l;let#[_,_,k,e,o,t,u]:=l;cases e;exact#[a,f,j,i,k,rfl,q,o,hi,t,p]
theorem sum_set:∀{ks:List Nat} {x:Nat} (h:x<ks.length),(ks.set x (ks[x]+1)).sum=ks.sum+1
 | [],_,h=>by cases h
 | k::ks,0,_=>by show((k+1)::ks).sum=_;rw[M7,M7];omega| k::ks,x+1,h=>by show(k::ks.set x (ks[x]'(YY h)+1)).sum=_;rw[M7,M7,sum_set (YY h)];omega
def UX{bs:List Str}(h1:1<=W)(k:W<=16)(j:1<=bs.length)(f:bs.length<=6)(i:bs.Nodup)(h:d5 W bs rs)(l:bc rs<=4)(hw:de rs<=78):Xv W bs (iC ks (aW rs)):=by apply#[λp g=>?_,h1,j,f];let#[a,b,e]:=va8 g;have o1:=EN rs h;have o2:=EO rs;have o3:=EX rs;have o4:=CP rs;rw[e] at o1 o2 o3 o4;have o1:=(d4.mp (d4.mp o1).1).2;have o2:=(ft.mp (ft.mp o2).1).2;rw[CU,CU] at o3;rw[CT,CT] at o4;exact#[#[f,i,o1,o2,(),(),k],()]
def HM{W:Nat}{bs:List Str}{rs:List av}{ks:List Nat}{w:List Pm}{s n:Nat}{b:Bool}(h1:1<=W)(r:W<=16)(q:1<=bs.length)(p:bs.length<=6)(k:bs.Nodup)(i:d5 W bs rs)(t:jJ rs)(o:bc rs<=4)(hw:de rs<=78)(m:ks.length=n)(j:n<=4)(f:gd ks (aW rs).length)(h:jW n s b w)(g:s<=8)(l:w.length<=2001):yG W bs rs ks w s b:=by have e:=congrArg J1 (MJ ks (aW rs) (by rw[f.2.2];exact B9 _));rw[B0] at e;exact#[(),(),t,(),f,UX h1 r q p k i o hw,by rw[e,m];exact h,g,l]
def xh7(g:1<=s):jW 1 s false [some (true,1),none,some (false,1)]:=by have f:fK 1 s 0 [(true,1)]:=#[#[#[∅,∅],.inl rfl,rfl,λ_=>by show cnt 1 0<s;rw[wo];omega],trivial];unfold jW;rw[if_neg ∅];exact#[[(true,1)],[(true,1)],rfl,f,f,rfl,∅]
theorem SX(f:0<=C)(h:∀x∈pl,0<=x/\x<=C):∀w:List Pm,0<=iI pl w/\iI pl w<=C*w.length
 | []=>#[C94 _,by simp[iI]]| none::r=>by let#[a,b]:=SX f h r;apply#[a,?_];show iI pl r<=_;rw[C1,C09,DW];omega| some p::r=>by
  let#[a,b]:=SX f h r;have g:0<=pl.getD (p.2-1) 0/\pl.getD (p.2-1) 0<=C:=by
   rw[K4];cases e:pl[p.2-1]? with
   | none=>exact#[C94 _,f]| some x=>exact h x (K9 e)
  show 0<=_+iI pl r/\_+iI pl r<=_;rw[C1,C09,DW];omega
def yG.few{W:Nat}{bs:List Str}{rs:List av}{ks:List Nat}{w:List Pm}{s:Nat}{b:Bool}(h:yG W bs rs ks w s b):0<=iI ((iC ks (aW rs)).map (yy W bs)) w+(bs.length:Int)/\iI ((iC ks (aW rs)).map (yy W bs)) w+(bs.length:Int)<=9000000:=by have l:=h.pk.BU;let#[o,n]:=SX (C:=4000) (pl:=(iC ks (aW rs)).map (yy W bs)) ∅ (λx i=>by let#[p,j,rfl]:=D7.mp i;let#[ok,m]:=h.pk.ok p j;have f:=sV (a:=0) (pl:=F3 bs.length) (fr:=bs.length) ok.hW ok.nb p ok.ok ok.nt J4;let#[_,_,_,_,k]:=f;unfold yy tN;omega) w;have:=h.wl;omega
end
end Law
set_option compiler.extract_closed false
open PySem L2 L3 Rw in
set_option hygiene false in
local macro_rules | `(tactic| simp! [$xs,*])=>`(tactic| try simp only [↓L_,Int.toNat_natCast,↓jo,↓qC,↓Ej,↓gR,↓Qh,↓jq,↓Az,↓jT,↓Qk,↓ux,↓dB,↓Cc,↓Xg,↓Ca,↓Qe,↓B',↓Qi,↓Xh,↓dP,↓dC,↓zy,↓Od,↓eN,↓me,↓sG,↓yw,↓Oe,↓Xf,↓Ma,↓Te,↓DC,↓Xi,↓yx,↓Cb,↓Ql,↓Qf,↓Jl,↓xk,↓Bo,↓x_,↓Qp,↓Bp,↓wr2,↓wr1,↓xg,↓uy,↓Ap,↓Eh,↓Ef,↓Ee,↓Ed,↓Ec,↓Ei,↓ZC,↓Eb,Cz,kR,uz0,uy9,vn2,CK,Vv,Vu,List.cons_append,List.nil_append,List.length_cons,List.length_nil,List.replicate,List.getElem?_cons_zero,List.getElem?_cons_succ,List.set_cons_zero,List.set_cons_succ,Nat.reduceAdd,Nat.reduceSub,Nat.sub_self,↓v97,↓v98,aC,Option.bind_some,Option.bind_none,id,Bool.false_eq_true,↓reduceIte,true_and,and_true,decide_true,decide_false,Bool.not_true,Bool.not_false,xk2,xk1,xk0,xj9,xj8,x88,x87,x86,x90,x89,↓PU,↓PR,↓PQ,↓PN,↓PL,↓PK,↓PJ,↓PH,↓PF,↓PD,↓xg0,↓xf9,↓xf8,↓xf7,↓xf6,↓xf5,↓PB,↓Pz,↓Py,↓Px,↓Pw,↓Pu,↓Pt,↓Pr,↓Pq,↓Pp,↓xf4,↓xf3,↓xf2,↓xf1,↓xf0,↓xe9,↓xe8,↓xe7,↓xe6,↓xe5,↓xe4,↓xe3,↓xe2,↓xe1,↓xe0,↓xd9,↓xd8,↓xd7,↓Qg,$xs,*])
open L3 in
set_option hygiene false in
local macro_rules | `(tactic| dsimp! [$xs,*])=>`(tactic| (simp only [Go];simp! [$xs,*]))
open PySem L2 L3 Rw in
set_option hygiene false in
local macro_rules | `(!$n:num)=>`(ev $n)
open PySem L2 L3 Rw in
set_option hygiene false in
local macro_rules | `(#v[])=>`(oK) | `(#v[$x])=>`(w32 $x oK) | `(#v[$x,$xs,*])=>`(w32 $x #v[$xs,*])
namespace Law
open PySem L2 L3 Rw
section
variable{P:Program}{w:World}{K:W.Frag}{mg:Str->Option Value}{base:Heap}(T:Txt K mg)
def x41{n:Nat}(KW:n<*T.ni.1<*uV):n+1<*T.kB.1<*rG:=by
 apply dk T.kB.1 jc (λ_ _ _ _ _ _ hr =>
   (ar (aM 1 jc.nd (dD oK))
   (ar (j0 (jK (!0)) (cI 2 jc.nd) (ar (aM 3 jc.nd (dJ gn rfl T.bq ∅ #v[!1]))
   (az (dI (MU (!1) #v[(o7 (N':=["row", "ahead"]) (ix:=[none,some 3]) (jI rfl rfl rfl) (jK (¬2)) (λ_ _ _ _=>(cI 0 (show(["row", "ahead"]:List Str).Nodup by decide))) (λ_ _ _ _=>mn) (λ_ _ _ _=>(ek KW hr #v[!0,!1])))])))))
   (az (aV (bh #v[(dJ vv2 rfl T.qZ ∅ #v[(o7 (N':=["code"]) (ix:=[none]) (jI rfl rfl rfl) (jK (!0)) (λ_ _ _ _=>(cI 0 (show(["code"]:List Str).Nodup by decide))) (λ_ _ _ _=>mn) (λ_ _ _ _=>(¬0)))]),!1])))))) (λds G R h=>?_)
 .let#[ca,u,rfl,y,NS,h0,h10,post]:=h;simp!;apply#[∅,λp X=>?_];have O:ca≠p:=aP y X;have own:∀{G1:Gp} {o:DO},ax G G1->ax G (aG G1 p o):=λg=>#[λb o e=>by rw[ay (aP e X)];exact g.kp _ _ e];have f0:aG G p (.lst []) ca=some (.lst (u.map dU.d)):=by rw[ay O];exact y
  dsimp![f0];apply j5 (λr j l=>DG λ(c1 c2:List dU) (f:List Row) (N L:Option D)=>DT (c1++c2=u) (r=c2.map dU.d) (uc f (c2.map dU.rs)=uc [] (u.map dU.rs)) (f.length<=4000*c1.length) (ax G l) (l p=some (.lst (f.map Row.d))) (j=[some (.ref ca),some (.ref p),N,L]))
   #[[],u,[],none,none,rfl,rfl,rfl,by simp,own ax.refl,aC,rfl] ?_ ?_
  .rintro j l ⟨c1,c2,f,N,L,e,i,Z,hl,g,x,rfl⟩;have H:c2=[]:=by simpa using i.symm
   subst H;have Y:f=uc [] (u.map dU.rs):=Z;apply#[by rw[g.kp _ _ y];rfl,?_];dsimp![g.kp _ _ y];intro k C;have g2:∀{o:DO},ax G (aG l k o):=g.new C;have Q:p≠k:=aP x C;apply j6 (λr j A=>lK λ(I t:List dU) (v:Option D)=>l9 (I++t=u) (r=t.map dU.d) (A=aG l k (.lst ((I.map λc=>(c.sz:Int)).map .int))) (j=[v])) #[[],u,none,rfl,rfl,rfl,rfl] ?_ ?_
   .rintro j A ⟨I,t,v,e,i,rfl,rfl⟩;have H:t=[]:=by simpa using i.symm
    subst H;rw[E5] at e;subst e;apply#[by rw[g2.kp _ _ y];rfl,?_];simp![Eu,C_];apply#[by rw[B0];exact h0,λM WS NZ=>?_];rw[x71 h0 WS NZ];apply#[∅,post p _ X ?_ g2];rw[ay Q,x,Y]
   .rintro z r j A ⟨I,t,v,e,i,rfl,rfl⟩ U;cases t with
    | nil=>cases i
    | cons c t =>
     cases i;apply#[by rw[g2.kp _ _ y];rfl,?_];simp![dU.d];apply#[?_,U _ _ #[I++[c],t,_,by rw[<- e,D1];rfl,rfl,?_,rfl]]
     .have:=congrArg J1 e;rw[B4,C1] at this;rw[B0,B0];exact C9 (m:=20000) () ∅
     .rw[hE,B7,B7];rfl
  .rintro z r j l ⟨c1,c2,f,N,L,e,i,Z,hl,g,x,rfl⟩ U;cases c2 with
   | nil=>cases i
   | cons c c2 =>
    cases i;apply#[by rw[g.kp _ _ y];rfl,?_];have BI:c∈u:=by rw[<- e];simp
    let#[IX,hcl]:=NS c BI;have yi:=congrArg J1 e;rw[B4,C1] at yi;have J:=g.kp _ _ IX;simp![x,B0,dU.d];dsimp![J,x];intro k C;have Q:p≠k:=aP x C;have E:c.ra≠k:=aP J C;apply j6 (λr j A=>lK λ(B q:List Row) (v:Option D)=>l9 (B++q=c.rs) (r=q.map Row.d) (A=aG l k (.lst ((B.map (mv f.length)).map Row.d))) (j=[v,some (.int (f.length:Int))])) #[[],c.rs,none,rfl,rfl,rfl,rfl] ?_ ?_
    .rintro j A ⟨B,q,v,e,i,rfl,rfl⟩;have H:q=[]:=by simpa using i.symm
     subst H;rw[E5] at e;subst e;apply#[by rw[ay E,J];rfl,?_];have f1:aG l k (.lst ((c.rs.map (mv f.length)).map Row.d)) p=some (.lst (f.map Row.d)):=by rw[ay Q];exact x
     simp![f1];apply#[by rw[B0,B0,B0];exact D3 (m:=9000000) () ∅,?_];apply U _ _ #[c1++[c],c2,gW f c.rs,_,_,by rw[<- e,D1];rfl,rfl,Z,?_,own (g.new C),?_,rfl]
     .rw[v29,B4,O9];omega
     .rw[aC,gW,B7]
    .rintro z r j A ⟨B,q,v,e,i,rfl,rfl⟩ S;cases q with
     | nil=>cases i
     | cons row q =>
      cases i;apply#[by rw[ay E,J];rfl,?_];simp!;apply fY (v:=(mv f.length row).d) (G1:=aG l k (.lst ((B.map (mv f.length)).map Row.d))) (λR h=>#[row,f.length,rfl,h]) ?_;simp!;apply#[?_,S _ _ #[B++[row],q,_,by rw[<- e,D1];rfl,rfl,?_,rfl]]
      .have:=congrArg J1 e;rw[B4,C1] at this;rw[B0,B0];exact C9 (m:=20000) () ∅
      .rw[hE,B7,B7];rfl
def x13{n:Nat}:n+1<*T.ni.1<*uV:=by
 apply dk T.ni.1 vx7 (λ_ _ _ _ _ _ g =>
   (ar (aJ (bE (tD g) (¬0) (bh #v[aS,aS]) (by with_unfolding_all rfl)) (az (aV (bh #v[¬0,¬0,¬0,(aK cf (¬0) (!1))]))) cj)
   (az (aV (!0))))) (λp G R h=>?_)
 .let#[row,a,rfl,post]:=h;rcases Bj row with⟨x,n,k,rfl⟩|⟨x,n,k,rfl⟩|⟨o,rest,f,m,l,i⟩
  .have e:(k:Int)+(a:Int)=((k+a:Nat):Int):=()
   simp![Row.d,eF,C7,decide_false,decide_true,TF,OJ,D_,OG,OT,e];exact⟨∅,post⟩
  .have e:(k:Int)+(a:Int)=((k+a:Nat):Int):=()
   simp![Row.d,eF,C7,decide_false,decide_true,TF,OJ,D_,OG,OT,e];exact⟨∅,post⟩
  .have j:mv a row=row:=by cases row <;> first|rfl|cases i
   rw[j,f] at post;simp only[f];simp![m,l,TF,OJ,D_,OG,OT];dsimp!;exact post
def x56{n:Nat}:n+1<*T.gN<*kM:=by
 apply dk T.gN wu1 (λ_ _ _ _ _ _ C =>
   (ar (xl T.ai.cl T.ai.cy (!0) (oN Ui rfl T.fj ∅ #v[¬1]))
   (ar (xl T.ai.cl T.ai.e_ (!0) (oN Ui rfl T.fj ∅ #v[!2]))
   (az (xl T.ai.cl T.ai.cQ (!0) (!3)))))) (λE G R h=>?_)
 .let#[p,I,H,u,B,J,s,rfl,q,A,k,post]:=h;simp?[A];intro j i;have g:p≠j:=aP q i;have y:u≠j:=aP k i;simp?[ay g,q,eF,str_beq,C7,decide_false,decide_true,beq_self_eq_true,F5,O1,putD];apply#[∅,?_];have x:u≠p:=by intro e;rw[e,q] at k;cases k
  simp?[ay x,ay y,k];intro t f;have l:t≠p:=by intro e;rw[e,aC] at f;cases f
  have m:t≠j:=by intro e;rw[e,ay (D2 g),aC] at f;cases f
  rw[ay l,ay m] at f;simp?[ay (D2 l),eF,str_beq,C7,decide_false,decide_true,beq_self_eq_true,F5,O1,putD];apply#[∅,∅,?_];apply post j t _ i f #[by rw[aC];rfl,?_,?_,D2 m] λb o r e=>?_
  .rw[ay (D2 g),ay (D2 g),ay (D2 m),ay (D2 g),aC]
  .rw[ay l,ay l,aC]
  .rw[ay r,ay r,ay (aP e f),ay r,ay (aP e i)];exact e
def x53{n:Nat}:n+1<*T.eA<*jw:=by
 apply dk T.eA vy8 (λ_ _ _ _ _ _ i =>
   (az (aV (fN T.ai.cl T.ai.cQ (!0))))) (λk G R h=>?_)
 .let#[p,g,j,f,l,s,rfl,A,post]:=h;simp?[A.ob,A.ro,dh];exact post
def x58{n:Nat}:n+1<*T.eB<*jx:=by
 apply dk T.eB vy9 (λ_ _ _ _ _ _ i =>
   (az (aV (oN Ui rfl T.fj ∅ #v[(fN T.ai.cl T.ai.e_ (!0))])))) (λk G R h=>?_)
 .let#[p,g,j,f,l,s,rfl,A,post]:=h;simp?[A.ob,A.he,dh];exact post
def x57{n:Nat}(Z:n<*T.fR<*ot)(jz:n<*T.iF.1<*kL)(vT:n<*T.kE.1<*fW):n+1<*T.fg<*ow:=by
 apply dk T.fg pN (λ_ _ _ _ _ _ C =>
   (ar (aJ (AE (j3 (fV T.ai.cl T.fR T.zg Z C (!0)))) (az (aV dy)) cj)
   (ar (aM 1 pN.nd (bL bJ (fN T.ai.cl T.ai.cy (!0)) (fN T.ai.cl T.ai.cQ (!0))))
   (ar (aJ (qF (w_and (bE (aR C) (¬1) aS (ah _)) (xn (j3 (ek jz C #v[!1,(fN T.ai.cl T.ai.e_ (!0))]))))) (ar (xl T.ai.cl T.ai.cQ (!0) (aK cf (¬1) aA))
   (az (aV dy))) cj)
   (ar (dI (ek vT C #v[!1,(fN T.ai.cl T.ai.e_ (!0)),aA]))
   (ar (ED T.ai.cl T.ai.cQ (!0) aA xo)
   (az (aV dy)))))))) (λds G R h=>?_)
 .let#[p,r,g,j,i,s,I,rfl,A,c,post]:=h;have N:=A.ph;have Y:=A.pr;have hl:=c.bo.len;simp?[A.ob,dh];apply fY (v:=.bl (bQ j i s)) (G1:=G) (λR h=>#[p,r,g,j,i,s,I,rfl,A,c,h]) ?_;simp?;cases y:bQ j i s with
  | false =>simp?;rw[y] at post;exact post G (λ_=>rfl) λz=>by cases z
  | true =>
   simp?;rw[y] at post;have X:s<j.length:=by
    by_cases q:s<j.length
    .exact q
    .unfold bQ at y;rw[O8 ()] at y;cases y
   have E:=B6 X;have H:=c.ro _ (M6 X);simp?[A.ob,A.ro,dh,Ni E];have step:∀(row:Row),j[s]=row->row.ok I->(cP j i s=(s+1,df 1 i row))->∃o,fW [row.d,.ref g,.int 1] G o/\∀d f,o d f->∃l,f p=some (.ins bH l)/\l=cn r g s/\R (.bl true) (aG f p (.ins bH (cn r g (s+1)))):=by intro row _ BB t;apply jF (post:=λd f=>d=.non/\uG g (df 1 i row) G f) (λR h=>#[row,g,I,1,i,rfl,.inl rfl,BB,c.bo,A.he,λf u=>h _ _ #[rfl,u]]) ?_;rintro d f ⟨rfl,u⟩;apply#[cn r g s,by rw[u.kp p N];exact A.ob,rfl,?_];apply post _ (λz=>by cases z) λ_=>?_;rw[t];apply#[#[aC,by rw[ay (D2 Y),u.kp r A.ne];exact A.ro,by rw[ay (D2 N)];exact u.at_,A.ne],λb J S=>by rw[ay J,u.kp b S]]
   have fin:∀{row:Row} {O:D->Gp->Prop},(∃o,fW [row.d,.ref g,.int 1] G o/\∀d f,o d f->∃l,f p=some (.ins bH l)/\l=cn r g s/\R (.bl true) (aG f p (.ins bH (cn r g (s+1))))) ->
     (∀d f,(∃l,f p=some (.ins bH l)/\l=cn r g s/\R (.bl true) (aG f p (.ins bH (cn r g (s+1)))))->O d f)->∃o,fW [row.d,.ref g,.int 1] G o/\∀d f,o d f->O d f:=λ⟨o,a,b⟩ h=>#[o,a,λd f q=>h d f (b d f q)]
   have U:((s:Int)+1)=((s+1:Nat):Int):=()
   rcases w18 j[s] with⟨x,m,k,B⟩|⟨w,rest,Q,hw,t⟩
   .rw[B];rw[B] at H;simp?[Row.d,eF,C7,decide_false,decide_true,A.ob,dh];apply fY (v:=.bl (decide (gt i x=m))) (G1:=G) (λR h=>#[.go x m k,g,x,i,m,k,rfl,.inl rfl,A.he,by rw[hl];exact H.1,h]) ?_;simp?;apply fH (λL=>?_) (λL=>?_)
    .simp?[A.ob,dh];apply⟨CJ,?_⟩;apply post _ (λz=>by cases z) λ_=>?_;have t:cP j i s=(k+1,i):=by unfold cP;rw[E,B];simp[L]
     rw[t];apply#[#[?_,by rw[ay (D2 Y)];exact A.ro,by rw[ay (D2 N)];exact A.he,A.ne],λb J S=>ay J];rw[aC];unfold cn;rw[show((k+1:Nat):Int)=(k:Int)+1 by omega]
    .simp?[A.ob,dh];apply fin (row:=.go x m k) (step _ B H (by unfold cP;rw[E,B];simp[L,df])) ?_;rintro d f ⟨l,M,rfl,q⟩;simp?[M,dh,U];exact#[CJ,q]
   .simp?[Q,hw,A.ob,dh];rw[<- Q];apply fin (row:=j[s]) (step _ rfl H (t j i s E)) ?_;rintro d f ⟨l,M,rfl,q⟩;simp?[M,dh,U];exact#[CJ,q]
def x59{n:Nat}(Z:n<*T.fS<*ou)(jz:n<*T.iF.1<*kL)(vT:n<*T.kE.1<*fW):n+1<*T.fh<*ox:=by
 apply dk T.fh pO (λ_ _ _ _ _ _ C =>
   (ar (aJ (AE (j3 (fV T.ai.cl T.fS T.zh Z C (!0)))) (az (aV dy)) cj)
   (ar (aM 1 pO.nd (bL bJ (fN T.ai.cl T.ai.cy (!0)) (aK gp (fN T.ai.cl T.ai.cQ (!0)) aA)))
   (ar (aJ (qF (w_and (bE (aR C) (¬1) aS (ah _)) (xn (j3 (ek jz C #v[!1,(fN T.ai.cl T.ai.e_ (!0))]))))) (ar (xl T.ai.cl T.ai.cQ (!0) (¬1))
   (az (aV dy))) cj)
   (ar (dI (ek vT C #v[!1,(fN T.ai.cl T.ai.e_ (!0)),(sF Ew aA)]))
   (ar (ED T.ai.cl T.ai.cQ (!0) aA wp9)
   (az (aV dy)))))))) (λds G R h=>?_)
 .let#[p,r,g,j,i,s,I,rfl,A,c,post]:=h;have N:=A.ph;have Y:=A.pr;have hl:=c.bo.len;simp?[A.ob,dh];apply fY (v:=.bl (cF j i s)) (G1:=G) (λR h=>#[p,r,g,j,i,s,I,rfl,A,c,h]) ?_;simp?;cases J:cF j i s with
  | false =>simp?;rw[J] at post;exact post G (λ_=>rfl) λz=>by cases z
  | true =>
   simp?;rw[J] at post;have h00:¬ s=0:=by intro e;subst e;cases J
   have hle:=c.le;have X:s-1<j.length:=()
   have t:(s:Int)-1=((s-1:Nat):Int):=()
   have E:=B6 X;have H:=c.ro _ (M6 X);simp?[A.ob,A.ro,dh,t,Ni E];have step:∀(row:Row),j[s-1]=row->row.ok I->(dF j i s=(s-1,df (-1) i row))->∃o,fW [row.d,.ref g,.int (-1)] G o/\∀d f,o d f->∃l,f p=some (.ins bH l)/\l=cn r g s/\R (.bl true) (aG f p (.ins bH (cn r g (s-1)))):=by intro row _ BB y;apply jF (post:=λd f=>d=.non/\uG g (df (-1) i row) G f) (λR h=>#[row,g,I,-1,i,rfl,.inr rfl,BB,c.bo,A.he,λf u=>h _ _ #[rfl,u]]) ?_;rintro d f ⟨rfl,u⟩;apply#[cn r g s,by rw[u.kp p N];exact A.ob,rfl,?_];apply post _ (λz=>by cases z) λ_=>?_;rw[y];apply#[#[aC,by rw[ay (D2 Y),u.kp r A.ne];exact A.ro,by rw[ay (D2 N)];exact u.at_,A.ne],λb L S=>by rw[ay L,u.kp b S]]
   have fin:∀{row:Row} {O:D->Gp->Prop},(∃o,fW [row.d,.ref g,.int (-1)] G o/\∀d f,o d f->∃l,f p=some (.ins bH l)/\l=cn r g s/\R (.bl true) (aG f p (.ins bH (cn r g (s-1))))) ->
     (∀d f,(∃l,f p=some (.ins bH l)/\l=cn r g s/\R (.bl true) (aG f p (.ins bH (cn r g (s-1)))))->O d f)->∃o,fW [row.d,.ref g,.int (-1)] G o/\∀d f,o d f->O d f:=λ⟨o,a,b⟩ h=>#[o,a,λd f q=>h d f (b d f q)]
   have U:((s:Int)-1)=((s-1:Nat):Int):=t;rcases w19 j[s-1] with⟨x,m,k,B⟩|⟨w,rest,Q,hw,y⟩
   .rw[B];rw[B] at H;simp?[Row.d,eF,C7,decide_false,decide_true,A.ob,dh];apply fY (v:=.bl (decide (gt i x=m))) (G1:=G) (λR h=>#[.aT x m k,g,x,i,m,k,rfl,.inr rfl,A.he,by rw[hl];exact H.1,h]) ?_;simp?;apply fH (λM=>?_) (λM=>?_)
    .simp?[A.ob,dh];apply⟨CJ,?_⟩;apply post _ (λz=>by cases z) λ_=>?_;have y:dF j i s=(k,i):=by unfold dF;rw[E,B];simp[M]
     rw[y];apply#[#[?_,by rw[ay (D2 Y)];exact A.ro,by rw[ay (D2 N)];exact A.he,A.ne],λb L S=>ay L];rw[aC];rfl
    .simp?[A.ob,dh];apply fin (row:=.aT x m k) (step _ B H (by unfold dF;rw[E,B];simp[M,df])) ?_;rintro d f ⟨l,t,rfl,q⟩;simp?[t,dh,U];exact#[CJ,q]
   .simp?[Q,hw,A.ob,dh];rw[<- Q];apply fin (row:=j[s-1]) (step _ rfl H (y j i s E)) ?_;rintro d f ⟨l,t,rfl,q⟩;simp?[t,dh,U];exact#[CJ,q]
def x60{n:Nat}:n+1<*T.fT<*oz:=by
 apply dk T.fT vz0 (λ_ _ _ _ _ _ g =>
   (az (aV (sP (aR g) (fN T.ai.cl T.ai.cQ (!0)) (dJ gn rfl T.bq ∅ #v[(fN T.ai.cl T.ai.cy (!0))]) (ah _))))) (λk G R h=>?_)
 .let#[p,i,j,f,l,s,rfl,A,post]:=h;simp?[A.ob,A.ro,dh,B0];have e:decide ((s:Int)=(f.length:Int))=decide (s=f.length):=by
   by_cases q:s=f.length
   .simp[q]
   .have:¬ (s:Int)=(f.length:Int):=()
    simp[q,this]
  rw[e];exact post
def x61{n:Nat}:n+1<*T.fU<*oA:=by
 apply dk T.fU vz1 (λ_ _ _ _ _ _ f =>
   (az (aV (sP (aR f) (fN T.ai.cl T.ai.cQ (!0)) aA (ah _))))) (λk G R h=>?_)
 .let#[p,i,j,g,l,s,rfl,A,post]:=h;simp?[A.ob,A.ro,dh];have e:decide ((s:Int)=0)=decide (s=0):=by
   by_cases q:s=0
   .simp[q]
   .have:¬ (s:Int)=0:=()
    simp[q,this]
  rw[e];exact post
def x54{n:Nat}(y:n<*T.fT<*oz)(C:n<*T.iF.1<*kL):n+1<*T.fR<*ot:=by
 apply dk T.fR pL (λ_ _ _ _ _ _ j =>
   (ar (aJ (j3 (fV T.ai.cl T.fT T.zi y j (!0))) (az (aV dy)) cj)
   (ar (aM 1 pL.nd (bL bJ (fN T.ai.cl T.ai.cy (!0)) (fN T.ai.cl T.ai.cQ (!0))))
   (az (aV (Mb (En (sP (aR j) (¬1) aS (ah _)) (Cw (ek C j #v[!1,(fN T.ai.cl T.ai.e_ (!0))]))))))))) (λM G R h=>?_)
 .let#[p,B,o,g,i,s,L,rfl,A,c,post]:=h;simp?[A.ob,dh];apply fY (v:=.bl (decide (s=g.length))) (G1:=G) (λR h=>#[p,B,o,g,i,s,rfl,A,h]) ?_;simp?[A.ob,dh];apply fH (λq=>?_) (λq=>?_)
  .subst q;have:bQ g i g.length=false:=by unfold bQ;rw[O8 (B9 _)]
   rw[this] at post;exact post
  .have t:s<g.length:=by have:=c.le;omega
   have l:=B6 t;have u:=c.ro _ (M6 t);have H:=c.bo.len;unfold bQ at post;rw[l] at post;simp?[A.ob,A.ro,dh,Ni l];rcases w19 g[s] with⟨x,m,k,I⟩|⟨w,rest,f,hw,_⟩
   .rw[I] at post u⊢;simp?[Row.d,eF,C7,decide_false,decide_true,A.ob,dh];exact fY (v:=.bl (decide (gt i x=m))) (G1:=G) (λR h=>#[.aT x m k,o,x,i,m,k,rfl,.inr rfl,A.he,by rw[H];exact u.1,h]) post
   .have E:∀r:Row,r=g[s]->R (.bl true) G:=by
     intro r e;rw[<- e] at post f;cases r with
     | aT x m k=>injection f with f;injection f with f _;injection f with f;rw[<- f] at hw;exact(hw▸rfl:False).elim
     | _=>exact post
    simp?[f,hw,eF,C7,decide_false,decide_true];exact E _ rfl
def x55{n:Nat}(y:n<*T.fU<*oA)(C:n<*T.iF.1<*kL):n+1<*T.fS<*ou:=by
 apply dk T.fS pM (λ_ _ _ _ _ _ j =>
   (ar (aJ (j3 (fV T.ai.cl T.fU T.zj y j (!0))) (az (aV dy)) cj)
   (ar (aM 1 pM.nd (bL bJ (fN T.ai.cl T.ai.cy (!0)) (aK gp (fN T.ai.cl T.ai.cQ (!0)) aA)))
   (az (aV (Mb (En (sP (aR j) (¬1) aS (ah _)) (Cw (ek C j #v[!1,(fN T.ai.cl T.ai.e_ (!0))]))))))))) (λO G R h=>?_)
 .let#[p,B,q,g,i,s,N,rfl,A,c,post]:=h;simp?[A.ob,dh];apply fY (v:=.bl (decide (s=0))) (G1:=G) (λR h=>#[p,B,q,g,i,s,rfl,A,h]) ?_;simp?[A.ob,dh];apply fH (λl=>?_) (λl=>?_)
  .subst l;have:cF g i 0=false:=rfl;rw[this] at post;exact post
  .have H:=c.le;have t:s-1<g.length:=()
   have o:=B6 t;have u:=c.ro _ (M6 t);have I:=c.bo.len;have J:(s:Int)-1=((s-1:Nat):Int):=()
   unfold cF at post;rw[if_neg l,o] at post;simp?[A.ob,A.ro,dh,J,Ni o];rcases w18 g[s-1] with⟨x,m,k,L⟩|⟨w,rest,f,hw,_⟩
   .rw[L] at post u⊢;simp?[Row.d,eF,C7,decide_false,decide_true,A.ob,dh];exact fY (v:=.bl (decide (gt i x=m))) (G1:=G) (λR h=>#[.go x m k,q,x,i,m,k,rfl,.inl rfl,A.he,by rw[I];exact u.1,h]) post
   .have E:∀r:Row,r=g[s-1]->R (.bl true) G:=by
     intro r e;rw[<- e] at post f;cases r with
     | go x m k=>injection f with f;injection f with f _;injection f with f;rw[<- f] at hw;exact(hw▸rfl:False).elim
     | _=>exact post
    simp?[f,hw,eF,C7,decide_false,decide_true];exact E _ rfl
def x42{n:Nat}:n+1<*T.iF.1<*kL:=by
 apply dk T.iF.1 vy3 (λ_ _ _ _ _ _ i =>
   (az (aV (sP (aR i) (bL bJ (!1) (¬0)) (¬0) (ah _))))) (λl G R h=>?_)
 .let#[row,a,x,o,m,k,rfl,j,g,f,post]:=h;rcases j with rfl|rfl
  .simp?[Row.d,g,tK f];exact post
  .simp?[Row.d,g,tK f];exact post
def x47{n:Nat}(I:n<*T.nh.1<*uU)(N:n<*T.mW.1<*uM):n+1<*T.kE.1<*fW:=by
 apply dk T.kE.1 pJ (λ_ _ _ _ _ _ p =>
   (az (aJ (bE (aR p) (¬0) aS (ah _)) (az (tH (aK tI (aK cf (bL bJ (!1) (¬0)) (aK mj (!2) (ek I p #v[¬0,!1]))) (AH T.j')) (yR (!1) (¬0) yT))) (az (aJ (bE (aR p) (¬0) aS (ah _)) (az (tH (aK tI (aK gp (bL bJ (!1) (¬0)) (aK mj (!2) (ek I p #v[¬0,!1]))) (AH T.j')) (yR (!1) (¬0) yT))) (az (aJ (bE (aR p) (¬0) aS (ah _)) (az (dI (ek N p #v[!0,!1]))) (az (aJ (bE (aR p) (¬0) aS (ah _)) (ar (aM 3 pJ.nd (bL bJ (!1) (¬0)))
   (ar (tH (bL bJ (!1) (¬0)) (yR (!1) (¬0) yT))
   (az (tH (!3) (yR (!1) (¬0) yT))))) cj))))))))) (λS G R h=>?_)
 .let#[row,a,J,s,f,rfl,M,q,j,l,post]:=h;have r:=j.len;have E:∀y:Int,iV s y:=λy=>.inl (by rcases M with rfl|rfl <;> decide);have B:((0:Int)<4294967296)=True:=∅;generalize t:row.d=d;cases row with
  | add x o =>
   have g:x<f.length:=by rw[r];exact q.1
   simp?[<- t,Row.d,eF,C7,decide_false,decide_true,l,tK g];apply fY (v:=.int (val f o)) (G1:=G) (λR h=>#[o,a,f,rfl,l,λy e=>by subst e;rw[r];exact q.2.1,h]) ?_;simp?[l,tK g,E' g,xH,E,B];exact post _ #[aC,λb j=>ay j]
  | take x o =>
   have g:x<f.length:=by rw[r];exact q.1
   simp?[<- t,Row.d,eF,C7,decide_false,decide_true,l,tK g];apply fY (v:=.int (val f o)) (G1:=G) (λR h=>#[o,a,f,rfl,l,λy e=>by subst e;rw[r];exact q.2.1,h]) ?_;simp?[l,tK g,E' g,xH,E,B];exact post _ #[aC,λb j=>ay j]
  | turn x i C =>simp?[<- t,Row.d,eF,C7,decide_false,decide_true];apply jF (post:=λd A=>d=.non/\uG a (df 1 f (.turn x i C)) G A) (λR h=>#[x,i,C,a,J,f,rfl,q,j,l,λA u=>h _ _ #[rfl,u]]) ?_;rintro d A ⟨rfl,u⟩;exact post _ u
  | swap x y =>
   have g:x<f.length:=by rw[r];exact q.1
   have H:y<f.length:=by rw[r];exact q.2.1
   have L:x<(f.set x (gt f y)).length:=by rw[J9];exact g
   have O:y<(f.set x (gt f y)).length:=by rw[J9];exact H
   simp?[<- t,Row.d,eF,C7,decide_false,decide_true,l,tK g,tK H,E' g,xH,E' O,hE];exact post _ #[aC,λb j=>ay j]
  | go x m k =>simp?[<- t,Row.d,eF,C7,decide_false,decide_true];exact post _ #[l,λb j=>rfl]| aT x m k =>simp?[<- t,Row.d,eF,C7,decide_false,decide_true];exact post _ #[l,λb j=>rfl]
def x12{n:Nat}:n+1<*T.nh.1<*uU:=by
 apply dk T.nh.1 vx6 (λ_ _ _ _ _ _ g =>
   (az (aV (nZ (bE (aR g) (¬0) aS (ah _)) (bL bJ (!1) (¬0)) (¬0))))) (λj G R h=>?_)
 .let#[o,a,k,rfl,i,f,post]:=h;cases o with
  | num m =>simp?[oU.d,eF,C7,decide_false,decide_true];exact post| box y =>simp?[oU.d,eF,C7,decide_false,decide_true,i,tK (f y rfl)];exact post
def wz5{n:Nat}:n+1<*T.mW.1<*uM:=by
 apply dk T.mW.1 pA (λ_ _ _ _ _ _ B =>
   (ar (j0 (jK (¬0)) (cI 2 pA.nd) (az (aJ (bE (aR B) (aK Mi (aK wp6 (bL bJ (!1) (¬2)) (¬2)) aA) aA (ah _)) (az wu2) cj)))
   (az (tH (aK xg2 (bL bJ (!1) (¬0)) (aK v30 aA (¬0))) (yR (!1) (¬0) yT))))) (λU G R h=>?_)
 .let#[x,i,g,a,L,j,rfl,I,l,p,post]:=h;have N:=l.len;let#[M,hi,_,E]:=I;have u:x<j.length:=()
  simp?[Row.d];apply j5 (λr o t=>Xr λ(f:List (Nat×Nat)) (v:Option D)=>LA (r=f.map cd) (∀c∈f,c∈g) (con j g=con j f) (t=G) (o=[some (Row.turn x i g).d,some (.ref a),v])) #[g,none,rfl,λ_ h=>h,rfl,rfl,rfl] ?_ ?_
  .rintro o t ⟨f,v,m,_,k,rfl,rfl⟩;have H:f=[]:=by simpa using m.symm
   subst H;apply#[trivial,?_];simp?[Row.d,p,tK u,E' u,xH,v67];apply#[Ml () (),?_];apply post _ #[?_,λb l=>ay l];rw[aC];show _=some (DO.lst (Cq D.int (if con j g=true then _ else _)));rw[k];rfl
  .rintro z r o t ⟨f,v,m,y,k,rfl,rfl⟩ A;cases f with
   | nil=>cases m
   | cons c f =>
    cases m;let#[S,Q,O]:=E c (y c C6);have J:c.1<j.length:=()
    simp?[Row.d,cd,p,tK J,vk8];apply#[(),?_];apply fH (λq=>?_) (λq=>?_)
    .apply post _ #[?_,λb l=>rfl];have:con j g=false:=by rw[k];unfold con;rw[W8,q];rfl
     show _=some (DO.lst (Cq D.int (if con j g=true then _ else _)));rw[this];exact p
    .apply A _ _ #[f,_,rfl,λd C=>y d (C2 _ C),?_,rfl,rfl];rw[k];unfold con;rw[W8];simp[q]
def x08{n:Nat}(oH:n<*T.gN<*kM)(oG:n+1<*T.eA<*jw)(oI:n+1<*T.eB<*jx)(rQ:n+1<*T.fg<*ow)(vY:n+1<*T.fT<*oz)(vW:n+1<*T.fR<*ot)(vH:n+1<*T.kf.1<*kK):n+1+1<*T.m_.1<*uS:=by
 apply dk T.m_.1 ic (λ_ _ _ _ _ _ u =>
   (ar (aM 3 ic.nd (Xa T.gE T.ai.m T.Jk oH u #v[!0,!1]))
   (ar (aM 4 ic.nd aA)
   (ar (MM (qF (w_and (bE (oW) (!4) (!2) (ah _)) (xn (j3 (fV T.ai.cl T.fg T.t9 rQ u (!3)))))) (az (Er 4 ic.nd aA xo)))
   (ar (aM 5 ic.nd (ek vH u #v[(fV T.ai.cl T.fT T.zi vY u (!3)),aS,(fV T.ai.cl T.fR T.zg vW u (!3))]))
   (az (aV (bh #v[!5,(fV T.ai.cl T.eA T.t7 oG u (!3)),(fV T.ai.cl T.eB T.t_ oI u (!3)),!4])))))))) (λds G R h=>?_)
 .let#[Y,M,Z,f,J,most,B,rfl,Il,qT,c,hp,post]:=h;simp!;intro p O;apply So (s:=0) O Il qT λt q y nra HI A1 g1=>?_;dsimp!;dsimp!;apply Nc (λm L i=>lK λ(k s:Nat) (g:List Int)=>yK (m=most-k) (vA true f most 0 J k s g) (i7 B f g s) (aX bH i p t q f g s) (Kept p q y i) (L=[some (.tup [Y,.ref M]),some (.ref Z),some (.int (most:Int)),some (.ref p),some (.int (k:Int)),none])) (m:=most)
   #[0,0,J,rfl,vA.init,c,A1,Kept.refl,rfl] ?_
  rintro m L i N ⟨k,s,g,em,E,I,A,Q,rfl⟩ ih;have stop:∀(e:rn true f most 0 J=(k,s,g)),Go ((gR (jq (jo kK [] (me (qC bH "at_end" oz [] (dP 3) eN) (me (dC (.str "end")) (me (qC bH "may_forth" ot [] (dP 3) eN) eN)))) (xk 5)) (jT (sG (me (dP 5) (me (qC bH "place" jw [] (dP 3) eN) (me (qC bH "boxes" jx [] (dP 3) eN) (me (dP 4) eN))))))) { nx:=λ_ i=>R .non i,rt:=R}) [some (.tup [Y,.ref M]),some (.ref Z),some (.int (most:Int)),some (.ref p),some (.int (k:Int)),none] i:=by
   intro e;dsimp![A.ob,dh];apply fY (v:=.bl (decide (s=f.length))) (G1:=i) (λR h=>#[p,t,q,f,g,s,rfl,A,h]) ?_;simp![A.ob,dh];apply fY (v:=.bl (bQ f g s)) (G1:=i) (λR h=>#[p,t,q,f,g,s,B,rfl,A,I,h]) ?_;simp!;apply fY (v:=.str (rV true f g s)) (G1:=i) (λR h=>#[_,_,_,rfl,by
    have ew:(if decide (s=f.length)=true then("end" :Str) else if bQ f g s=true then "tired" else "torn")=rV true f g s:=by
     unfold rV;by_cases x:s=f.length
     .rw[decide_eq_true x,if_pos rfl];exact(if_pos (show s=(if true=true then f.length else 0) from x)).symm
     .rw[decide_eq_false x,if_neg C8];exact(if_neg (show¬ s=(if true=true then f.length else 0) from x)).symm
    rw[ew];exact h]) ?_
   dsimp![A.ob,dh];apply fY (v:=.int (s:Int)) (G1:=i) (λR h=>#[p,t,q,f,g,s,rfl,A,h]) ?_;simp![A.ob,dh];apply jF (post:=λd r=>∃j,d=.ref j/\i j=none/\r=aG i j (.lst (g.map .int))) (λR h=>#[p,t,q,f,g,s,rfl,A,λj e=>h _ _ #[j,rfl,e,rfl]]) ?_;rintro d r ⟨j,rfl,C,rfl⟩;simp!;apply#[∅,?_];have H:∀b o,G b=some o->i b=some o:=λb o e=>Q.kp b o (aP e O) (aP e HI) (g1.kp _ _ e);have WU:G j=none:=by
    cases ez:G j with
    | none=>rfl| some o=>rw[H j o ez] at C;cases C
   have:=post j (aG i j (.lst (g.map .int))) WU (by rw[e];exact aC) #[λb o X=>by rw[ay (aP (H b o X) C)];exact H b o X];rw[e] at this;exact this
  simp!;apply fH (λS=>?_) (λS=>stop (E.stop (.inl λz=>S ())));simp![A.ob,dh];apply jF (post:=λd r=>(dw true f g s=false/\d=.bl false/\r=i)\/(dw true f g s=true/\d=.bl true/\aX bH r p t q f (dE true f g s).2 (dE true f g s).1/\∀b,b≠p->b≠q->r b=i b))
   (λR h=>#[p,t,q,f,g,s,B,rfl,A,I,λr x U=>by
    cases l:bQ f g s with
    | false=>exact h _ _ (.inl #[l,rfl,x l])| true=>exact h _ _ (.inr #[l,rfl,(U l).1,(U l).2])]) ?_
  rintro d r (⟨l,rfl,rfl⟩|⟨l,rfl,A2,e2⟩)
  .simp!;exact stop (E.stop (.inr l))
  .simp!;have BM:k<most:=()
   exact ih _ _ (most-(k+1)) () #[k+1,_,_,rfl,E.step BM l,(CD hp I l).1,A2,Q.eqs e2,rfl]
def x09{n:Nat}(oH:n<*T.gN<*kM)(oG:n+1<*T.eA<*jw)(oI:n+1<*T.eB<*jx)(rR:n+1<*T.fh<*ox)(vZ:n+1<*T.fU<*oA)(vX:n+1<*T.fS<*ou)(vH:n+1<*T.kf.1<*kK):n+1+1<*T.ng.1<*uT:=by
 apply dk T.ng.1 ie (λ_ _ _ _ _ _ u =>
   (ar (aM 4 ie.nd (Xb T.gE T.ai.m oH u #v[!0,!1,!2]))
   (ar (aM 5 ie.nd aA)
   (ar (MM (qF (w_and (bE (oW) (!5) (!3) (ah _)) (xn (j3 (fV T.ai.cl T.fh T.ua rR u (!4)))))) (az (Er 5 ie.nd aA xo)))
   (ar (aM 6 ie.nd (ek vH u #v[(fV T.ai.cl T.fU T.zj vZ u (!4)),aS,(fV T.ai.cl T.fS T.zh vX u (!4))]))
   (az (aV (bh #v[!6,(fV T.ai.cl T.eA T.t7 oG u (!4)),(fV T.ai.cl T.eB T.t_ oI u (!4)),!5])))))))) (λds G R h=>?_)
 .let#[Z,O,bx,f,L,x,most,C,rfl,Il,qT,c,hp,post]:=h;simp!;intro p Q;apply So (s:=x) Q Il qT λt q B nra HI A1 g1=>?_;dsimp!;dsimp!;apply Nc (λm M i=>lK λ(k s:Nat) (g:List Int)=>yK (m=most-k) (vA false f most x L k s g) (i7 C f g s) (aX bH i p t q f g s) (Kept p q B i) (M=[some (.tup [Z,.ref O]),some (.ref bx),some (.int (x:Int)),some (.int (most:Int)),some (.ref p),some (.int (k:Int)),none])) (m:=most)
   #[0,x,L,rfl,vA.init,c,A1,Kept.refl,rfl] ?_
  rintro m M i N ⟨k,s,g,em,H,J,A,S,rfl⟩ ih;have stop:∀(e:rn false f most x L=(k,s,g)),Go ((gR (jq (jo kK [] (me (qC bH "at_begin" oA [] (dP 4) eN) (me (dC (.str "begin")) (me (qC bH "may_back" ou [] (dP 4) eN) eN)))) (xk 6)) (jT (sG (me (dP 6) (me (qC bH "place" jw [] (dP 4) eN) (me (qC bH "boxes" jx [] (dP 4) eN) (me (dP 5) eN))))))) { nx:=λ_ i=>R .non i,rt:=R}) [some (.tup [Z,.ref O]),some (.ref bx),some (.int (x:Int)),some (.int (most:Int)),some (.ref p),some (.int (k:Int)),none] i:=by
   intro e;dsimp![A.ob,dh];apply fY (v:=.bl (decide (s=0))) (G1:=i) (λR h=>#[p,t,q,f,g,s,rfl,A,h]) ?_;simp![A.ob,dh];apply fY (v:=.bl (cF f g s)) (G1:=i) (λR h=>#[p,t,q,f,g,s,C,rfl,A,J,h]) ?_;simp!;apply fY (v:=.str (rV false f g s)) (G1:=i) (λR h=>#[_,_,_,rfl,by
    have ew:(if decide (s=0)=true then("begin" :Str) else if cF f g s=true then "tired" else "torn")=rV false f g s:=by
     unfold rV;by_cases y:s=0
     .rw[decide_eq_true y,if_pos rfl];exact(if_pos (show s=(if false=true then f.length else 0) from y)).symm
     .rw[decide_eq_false y,if_neg C8];exact(if_neg (show¬ s=(if false=true then f.length else 0) from y)).symm
    rw[ew];exact h]) ?_
   dsimp![A.ob,dh];apply fY (v:=.int (s:Int)) (G1:=i) (λR h=>#[p,t,q,f,g,s,rfl,A,h]) ?_;simp![A.ob,dh];apply jF (post:=λd r=>∃j,d=.ref j/\i j=none/\r=aG i j (.lst (g.map .int))) (λR h=>#[p,t,q,f,g,s,rfl,A,λj e=>h _ _ #[j,rfl,e,rfl]]) ?_;rintro d r ⟨j,rfl,E,rfl⟩;simp!;apply#[∅,?_];have I:∀b o,G b=some o->i b=some o:=λb o e=>S.kp b o (aP e Q) (aP e HI) (g1.kp _ _ e);have WU:G j=none:=by
    cases ez:G j with
    | none=>rfl| some o=>rw[I j o ez] at E;cases E
   have:=post j (aG i j (.lst (g.map .int))) WU (by rw[e];exact aC) #[λb o Y=>by rw[ay (aP (I b o Y) E)];exact I b o Y];rw[e] at this;exact this
  simp!;apply fH (λU=>?_) (λU=>stop (H.stop (.inl λz=>U ())));simp![A.ob,dh];apply jF (post:=λd r=>(dw false f g s=false/\d=.bl false/\r=i)\/(dw false f g s=true/\d=.bl true/\aX bH r p t q f (dE false f g s).2 (dE false f g s).1/\∀b,b≠p->b≠q->r b=i b))
   (λR h=>#[p,t,q,f,g,s,C,rfl,A,J,λr y X=>by
    cases l:cF f g s with
    | false=>exact h _ _ (.inl #[l,rfl,y l])| true=>exact h _ _ (.inr #[l,rfl,(X l).1,(X l).2])]) ?_
  rintro d r (⟨l,rfl,rfl⟩|⟨l,rfl,A2,e2⟩)
  .simp!;exact stop (H.stop (.inr l))
  .simp!;have BM:k<most:=()
   exact ih _ _ (most-(k+1)) () #[k+1,_,_,rfl,H.step BM l,(CD hp J l).1,A2,S.eqs e2,rfl]
def wy6{n:Nat}:n+1<*T.kf.1<*kK:=by
 apply dk T.kf.1 vw8 (λ_ _ _ _ _ _ f =>
   (ar (aJ (j3 (!0)) (az (aV (!1))) cj)
   (az (aV (nZ (j3 (!2)) aS aS))))) (λg G R h=>?_)
 .let#[a,c,w,rfl,post]:=h;cases a <;> cases c <;> (simp?;exact post)
def wz4{n:Nat}(I:n<*T.mU.1<*uK):n+1<*T.mV.1<*uL:=by
 apply dk T.mV.1 pz (λ_ _ _ _ _ _ A =>
   (ar (aM 1 pz.nd (aK gp (dJ gn rfl T.bq ∅ #v[¬0]) aA))
   (az (aV (bh #v[¬0,(o7 (N':=["row", "last"]) (ix:=[none,some 1]) (jI rfl rfl rfl) (v55 rfl T.gi #v[¬0]) (λ_ _ _ _=>(cI 0 (show(["row", "last"]:List Str).Nodup by decide))) (λ_ _ _ _=>mn) (λ_ _ _ _=>(ek I A #v[!0,!1])))]))))) (λN G R h=>?_)
 .let#[O,x,f,rfl,k,B,M,post]:=h;simp?[k,Ax,B0];intro p q;have u:x≠p:=aP k q;have H:(f.map Row.d).reverse=f.reverse.map Row.d:=by rw[Pc]
  rw[H];apply j6 (λr o t=>lK λ(i g:List Row) (v:Option D)=>l9 (i++g=f.reverse) (r=g.map Row.d) (t=aG G p (.lst ((i.map (mr f.length)).map Row.d))) (o=[v,some (.int ((f.length:Int)-1))])) #[[],f.reverse,none,rfl,rfl,rfl,rfl] ?_ ?_
  .rintro o t ⟨i,g,v,e,l,rfl,rfl⟩;have E:g=[]:=by simpa using l.symm
   subst E;rw[E5] at e;subst e;apply#[by rw[ay u,k];rfl,?_];apply#[∅,post p _ q ?_ (ax.refl.new q)];rw[aC,oO,Pc]
  .rintro z r o t ⟨i,g,v,e,l,rfl,rfl⟩ y;cases g with
   | nil=>cases l
   | cons row g =>
    cases l;apply#[by rw[ay u,k];rfl,?_];have J:row∈f:=Pd.mp (by rw[<- e];simp);let#[j,C]:=List.getElem?_of_mem J;simp!;apply fY (v:=(mr f.length row).d) (G1:=aG G p (.lst ((i.map (mr f.length)).map Row.d))) (λR h=>#[row,f.length,rfl,B.lt C,h]) ?_;simp!;apply#[?_,y _ _ #[i++[row],g,_,by rw[<- e,D1];rfl,rfl,?_,rfl]]
    .have:=congrArg J1 e;rw[B4,C1,Q8] at this;rw[B0,B0];exact C9 (m:=4000) () ∅
    .rw[hE,B7,B7];rfl
def wz3{n:Nat}:n+1<*T.mU.1<*uK:=by
 apply dk T.mU.1 vx1 (λ_ _ _ _ _ _ f =>
   (ar (aJ (bE (aR f) (¬0) aS (ah _)) (az (aV (bh #v[aS,¬0,¬0]))) cj)
   (ar (aJ (bE (aR f) (¬0) aS (ah _)) (az (aV (bh #v[aS,¬0,¬0]))) cj)
   (ar (aJ (bE (aR f) (¬0) aS (ah _)) (az (aV (bh #v[aS,¬0,¬0,(aK gp (!1) (¬0))]))) cj)
   (ar (aJ (bE (aR f) (¬0) aS (ah _)) (az (aV (bh #v[aS,¬0,¬0,(aK gp (!1) (¬0))]))) cj)
   (az (aV (!0)))))))) (λj G R h=>?_)
 .let#[row,m,rfl,g,post]:=h;cases row with
  | add x o =>simp?[Row.d,eF,C7,decide_false,decide_true];exact#[∅,post]| take x o =>simp?[Row.d,eF,C7,decide_false,decide_true];exact#[∅,post]| turn x i l =>simp?[Row.d,eF,C7,decide_false,decide_true];exact post| swap x y =>simp?[Row.d,eF,C7,decide_false,decide_true];exact post| go x n k =>
   have:=g x n k (.inl rfl);have e:(m:Int)-1-(k:Int)=((m-1-k:Nat):Int):=()
   simp?[Row.d,eF,C7,decide_false,decide_true,e];exact#[∅,post]
  | aT x n k =>
   have:=g x n k (.inr rfl);have e:(m:Int)-1-(k:Int)=((m-1-k:Nat):Int):=()
   simp?[Row.d,eF,C7,decide_false,decide_true,e];exact#[∅,post]
def x65{n:Nat}:n+1<*T.kI<*vy:=by
 apply dk T.kI vz4 (λ_ _ _ _ _ _ l =>
   (ar (xl T.ao.cl T.ao.jf (!0) (!1))
   (ar (xl T.ao.cl T.ao.iZ (!0) (!2))
   (ar (xl T.ao.cl T.ao.cy (!0) (dD oK))
   (az (xl T.ao.cl T.ao.qO (!0) aA)))))) (λq G R h=>?_)
 .let#[p,W,m,rfl,k,post]:=h;simp![k,Dj,eF,str_beq,C7,decide_false,decide_true,beq_self_eq_true,F5,O1,putD];apply#[∅,?_];dsimp![aC,Dj,eF,str_beq,C7,decide_false,decide_true,beq_self_eq_true,F5,O1,putD];apply#[∅,?_];dsimp![aC,Dj,eF,str_beq,C7,decide_false,decide_true,beq_self_eq_true,F5,O1,putD];apply#[∅,λj f=>?_];rw[hE] at f;have g:p≠j:=aP aC f;rw[ay (D2 g)] at f;simp![hE,ay g,aC,Dj,eF,str_beq,C7,decide_false,decide_true,beq_self_eq_true,F5,O1,putD];apply#[∅,?_];dsimp![aC,Dj,eF,str_beq,C7,decide_false,decide_true,beq_self_eq_true,F5,O1,putD];apply#[∅,?_];apply post j _ f #[by rw[aC];rfl,?_] λb o i e=>?_
  .rw[ay (D2 g),ay (D2 g),aC];rfl
  .rw[ay i,ay i,ay (aP e f),ay i];exact e
def x66{n:Nat}:n+1<*T.bA<*dR:=by
 apply dk T.bA vz5 (λ_ _ _ _ _ _ k =>
   (ar (ED T.ao.cl T.ao.iZ (!0) aA xo)
   (az (aV (aK gp (fN T.ao.cl T.ao.iZ (!0)) aA))))) (λm G R h=>?_)
 .let#[p,j,W,f,g,st,rfl,A,post]:=h;simp![A.ob,aF];apply#[SA,?_];rw[show((f:Int)+1)=((f+1:Nat):Int) by omega,aF.2.2.2.2.2.2.2.2.1];dsimp![aC,aF];rw[show(((f+1:Nat):Int)-1)=(f:Int) by omega];exact post _ #[aC,by rw[ay (D2 A.pr)];exact A.ro] λb o i l e=>by rw[ay i];exact e
def x64{n:Nat}:n+1<*T.bM<*dQ:=by
 apply dk T.bM vz3 (λ_ _ _ _ _ _ t =>
   (ar (dI (MU (fN T.ao.cl T.ao.cy (!0)) #v[!1]))
   (az (ED T.ao.cl T.ao.qO (!0) (dJ gn rfl T.bq ∅ #v[!1]) xo)))) (λx G R h=>?_)
 .let#[p,r,q,W,u,f,new,st,rfl,A,g,k,j,i,post]:=h;simp![A.ob,A.ro,aF,g];apply#[by rw[B0,B0];exact D3 (m:=20000) () ∅,?_];have l:((new.map Row.d).length<=sizeLine)=True:=eq_true (by rw[B0];exact D3 (m:=20000) () ∅);dsimp![ay A.pr,A.ob,aF,ay k,g,l,B0];rw[show((st:Int)+(new.length:Int))=((st+new.length:Nat):Int) by omega];apply#[SA,?_];rw[aF.2.2.2.2.2.2.2.2.2];apply post _ #[aC,by rw[ay (D2 A.pr),aC,B7]] λb o j i e=>by rw[ay j,ay i];exact e
def x63{n:Nat}(X:n<*T.gO<*rK):n+1<*T.iG<*vx:=by
 apply dk T.iG vz2 (λ_ _ _ _ _ _ O =>
   (ar (dI (em T.ao.cl T.gO T.zk X O (!0) #v[!1,aA,!2]))
   (ar (dI (em T.ao.cl T.gO T.zk X O (!0) #v[!1,aA,!3]))
   (az (ED T.ao.cl T.ao.qO (!0) (aK cf (dJ gn rfl T.bq ∅ #v[!2]) aA) xo))))) (λds G R h=>?_)
 .let#[p,i,q1,q2,W,B,t,f,j,ns,st,rfl,A,J,N,I,M,r,u,h3,post]:=h;have C:∀{G:Gp} {q:Addr} {n:Int} {f new:List Row} {Q:DK},aq bB G p i W B f st->G q=some (.lst (new.map Row.d))->q≠i->f.length<=9000->new.length<=1000->(∀g,aq bB g p i W B (f++(.go t n (f.length+new.length+1)::(new++[.aT t n f.length]))) st->cA p i G g->Q .non g)->∃R,rK [.ref p,.int (t:Int),.int n,.ref q] G R/\∀d g,R d g->Q d g:=λA hq Z r u k =>
   jF (post:=λd g=>d=.non/\aq bB g p i W B _ st/\cA p i _ g) (λR h'=>#[p,i,_,W,B,t,_,_,_,st,rfl,A,hq,Z,r,u,λg x y=>h' _ _ #[rfl,x,y]]) λd g ⟨e,x,y⟩=>by subst e;exact k g x y
  have H:∀{G:Gp} {q:Addr} {l:List Row} {f:List Row},aq bB G p i W B f st->G q=some (.lst (l.map Row.d))->q≠p:=λA k z=>by rw[z,A.ob] at k;cases k
  simp![A.ob,aF];apply C A J I () () λG1 E L=>?_;have HZ:=L _ _ (H A N) M N;have U:=L _ _ (H A J) I J;simp![E.ob,aF];dsimp![E.ob,aF];apply C E HZ M (by rw[B4,C1,B4];show f.length+(j.length+1+1)<=9000;omega) () λG2 Y S=>?_;have VH:=S _ _ (H E U) I U;have l2:((j.map Row.d).length<=sizeLine)=True:=eq_true (by rw[B0];exact D3 (m:=3000) () ∅);simp!;dsimp![Y.ob,aF,VH,l2,B0];apply#[SA,?_];rw[show((st:Int)+((j.length:Int)+3))=((st+(j.length+3):Nat):Int) by omega,aF.2.2.2.2.2.2.2.2.2];apply post _ #[aC,?_] λb o r u e=>by rw[ay r];exact S b o r u (L b o r u e)
  rw[ay (D2 A.pr),Y.ro];have e3:(f++(Row.go t 0 (f.length+j.length+1)::(j++[.aT t 0 f.length]))).length=f.length+(j.length+2):=by rw[B4,C1,B4];rfl
  rw[e3,D1];rfl
def x62{n:Nat}:n+1<*T.gO<*rK:=by
 apply dk T.gO pP (λ_ _ _ _ _ _ H =>
   (ar (aM 4 pP.nd (dJ gn rfl T.bq ∅ #v[(fN T.ao.cl T.ao.cy (!0))]))
   (ar (dI (o_ (fN T.ao.cl T.ao.cy (!0)) #v[(bh #v[aS,!1,!2,(aK cf (aK cf (!4) (dJ gn rfl T.bq ∅ #v[!3])) aA)])]))
   (ar (dI (MU (fN T.ao.cl T.ao.cy (!0)) #v[!3]))
   (az (dI (o_ (fN T.ao.cl T.ao.cy (!0)) #v[(bh #v[aS,!1,!2,!4])]))))))) (λJ G R h=>?_)
 .let#[p,E,q,W,I,x,n,f,new,st,rfl,A,k,r,y,l,post]:=h;have u:((f.map Row.d).length<=sizeLine)=True:=eq_true (by rw[B0];exact D3 (m:=20000) () ∅);have t:((new.map Row.d).length<=sizeLine)=True:=eq_true (by rw[B0];exact D3 (m:=20000) () ∅);simp![A.ob,A.ro,aF,u];dsimp![A.ob,A.ro,aF,k,t];apply#[∅,by rw[B0];exact C9 (m:=20000) () ∅,?_];have C:(f.map Row.d++[D.tup [D.str "go",.int (x:Int),.int n,.int (((f.map Row.d).length:Int)+((new.map Row.d).length:Int)+1)]])=(f++[Row.go x n (f.length+new.length+1)]).map Row.d:=by rw[B7,B0,B0];rfl
  rw[C];obtain⟨g,i⟩:∃g,g=f++[Row.go x n (f.length+new.length+1)]:=#[_,rfl];have L:g.length=f.length+1:=by rw[i,B4];rfl
  rw[<- i];dsimp![ay A.pr,A.ob,aF,aC,ay r,k];apply#[by rw[B0,B0];exact D3 (m:=20000) () ∅,?_];rw[<- B7];dsimp![ay A.pr,A.ob,aF,aC];apply#[∅,by rw[B0,B4];exact C9 (m:=20000) () ∅,?_];rw[hE,hE];apply post _ #[by rw[ay A.pr];exact A.ob,?_] λb o y l e=>by rw[ay l];exact e
  rw[aC,i];have B:f++(Row.go x n (f.length+new.length+1)::(new++[.aT x n f.length]))=(f++[Row.go x n (f.length+new.length+1)]++new)++[Row.aT x n f.length]:=by simp
  rw[B,B7 (l₁:=f++[Row.go x n (f.length+new.length+1)]++new),B0];rfl
def wz0{n:Nat}(Lv:n<*T.kI<*vy)(rM:n+1<*T.gJ.1<*Zu):n+1+1<*T.kg.1<*rh:=by
 apply dk T.kg.1 kU (λ_ _ _ _ _ _ A =>
   (ar (aM 5 kU.nd (Xb T.lD T.ao.m Lv A #v[!2,!4]))
   (ar (aM 6 kU.nd (vh7 A rfl T.uC rfl T.gj #v[!1,!3]))
   (ar (dI (ek rM A #v[!0,!6,!5]))
   (az (aV (bh #v[(fN T.ao.cl T.ao.cy (!5)),(o7 (N':=["name", "where"]) (ix:=[none,some 6]) (jI rfl rfl rfl) (jK (!1)) (λ_ _ _ _=>(cI 0 (show(["name", "where"]:List Str).Nodup by decide))) (λ_ _ _ _=>mn) (λ_ _ _ _=>(xt A (!1) (!0)))),(fN T.ao.cl T.ao.iZ (!5)),(fN T.ao.cl T.ao.qO (!5))]))))))) (λds G R h=>?_)
 .let#[pc,pa,W,i,f,g,u,rfl,Y,IB,I,hb,H,A,hs,sA,hsz,hW,post]:=h;simp!;intro p S;have g0:ax G (aG G p (.ins bB [])):=ax.refl.new S;apply jF (post:=λd k=>d=.non/\∃j,G j=none/\j≠p/\aq bB k p j W i [] 0/\ax G k) (λR h=>#[p,W,i,rfl,aC,λj k x1 x2 x3=>h _ _ #[rfl,j,g0.none x1,D2 (aP aC x1),x2,#[λb o e=>x3 b o (aP e S) (g0.kp _ _ e)]]]) ?_;rintro d L ⟨rfl,j,N,Vl,A1,g1⟩;apply#[rfl,?_];have BE:=g1.kp _ _ IB;have uA3:=g1.kp _ _ Y;have U:(f.map X2).map kD=f.map D.str:=by rw[Q1];rfl
  dsimp![TN];apply#[f.map X2,g.map nD,by rw[U];rfl,by show bt (L pa)=_;rw[BE];rfl,by rw[B0,B0];exact I.symm,by rw[B0];omega,λq VS=>?_];rw[v41 I H];have g2:ax G (aG L q (.bI (bC f g))):=g1.new VS;have A2:=A1.new (o:=.bI (bC f g)) VS;have Z:G q=none:=g1.none VS;dsimp!;apply jF (post:=λd k=>d=.non/\aq bB k p j W (bp W f u 0 g i).2.2.1 (bp W f u 0 g i).1 (bp W f u 0 g i).2.2.2/\k q=some (.bI (bC f (bp W f u 0 g i).2.1))/\(∀b o,b≠p->b≠j->b≠q->aG L q (.bI (bC f g)) b=some o->k b=some o)) (λR h=>#[.ref pc,p,j,q,W,i,f,g,[],0,u,rfl,A2,aC,by show bt (aG L q (.bI (bC f g)) pc)=_;rw[g2.kp _ _ Y];rfl,λz=>aP Y N (D.ref.inj z),I,hb,H,A,hs,C9 sA ∅,by show 0+22*bZ u<=3960;omega,hW,λk x y z=>h _ _ #[rfl,by rw[I0,U6] at x;exact x,y,z]]) ?_;rintro d G3 ⟨rfl,A3,w3,f3⟩;have g3:ax G G3:=#[λb o e=>f3 b o (aP e S) (aP e N) (aP e Z) (g2.kp _ _ e)];simp!;dsimp![A3.ob,aF];intro p1 E;have Wn:(bp W f u 0 g i).2.1.length=f.length:=(sV hW hb u (a:=0) (fr:=i) A hs I).2.2.2.1;generalize hX:bp W f u 0 g i=X at *;let#[new,Vh,f3',uA1]:=X;apply j6 (λr M k=>lK λ(l t:List Str) (Q:Option D)=>l9 (l++t=f) (r=t.map D.str) (k=aG G3 p1 (.lst ((l.map (gtB f Vh)).map nD))) (M=[Q,some (.ref q)])) #[[],f,none,rfl,rfl,rfl,rfl] ?_ ?_
  .rintro M G4 ⟨l,t,Q,B,J,rfl,rfl⟩;have ht:t=[]:=by simpa using J.symm
   subst ht;rw[E5] at B;subst B;apply#[trivial,?_];have A4:=A3.new (o:=.lst ((l.map (gtB l Vh)).map nD)) E;simp![A4.ob,aF];rw[Tp H Wn];rw[Tp H Wn] at A4;apply#[∅,post j p1 _ N (g3.none E) ?_ A4.ro aC (g3.new E)];exact aP A3.ro E
  .rintro z t M G4 ⟨l,t,Q,B,J,rfl,rfl⟩ ih;cases t with
   | nil=>cases J
   | cons O t =>
    cases J;apply#[trivial,?_];have hm:O∈f:=by rw[<- B];simp
    have C:=congrArg J1 B;rw[B4,C1] at C;simp![wj];apply#[q,bC f Vh,.inr O,_,rfl,rfl,by rw[ay (aP w3 E)];exact w3,xx hm Wn,?_];simp![aC];apply#[C9 (m:=1000) (by rw[B0,B0];omega) ∅,ih _ _ #[l++[O],t,_,by rw[<- B];simp,rfl,?_,rfl]];rw[hE,B7,B7];rfl
def wy8{n dp:Nat}(KA:n<*T.mS.1<*lL dp)(oE:n<*T.kr.1<*oo)(Kz:n<*T.mR.1<*uJ):n+1<*T.gJ.1<*fB (dp+1):=by
 apply dk T.gJ.1 i_ (λ_ _ _ _ _ _ hr =>
   (az (j0 (jK (!0)) (cI 3 i_.nd) (az (aJ (bE (aR hr) (¬3) aS (ah _)) (az (ML hr (!1) (¬3) (ek oE hr #v[¬3,!1,!2]))) (az (aJ (bE (aR hr) (¬3) aS (ah _)) (ar (aM 4 i_.nd (ek oE hr #v[¬3,!1,!2]))
   (ar (aM 5 i_.nd (ek oE hr #v[¬3,!1,!2]))
   (az (ML hr (!1) (¬3) (ek Kz hr #v[¬3,!4,!5,!2]))))) (az (dI (ek KA hr #v[!3,!1,!2])))))))))) (λds G R h=>?_)
 .let#[d,p,C,u,W,H,i,pl,g,st,rs,rfl,A,hw,Q,nd,hl,hb,hn,aE,IE,sA,hsz,S,post]:=h;have J:u≠p:=λz=>by rw[z,A.ob] at hw;cases hw
  have L:u≠C:=λz=>by rw[z,A.ro] at hw;cases hw
  have kd:∀M:Gp,(∀b o,b≠p->b≠C->b≠u->G b=some o->M b=some o)->tP M d=some (bY rs):=by
   intro M f;cases d with
   | tup ds=>exact Q| ref a =>
    have yu:bt (G a)=some (bY rs):=Q;cases e:G a with
    | none=>rw[e] at yu;cases yu
    | some o =>
     have n1:a≠p:=λz=>by rw[z,A.ob] at yu;cases yu
     have n2:a≠C:=λz=>nd (by rw[z]);have n3:a≠u:=λz=>by rw[z,hw] at yu;cases yu
     show bt (M a)=_;rw[f a o n1 n2 n3 e,<- e];exact yu
   | _=>exact absurd Q (by simp[tP])
  apply x98 Q rfl λok jQ=>?_;apply j5 (λr σ M=>DG λ(l t:List av) (Z Y U:Option D)=>yK (l++t=rs) (r=bY t) (aq bB M p C W (bp W i l g.length pl H).2.2.1 (g++(bp W i l g.length pl H).1) (st+(bp W i l g.length pl H).2.2.2)) (M u=some (.bI (bC i (bp W i l g.length pl H).2.1))) (∀b o,b≠p->b≠C->b≠u->G b=some o->M b=some o) (σ=[some d,some (.ref u),some (.ref p),Z,Y,U])) #[[],rs,none,none,none,rfl,rfl,by show aq bB G p C W H (g++[]) (st+0);rw[E5];exact A,hw,λ_ _ _ _ _ e=>e,rfl] ?_ ?_
  .rintro σ G1 ⟨l,t,Z,Y,U,e,e2,A1,B,f1,rfl⟩;have ht:t=[]:=by
    cases t with
    | nil=>rfl| cons x t=>cases e2
   subst ht;rw[E5] at e;subst e;exact#[jQ _ (kd _ f1),post G1 A1 B f1]
  .rintro z r σ G1 ⟨l,t,Z,Y,U,e,e2,A1,B,f1,rfl⟩ ih;cases t with
   | nil=>cases e2
   | cons E t =>
    cases e2;apply#[jQ _ (kd _ f1),?_];have hm:E∈rs:=by rw[<- e];simp
    have NJ:=w08 aE hm;have hnr:=w13 IE hm;have uj:=Tq (B95 sA) E hm;have N:=uy2 (W:=W) (bs:=i) l (r:=E) (a:=g.length) (pl:=pl) (fr:=H);have Ii:bZ rs=bZ l+(pe E+bZ t):=by rw[<- e,CT];rfl
    have BH:d5 W i l:=by rw[<- e] at aE;exact(d4.mp aE).1
    have hnL:fO l:=by rw[<- e] at IE;exact(ft.mp IE).1
    have hle:=sV S hb l (a:=g.length) (fr:=H) BH hnL hl;generalize hX:bp W i l g.length pl H=X at *;let#[xr,q,j,xs]:=X;obtain⟨q1,q2,q3,O,q5⟩:xr.length<=22*bZ l/\j<=H+9*bZ l/\H<=j/\q.length=i.length/\xs<=22*bZ l:=hle;have A1:aq bB G1 p C W j (g++xr) (st+xs):=A1;have B:G1 u=some (.bI (bC i q)):=B;have iP:(g++xr).length=g.length+xr.length:=B4;have ld:(bC i q).length<sizeLine:=C9 (m:=1000) (by have:=Fb i q;(clear iP B q5 q3 q2 q1 N hX Ii uj ih e f1 jQ kd L J post S hsz sA nd Q hw;omega)) ∅;have N:bp W i (l++[E]) g.length pl H=(xr++(cB W i E (g.length+xr.length) q j).1,(cB W i E (g.length+xr.length) q j).2.1,(cB W i E (g.length+xr.length) q j).2.2.1,xs+(cB W i E (g.length+xr.length) q j).2.2.2):=N;generalize BX:forL ok _ _ _ (bY t)=FL at ih⊢;have xT:∀(I:Gp) (Z Y U:Option D),aq bB I p C W (cB W i E (g.length+xr.length) q j).2.2.1 (g++xr++(cB W i E (g.length+xr.length) q j).1) (st+xs+(cB W i E (g.length+xr.length) q j).2.2.2)->I u=some (.bI (bC i (cB W i E (g.length+xr.length) q j).2.1))->(∀b o,b≠p->b≠C->b≠u->G1 b=some o->I b=some o)->FL [some d,some (.ref u),some (.ref p),Z,Y,U] I:=λI Z Y U B1 B2 B3 =>
     ih _ _ #[l++[E],t,Z,Y,U,by rw[<- e];simp,rfl,by rw[N,<- D1,<- L7];exact B1,by rw[N];exact B2,λb o h1 h2 h3 e=>B3 b o h1 h2 h3 (f1 b o h1 h2 h3 e),rfl]
    have fin:∀(I:Gp) (Z Y U:Option D) (x:Str) (b f2:Nat) (new:List Row),aq bB I p C W f2 (g++xr++new) (st+xs+new.length)->cA p C G1 I->x∈i->cB W i E (g.length+xr.length) q j=(new,eG i q x b,f2,new.length)->FL [some d,some (.ref u),some (.ref p),Z,Y,U] (aG I u (.bI (mh (bC i q) (.inr x) (.int (b:Int))))):=by
     intro I Z Y U x b f2 new A2 a2 hx ev;rw[Ur hx hn O];apply xT _ _ _ _ ?_ ?_ λc o h1 h2 h3 e=>?_
     .rw[ev];exact#[by rw[ay (D2 J)];exact A2.ob,by rw[ay (D2 L)];exact A2.ro]
     .rw[aC,ev]
     .rw[ay h3];exact a2 c o h1 h2 e
    cases E with
    | is x a =>obtain⟨hx,ha⟩:x∈i/\jN W i a:=NJ;have iE:pe (.is x a)=1:=rfl;simp![gD,Ek];apply MC A1 B O ha (by(clear fin xT N uj e ih BX ld B q5 O q3 q2 hX f1 jQ kd L J post S sA hb hl nd Q hw;omega)) λI A2 a2=>?_;simp!;apply#[u,bC i q,.inr x,rfl,rfl,a2 _ _ J L B,ld,?_];exact fin I _ _ _ x _ _ _ A2 a2 hx rfl
    | op x o a c =>obtain⟨hx,ho,ha,hc⟩:x∈i/\o∈L3.signs/\jN W i a/\jN W i c:=NJ;have iE:pe (.op x o a c)=1:=rfl;have d1:(F6 "op" = F6 "is")=False:=eq_false ∅;simp![gD,d1];apply MC A1 B O ha (by(clear d1 fin xT N uj e ih BX ld B q5 O q3 q2 hX f1 jQ kd L J post S sA hb hl nd Q hw;omega)) λI A2 a2=>?_;have s_:=a2 _ _ J L B;have la:=o9 (fr:=j) a;have lc:=o9 (fr:=a_ j a) c;simp!;dsimp!;apply MC A2 s_ O hc (by rw[B4];(clear lc s_ d1 fin xT N uj e ih BX ld B q5 O q3 q2 hX f1 jQ kd L J post S sA hb hl nd Q hw;omega)) λG3 A3 a3=>?_;have hw3:=a3 _ _ J L s_;simp!;dsimp![Ek];apply bS #[o,ho,p,C,W,a_ (a_ j a) c,fo i q j a,fo i q (a_ j a) c,_,_,rfl,A3,S,by rw[B4,B4];(clear hw3 s_ d1 fin xT N uj e ih BX ld B q5 O q3 q2 hX f1 jQ kd L J post S sA hb hl nd Q hw;omega),λG4 A4 a4=>?_];simp!;apply#[u,bC i q,.inr x,rfl,rfl,a4 _ _ J L hw3,ld,?_];apply fin G4 _ _ _ x _ _ _ ?_ (a2.trans (a3.trans a4)) hx rfl;show aq bB G4 p C W (my (a_ (a_ j a) c) o) (g++xr++(di j a++di (a_ j a) c++gq W (fo i q j a) (fo i q (a_ j a) c) (a_ (a_ j a) c) o)) (st+xs+(di j a++di (a_ j a) c++gq W (fo i q j a) (fo i q (a_ j a) c) (a_ (a_ j a) c) o).length);rw[show g++xr++(di j a++di (a_ j a) c++gq W (fo i q j a) (fo i q (a_ j a) c) (a_ (a_ j a) c) o)=g++xr++di j a++di (a_ j a) c++gq W (fo i q j a) (fo i q (a_ j a) c) (a_ (a_ j a) c) o by simp[D1],B4,B4,<- L7,<- L7];exact A4
    | fz a ys ns =>have d1:(F6 "choose" = F6 "is")=False:=eq_false ∅;have d2:(F6 "choose" = F6 "op")=False:=eq_false ∅;have mM:1+max (bc ys) (bc ns)<=dp:=uj;simp![gD,d1,d2];apply jF (post:=λd M=>d=.non/\aq bB M p C W (cB W i (.fz a ys ns) (g.length+xr.length) q j).2.2.1 (g++xr++(cB W i (.fz a ys ns) (g.length+xr.length) q j).1) (st+xs+(cB W i (.fz a ys ns) (g.length+xr.length) q j).2.2.2)/\M u=some (.bI (bC i (cB W i (.fz a ys ns) (g.length+xr.length) q j).2.1))/\∀b o,b≠p->b≠C->b≠u->G1 b=some o->M b=some o) (λR h'=>#[p,C,u,W,j,i,q,g++xr,st+xs,a,ys,ns,rfl,A1,B,O,hb,hn,NJ,hnr,by(clear h' d2 d1 fin xT N Ii uj e ih BX ld iP B q5 O q3 q2 q1 hX f1 jQ kd L J post S hsz sA hb hl nd Q hw;omega),by(clear h' d2 d1 fin xT N Ii uj e ih BX ld iP B q5 O q3 q2 q1 hX f1 jQ kd L J post S hsz sA hb hl nd Q hw;omega),by(clear h' mM d2 d1 fin xT N uj e ih BX ld B q5 O q3 q2 hX f1 jQ kd L J post S sA hb hl nd Q hw;omega),S,λM x y z=>h' _ _ #[rfl,by rw[iP] at x;exact x,by rw[iP] at y;exact y,z]]) ?_;rintro d I ⟨rfl,A2,w2,f2⟩;simp!;exact xT I _ _ _ A2 w2 f2
    | j8 k ys=>exact hnr.elim
def wy9{n dp:Nat}(bV:n<*T.bA<*dR)(Lu:n<*T.iG<*vx)(rM:n<*T.gJ.1<*fB dp)(oE:n<*T.kr.1<*oo)(KI:n<*T.mX.1<*uO):n+1<*T.mS.1<*lL dp:=by
 apply dk T.mS.1 f_ (λ_ _ _ _ _ _ hr =>
   (ar (aM 3 f_.nd (oN Uh rfl T.gj ∅ #v[!1]))
   (ar (dI (ek rM hr #v[¬0,!3,!2]))
   (ar (aM 4 f_.nd (oN Uh rfl T.gj ∅ #v[!1]))
   (ar (dI (ek rM hr #v[¬0,!4,!2]))
   (ar (aM 5 f_.nd (ek KI hr #v[(ek oE hr #v[¬0,!1,!2]),!2]))
   (ar (dI (xj2 (!1) (!3)))
   (ar (EE 6 f_.nd (N':=["name", "yes", "no"]) (ix:=[none,some 3,some 4]) (jI rfl rfl rfl) (wk7 (!3)) (λ_ _ _ _=>(cI 0 (show(["name", "yes", "no"]:List Str).Nodup by decide))) (λ_ _ _ _=>(Ti (bE (rT hr) (vh8 hr (!1) (!0)) (xt hr (!2) (!0)) (ah _)))) (λ_ _ _ _=>(!0)))
   (ar (j0 (jK (!6)) (cI 7 f_.nd) (az (ML hr (!1) (!7) (fV T.ao.cl T.bA T.eh bV hr (!2)))))
   (az (dI (em T.ao.cl T.iG T.HN Lu hr (!2) #v[!5,(o7 (N':=["name", "where", "yes"]) (ix:=[none,some 1,some 3]) (jI rfl rfl rfl) (jK (!6)) (λ_ _ _ _=>(cI 0 (show(["name", "where", "yes"]:List Str).Nodup by decide))) (λ_ _ _ _=>mn) (λ_ _ _ _=>(bh #v[aS,(xt hr (!1) (!0)),(bh #v[aS,(vh8 hr (!2) (!0))])]))),(o7 (N':=["name", "where", "no"]) (ix:=[none,some 1,some 4]) (jI rfl rfl rfl) (jK (!6)) (λ_ _ _ _=>(cI 0 (show(["name", "where", "no"]:List Str).Nodup by decide))) (λ_ _ _ _=>mn) (λ_ _ _ _=>(bh #v[aS,(xt hr (!1) (!0)),(bh #v[aS,(xt hr (!2) (!0))])])))])))))))))))) (λds G R h=>?_)
 .let#[p,rp,wa,W,fr,bs,pl,rows,st,c,ys,ns,rfl,A,hw,hl,hb,hn,aE,IE,qb,mL,hsz,hW,post]:=h;obtain⟨hc,oky,okn⟩:jN W bs c/\d5 W bs ys/\d5 W bs ns:=aE;obtain⟨nty,ntn⟩:fO ys/\fO ns:=IE;have hsz:rows.length+22*(1+bZ ys+bZ ns)<=3960:=hsz;have eZ:wa≠p:=λz=>by rw[z,A.ob] at hw;cases hw
  have eY:wa≠rp:=λz=>by rw[z,A.ro] at hw;cases hw
  have hyl:=sV hW hb ys (a:=rows.length) (fr:=fr) oky nty hl;simp![gD];apply#[wa,_,rfl,hw,λpy jP=>?_];have lV:py≠p:=D2 (aP A.ob jP);have lU:py≠rp:=D2 (aP A.ro jP);have lT:py≠wa:=D2 (aP hw jP);dsimp!;apply bS #[.tup (bY ys),p,rp,py,W,fr,bs,pl,rows,st,ys,rfl,A.new jP,aC,rfl,by simp,hl,hb,hn,oky,nty,qb,by(clear lT lU lV jP eY eZ post hW mL qb hb hl hw;omega),hW,λG2 A2 y2 f2=>?_];have qk:∀b o,b≠p->b≠rp->G b=some o->G2 b=some o:=λb o h1 h2 e=>f2 b o h1 h2 (aP e jP) (by rw[ay (aP e jP)];exact e);have w2:=qk _ _ eZ eY hw;have fc:∀{N:List Row×List Nat×Nat×Nat},bp W bs ns (rows.length+(bp W bs ys rows.length pl fr).1.length) pl (bp W bs ys rows.length pl fr).2.2.1=N->cB W bs (.fz c ys ns) rows.length pl fr=((bp W bs ys rows.length pl fr).1++N.1++di N.2.2.1 c++[Row.take (a_ N.2.2.1 c) (.box (fo bs pl N.2.2.1 c)),Row.turn (a_ N.2.2.1 c+1) 0 [(a_ N.2.2.1 c,31)]]++sH (rows.length+((bp W bs ys rows.length pl fr).1++N.1++di N.2.2.1 c++[Row.take (a_ N.2.2.1 c) (.box (fo bs pl N.2.2.1 c)),Row.turn (a_ N.2.2.1 c+1) 0 [(a_ N.2.2.1 c,31)]]).length) (a_ N.2.2.1 c+1) (iX (a_ N.2.2.1 c+2) (uY (bp W bs ys rows.length pl fr).2.1 N.2.1)) (iX (a_ N.2.2.1 c+2) (uN (bp W bs ys rows.length pl fr).2.1 N.2.1)),gs (a_ N.2.2.1 c+2) (bp W bs ys rows.length pl fr).2.1 N.2.1,a_ N.2.2.1 c+2+(uY (bp W bs ys rows.length pl fr).2.1 N.2.1).length,(bp W bs ys rows.length pl fr).2.2.2+N.2.2.2+(di N.2.2.1 c).length+2+((uY (bp W bs ys rows.length pl fr).2.1 N.2.1).length+3)):=λe=>by subst e;rfl
  generalize hY:bp W bs ys rows.length pl fr=Y at *;let#[yr,yp,yf,oJ]:=Y;obtain⟨l1,l2,l3,l4,l5⟩:yr.length<=22*bZ ys/\yf<=fr+9*bZ ys/\fr<=yf/\yp.length=bs.length/\oJ<=22*bZ ys:=hyl;have A2:aq bB G2 p rp W yf (rows++yr) (st+oJ):=A2;have y2:G2 py=some (.bI (bC bs yp)):=y2;have NL:=sV hW hb ns (a:=rows.length+yr.length) (fr:=yf) okn ntn hl;have iP:(rows++yr).length=rows.length+yr.length:=B4;simp!;dsimp!;apply#[wa,_,rfl,w2,λpn ke=>?_];have pY:pn≠p:=D2 (aP A2.ob ke);have pX:pn≠rp:=D2 (aP A2.ro ke);have pW:pn≠wa:=D2 (aP w2 ke);have qN:pn≠py:=D2 (aP y2 ke);dsimp!;apply jF (post:=λd G'=>d=.non/\aq bB G' p rp W (bp W bs ns (rows.length+yr.length) pl yf).2.2.1 (rows++yr++(bp W bs ns (rows.length+yr.length) pl yf).1) (st+oJ+(bp W bs ns (rows.length+yr.length) pl yf).2.2.2)/\G' pn=some (.bI (bC bs (bp W bs ns (rows.length+yr.length) pl yf).2.1))/\∀b o,b≠p->b≠rp->b≠pn->aG G2 pn (.bI (bC bs pl)) b=some o->G' b=some o) (λR h'=>#[.tup (bY ns),p,rp,pn,W,yf,bs,pl,rows++yr,st+oJ,ns,rfl,A2.new ke,aC,rfl,by simp,hl,hb,hn,okn,ntn,mL,by rw[iP];(clear h' qN pW pX pY ke y2 l5 l4 l3 l2 fc hY w2 qk f2 lT lU lV jP eY eZ post hW mL qb hb hl hw;omega),hW,λG' x y z=>h' _ _ #[rfl,by rw[iP] at x;exact x,by rw[iP] at y;exact y,z]]) ?_;rintro d G4 ⟨rfl,A4,n4,f4⟩;have qj:∀b o,b≠p->b≠rp->G2 b=some o->G4 b=some o:=λb o h1 h2 e=>f4 b o h1 h2 (aP e ke) (by rw[ay (aP e ke)];exact e);have w4:=qj _ _ eZ eY w2;have y4:=qj _ _ lV lU y2;have fc:=fc (N:=bp W bs ns (rows.length+yr.length) pl yf) rfl;generalize hN:bp W bs ns (rows.length+yr.length) pl yf=N at *;let#[nr,np,nf,oP]:=N;obtain⟨m1,m2,m3,m4,m5⟩:nr.length<=22*bZ ns/\nf<=yf+9*bZ ns/\yf<=nf/\np.length=bs.length/\oP<=22*bZ ns:=NL;have A4:aq bB G4 p rp W nf (rows++yr++nr) (st+oJ+oP):=A4;have n4:G4 pn=some (.bI (bC bs np)):=n4;have gZ:=o9 (fr:=nf) c;simp!;dsimp!;apply MC A4 w4 hl hc (by rw[B4,iP];(clear gZ n4 m5 m4 m3 m2 fc hN y4 w4 qj f4 qN pW pX pY ke y2 l5 l4 l3 l2 hY w2 qk f2 lT lU lV jP eY eZ post hW mL qb hb hl hw;omega)) λG5 A5 a5=>?_;simp!;apply bS #[p,rp,W,a_ nf c,fo bs pl nf c,_,_,rfl,A5,by rw[B4,B4,iP];(clear n4 m5 m4 m3 m2 fc hN y4 w4 qj f4 qN pW pX pY ke y2 l5 l4 l3 l2 hY w2 qk f2 lT lU lV jP eY eZ post hW mL qb hb hl hw;omega),λG6 A6 a6=>?_];have f6:∀b o,b≠p->b≠rp->G4 b=some o->G6 b=some o:=λb o h1 h2 e=>a6 b o h1 h2 (a5 b o h1 h2 e);have w6:=f6 _ _ eZ eY w4;have y6:=f6 _ _ lV lU y4;have n6:=f6 _ _ pY pX n4;generalize hF:a_ nf c+2=F at *;simp!;dsimp![B_];apply#[#[wa,_,rfl,w6],wa,py,_,_,rfl,rfl,D2 lT,w6,y6,D3 (m:=1000) (by have:=Fb bs pl;have:=Fb bs yp;(clear fc hF n6 y6 w6 f6 gZ n4 m5 m3 m2 m1 hN y4 w4 qj f4 qN pW pX pY ke iP y2 l5 l3 l2 l1 hY w2 qk f2 lT lU lV jP eY eZ hsz post hW mL qb hw;omega)) ∅,?_];rw[vd5 hn hl l4];obtain⟨G7,BW⟩:∃G7,G7=aG G6 wa (.bI (bC bs yp)):=#[_,rfl];have w7:G7 wa=some (.bI (bC bs yp)):=by rw[BW];exact aC
  have y7:G7 py=some (.bI (bC bs yp)):=by rw[BW,ay lT];exact y6
  have n7:G7 pn=some (.bI (bC bs np)):=by rw[BW,ay pW];exact n6
  have A7:aq bB G7 p rp W F (rows++yr++nr++di nf c++[.take (a_ nf c) (.box (fo bs pl nf c)),.turn (a_ nf c+1) 0 [(a_ nf c,31)]]) (st+oJ+oP+(di nf c).length+2):=by rw[BW];exact#[by rw[ay (D2 eZ)];exact A6.ob,by rw[ay (D2 eY)];exact A6.ro]
  have f7:∀b o,b≠p->b≠rp->b≠wa->G b=some o->G7 b=some o:=λb o h1 h2 h3 e=>by rw[BW,ay h3];exact f6 b o h1 h2 (qj b o h1 h2 (qk b o h1 h2 e))
  rw[<- BW];clear BW;generalize ji:rows++yr++nr++di nf c++[Row.take (a_ nf c) (.box (fo bs pl nf c)),.turn (a_ nf c+1) 0 [(a_ nf c,31)]]=pre at *;generalize wJ:st+oJ+oP+(di nf c).length+2=df at *;dsimp![vv7];apply#[py,bC bs yp,rfl,y7,?_];rw[v20 l4];intro o8;obtain⟨G8,BV⟩:∃G8,G8=aG G7 py (.qg o8 (bC bs yp)):=#[_,rfl];have w8:G8 wa=some (.bI (bC bs yp)):=by rw[BV,ay (D2 lT)];exact w7
  have y8:G8 py=some (.qg o8 (bC bs yp)):=by rw[BV];exact aC
  have n8:G8 pn=some (.bI (bC bs np)):=by rw[BV,ay qN];exact n7
  have A8:aq bB G8 p rp W F pre df:=by rw[BV];exact#[by rw[ay (D2 lV)];exact A7.ob,by rw[ay (D2 lU)];exact A7.ro]
  have f8:∀b o,b≠p->b≠rp->b≠wa->G b=some o->G8 b=some o:=λb o h1 h2 h3 e=>by rw[BV,ay (aP e jP)];exact f7 b o h1 h2 h3 e
  rw[<- BV];clear BV;intro p1 bP;generalize wK:Go (gR _ _ _)=N9;have pV:py≠p1:=aP y8 bP;have tX:pn≠p1:=aP n8 bP;apply j6 (λr σ G'=>lK λ(l t:List Str) (v0:Option D)=>l9 (l++t=bs) (r=t.map D.str) (G'=aG G8 p1 (.lst ((l.filter λn=>!decide (gtB bs yp n=gtB bs np n)).map D.str))) (σ=[v0,some (.ref py),some (.ref pn)])) #[[],bs,none,rfl,rfl,rfl,rfl] ?_ ?_
  .rintro σ G9 ⟨l,t,v0,el,e2,rfl,rfl⟩;have ht:t=[]:=by simpa using e2.symm
   subst ht;rw[E5] at el;subst el;apply#[by rw[ay pV];exact y8,?_];rw[uk4 hn l4 m4];have hU:=v80 (bs:=l) (ps:=yp) (qs:=np) l4 m4;have NX:=AK (ps:=yp) (qs:=np);have uo:=λx=>ER (bs:=l) (ps:=yp) (qs:=np) (x:=x);have lH:=Ta (f:=F) hn l4 m4;have wI:=Ue (f:=F) hn l4 m4;generalize iW l yp np=U at *;obtain⟨G9,zt⟩:∃G9,G9=aG G8 p1 (.lst (U.map D.str)):=#[_,rfl];have w9:G9 wa=some (.bI (bC l yp)):=by rw[zt,ay (aP w8 bP)];exact w8
   have y9:G9 py=some (.qg o8 (bC l yp)):=by rw[zt,ay pV];exact y8
   have n9:G9 pn=some (.bI (bC l np)):=by rw[zt,ay tX];exact n8
   have u9:G9 p1=some (.lst (U.map D.str)):=by rw[zt];exact aC
   have A9:aq bB G9 p rp W F pre df:=by rw[zt];exact A8.new bP
   have wA:p1≠wa:=D2 (aP w8 bP);have wC:p1≠p:=D2 (aP A8.ob bP);have wB:p1≠rp:=D2 (aP A8.ro bP);have f9:∀b o,b≠p->b≠rp->b≠wa->G b=some o->G9 b=some o:=λb o h1 h2 h3 e=>by have:=f8 b o h1 h2 h3 e;rw[zt,ay (aP this bP)];exact this
   rw[<- zt];clear zt;rw[<- wK];dsimp![u9];generalize yq:Go (Az _ _)=NA;apply j5 (λr σ G'=>lK λ(u1 u2:List Str) (v7:Option D)=>yK (u1++u2=U) (r=u2.map D.str) (aq bB G' p rp W (F+u1.length) pre df) (G' wa=some (.bI (bC l (asg l u1 F yp)))) (∀b o,b≠p->b≠rp->b≠wa->G9 b=some o->G' b=some o) (σ=[some (.tup [.str (F6 "choose"),aD c,.tup (bY ys),.tup (bY ns)]),some (.ref wa),some (.ref p),some (.ref py),some (.ref pn),some (.int ((a_ nf c+1:Nat):Int)),some (.ref p1),v7])) #[[],U,none,rfl,rfl,A9,w9,λ_ _ _ _ _ e=>e,rfl] ?_ ?_
   .rintro σ Ag ⟨u1,u2,v7,eu,e2,yN,jD,ql,rfl⟩;have ht:u2=[]:=by simpa using e2.symm
    subst ht;rw[E5] at eu;subst eu;have sW:=ql _ _ wC wB wA u9;apply#[by rw[sW];rfl,?_];rw[lH] at jD;have wZ:=ql _ _ lV lU lT y9;have sZ:=ql _ _ pY pX pW n9;have hml:=EL (ps:=yp) (qs:=np) (fr:=F) ();rw[<- yq];dsimp![yN.ob,aF,sW];intro q1 jO;have dl:(bC l (gs F yp np)).length<=6:=by have:=Fb l (gs F yp np);(clear jO sZ wZ sW u9 wI lH uo hU e2 ql jD yq f9 wB wC wA n9 y9 w9 NX n8 y8 w8 ji n7 y7 w7 fc n6 y6 w6 n4 hN y4 w4 f4 y2 hY w2 f2 post hw tX pV wK bP f8 wJ f7 hF f6 gZ m5 m3 m2 m1 qj qN pW pX pY ke iP l5 l3 l2 l1 qk lT lU lV jP eY eZ hsz hW mL qb;omega)
    apply j6 (λr σ G'=>lK λ(a t:List Str) (v0:Option D)=>l9 (a++t=u1) (r=t.map D.str) (G'=aG Ag q1 (.lst ((a.map λn=>Row.add (gtB l (gs F yp np) n) (.box (gtB l yp n))).map Row.d))) (σ=[v0,some (.ref wa),some (.ref py)])) #[[],u1,none,rfl,rfl,rfl,rfl] ?_ ?_
    .rintro σ sN ⟨a,t,v0,ea,e2,rfl,rfl⟩;have ht:t=[]:=by simpa using e2.symm
     subst ht;rw[E5] at ea;subst ea;rw[wI.1];obtain⟨sN,ur⟩:∃sN,sN=aG Ag q1 (.lst ((iX F (uY yp np)).map Row.d)):=#[_,rfl];have uu:∀b o,Ag b=some o->sN b=some o:=λb o e=>by rw[ur,ay (aP e jO)];exact e
     have ub:sN q1=some (.lst ((iX F (uY yp np)).map Row.d)):=by rw[ur];exact aC
     have Al:aq bB sN p rp W (F+a.length) pre df:=by rw[ur];exact yN.new jO
     have tU:q1≠rp:=D2 (aP yN.ro jO);rw[<- ur];clear ur;have xD:=uu _ _ sW;apply#[by rw[xD];rfl,?_];simp only[xD,bt];intro q2 qQ;apply j6 (λr σ G'=>lK λ(b t:List Str) (v0:Option D)=>l9 (b++t=a) (r=t.map D.str) (G'=aG sN q2 (.lst ((b.map λn=>Row.add (gtB l (gs F yp np) n) (.box (gtB l np n))).map Row.d))) (σ=[v0,some (.ref wa),some (.ref pn)])) #[[],a,none,rfl,rfl,rfl,rfl] ?_ ?_
     .rintro σ Af ⟨b,t,v0,eb,e2,rfl,rfl⟩;have ht:t=[]:=by simpa using e2.symm
      subst ht;rw[E5] at eb;subst eb;rw[wI.2];obtain⟨Af,uq⟩:∃Af,Af=aG sN q2 (.lst ((iX F (uN yp np)).map Row.d)):=#[_,rfl];have zu:∀b o,sN b=some o->Af b=some o:=λb o e=>by rw[uq,ay (aP e qQ)];exact e
      have zo:Af q2=some (.lst ((iX F (uN yp np)).map Row.d)):=by rw[uq];exact aC
      have Zf:aq bB Af p rp W (F+b.length) pre df:=by rw[uq];exact Al.new qQ
      have Bd:q2≠rp:=D2 (aP Al.ro qQ);rw[<- uq];clear uq;apply#[by rw[zu _ _ xD],?_];have hul:=CC (ps:=yp) (qs:=np);have cw:pre.length<=4100:=by rw[<- ji,B4,B4,B4,iP];show rows.length+yr.length+nr.length+(di nf c).length+2<=4100;omega
      apply bS #[p,rp,q1,q2,W,F+b.length,a_ nf c+1,pre,_,_,df,rfl,Zf,zu _ _ ub,zo,tU,Bd,cw,by rw[xv];(clear cw Bd zo zu xD sW u9 wI lH uo e2 qQ tU ub uu dl jO sZ wZ ql jD yq f9 wB wC wA n9 y9 w9 n8 y8 w8 ji n7 y7 w7 fc n6 y6 w6 n4 hN y4 w4 f4 y2 hY w2 f2 post hw tX pV wK bP f8 wJ f7 hF f6 gZ m5 m3 m2 m1 qj qN pW pX pY ke iP l5 l3 l2 l1 qk lT lU lV jP eY eZ hsz hW mL qb;omega),by rw[xv];(clear cw Bd zo zu xD sW u9 wI lH uo e2 qQ tU ub uu dl jO sZ wZ ql jD yq f9 wB wC wA n9 y9 w9 n8 y8 w8 ji n7 y7 w7 fc n6 y6 w6 n4 hN y4 w4 f4 y2 hY w2 f2 post hw tX pV wK bP f8 wJ f7 hF f6 gZ m5 m3 m2 m1 qj qN pW pX pY ke iP l5 l3 l2 l1 qk lT lU lV jP eY eZ hsz hW mL qb;omega),λLw A13 a13=>?_];have f13:∀c o,c≠p->c≠rp->Ag c=some o->Lw c=some o:=λc o h1 h2 e=>a13 c o h1 h2 (zu c o (uu c o e));apply post Lw ?_ ?_ λc o h1 h2 h3 e=>f13 c o h1 h2 (ql c o h1 h2 h3 (f9 c o h1 h2 h3 e))
      .rw[fc];show aq bB Lw p rp W (F+(uY yp np).length) (rows++(yr++nr++di nf c++[Row.take (a_ nf c) (.box (fo l pl nf c)),.turn (a_ nf c+1) 0 [(a_ nf c,31)]]++sH (rows.length+(yr++nr++di nf c++[Row.take (a_ nf c) (.box (fo l pl nf c)),.turn (a_ nf c+1) 0 [(a_ nf c,31)]]).length) (a_ nf c+1) (iX F (uY yp np)) (iX F (uN yp np)))) (st+(oJ+oP+(di nf c).length+2+((uY yp np).length+3)));have hP:pre=rows++(yr++nr++di nf c++[Row.take (a_ nf c) (.box (fo l pl nf c)),.turn (a_ nf c+1) 0 [(a_ nf c,31)]]):=by rw[<- ji];simp only[D1]
       generalize yr++nr++di nf c++[Row.take (a_ nf c) (.box (fo l pl nf c)),.turn (a_ nf c+1) 0 [(a_ nf c,31)]]=PP at hP⊢;rw[xv,hP,B4,D1,hU,<- wJ] at A13;rw[show st+(oJ+oP+(di nf c).length+2+((uY yp np).length+3))=st+oJ+oP+(di nf c).length+2+((uY yp np).length+3) by omega];exact A13
      .rw[fc];exact f13 _ _ eZ eY jD
     .rintro z t σ Af ⟨b,t,v0,eb,e2,rfl,rfl⟩ ih;cases t with
      | nil=>cases e2
      | cons x0 t =>cases e2;have hx:x0∈l:=uo x0 (by rw[<- eb];simp);have hlen:=congrArg J1 eb;rw[B4,C1] at hlen;apply#[by rw[ay (aP xD qQ),xD],?_];simp![wj];have Ay:=uu _ _ jD;have HK:=uu _ _ sZ;apply#[wa,bC l (gs F yp np),.inr x0,_,rfl,rfl,by rw[ay (aP Ay qQ)];exact Ay,xx hx (by(clear HK Ay hlen ih eb qQ xD tU ub uu sW u9 wI lH uo hU e2 dl jO sZ wZ ql jD yq f9 wB wC wA n9 y9 w9 NX n8 y8 w8 ji n7 y7 w7 fc n6 y6 w6 n4 hN y4 w4 f4 y2 hY w2 f2 post hb hl hw tX pV wK bP f8 wJ f7 hF f6 gZ m5 m3 m2 m1 qj qN pW pX pY ke iP l5 l3 l2 l1 qk lT lU lV jP eY eZ hsz hW mL qb;omega)),pn,bC l np,.inr x0,_,rfl,rfl,by rw[ay (aP HK qQ)];exact HK,xx hx m4,?_];simp![aC];apply#[∅,∅,C9 (m:=1000) (by rw[B0,B0];(clear HK Ay ih eb qQ xD tU ub uu sW u9 wI lH uo e2 dl jO sZ wZ ql jD yq f9 wB wC wA n9 y9 w9 n8 y8 w8 ji n7 y7 w7 fc n6 y6 w6 n4 hN y4 w4 f4 y2 hY w2 f2 post hw tX pV wK bP f8 wJ f7 hF f6 gZ m5 m3 m2 m1 qj qN pW pX pY ke iP l5 l3 l2 l1 qk lT lU lV jP eY eZ hsz hW mL qb;omega)) ∅,ih _ _ #[b++[x0],t,_,by rw[<- eb];simp,rfl,?_,rfl]];rw[hE,B7,B7];rfl
    .rintro z t σ sN ⟨a,t,v0,ea,e2,rfl,rfl⟩ ih;cases t with
     | nil=>cases e2
     | cons x0 t =>cases e2;have hx:x0∈l:=uo x0 (by rw[<- ea];simp);have hlen:=congrArg J1 ea;rw[B4,C1] at hlen;apply#[by rw[ay (aP sW jO),sW];rfl,?_];simp![wj,L'];apply#[wa,bC l (gs F yp np),.inr x0,_,rfl,rfl,by rw[ay (aP jD jO)];exact jD,xx hx (by(clear hlen ih ea dl jO sZ wZ sW u9 wI lH uo hU e2 ql jD yq f9 wB wC wA n9 y9 w9 NX n8 y8 w8 ji n7 y7 w7 fc n6 y6 w6 n4 hN y4 w4 f4 y2 hY w2 f2 post hb hl hw tX pV wK bP f8 wJ f7 hF f6 gZ m5 m3 m2 m1 qj qN pW pX pY ke iP l5 l3 l2 l1 qk lT lU lV jP eY eZ hsz hW mL qb;omega)),py,o8,bC l yp,.inr x0,_,rfl,rfl,by rw[ay (aP wZ jO)];exact wZ,xx hx l4,?_];simp![aC];apply#[∅,∅,C9 (m:=1000) (by rw[B0,B0];(clear ih ea dl jO sZ wZ sW u9 wI lH uo e2 ql jD yq f9 wB wC wA n9 y9 w9 n8 y8 w8 ji n7 y7 w7 fc n6 y6 w6 n4 hN y4 w4 f4 y2 hY w2 f2 post hw tX pV wK bP f8 wJ f7 hF f6 gZ m5 m3 m2 m1 qj qN pW pX pY ke iP l5 l3 l2 l1 qk lT lU lV jP eY eZ hsz hW mL qb;omega)) ∅,ih _ _ #[a++[x0],t,_,by rw[<- ea];simp,rfl,?_,rfl]];rw[hE,B7,B7];rfl
   .rintro z r σ Ag ⟨u1,u2,v7,eu,e2,yN,jD,ql,rfl⟩ ih;cases u2 with
    | nil=>cases e2
    | cons x0 u2 =>cases e2;have hx:x0∈l:=uo x0 (by rw[<- eu];simp);apply#[by rw[ql _ _ wC wB wA u9];rfl,?_];simp![Ek,yN.ob,aF];apply sS yN λsN Al Jt=>?_;simp!;have Ay:=Jt _ _ eZ eY jD;apply#[wa,bC l (asg l u1 F yp),.inr x0,rfl,rfl,Ay,C9 (m:=1000) (by have:=Fb l (asg l u1 F yp);(clear Ay ih eu ql jD yq f9 wB wC wA u9 n9 y9 w9 wI lH uo hU NX n8 y8 w8 ji n7 y7 w7 fc n6 y6 w6 n4 hN y4 w4 f4 y2 hY w2 f2 post hw e2 tX pV wK bP f8 wJ f7 hF f6 gZ m5 m3 m2 m1 qj qN pW pX pY ke iP l5 l3 l2 l1 qk lT lU lV jP eY eZ hsz hW mL qb;omega)) ∅,?_];rw[Ur hx hn (by rw[vk5];exact l4),<- v27];apply ih _ _ #[u1++[x0],u2,_,by rw[<- eu];simp,rfl,?_,aC,λb o h1 h2 h3 e=>by rw[ay h3];exact Jt b o h1 h2 (ql b o h1 h2 h3 e),rfl];rw[B4,show F+(u1.length+[x0].length)=F+u1.length+1 from rfl];exact#[by rw[ay (D2 eZ)];exact Al.ob,by rw[ay (D2 eY)];exact Al.ro]
  .rintro z t σ G9 ⟨l,t,v0,el,e2,rfl,rfl⟩ ih;cases t with
   | nil=>cases e2
   | cons x0 t =>
    cases e2;apply#[by rw[ay pV];exact y8,?_];have hm:x0∈bs:=by rw[<- el];simp
    simp![L',wj];apply#[py,o8,bC bs yp,.inr x0,_,rfl,rfl,by rw[ay pV];exact y8,xx hm l4,?_];apply#[pn,bC bs np,.inr x0,_,rfl,rfl,by rw[ay tX];exact n8,xx hm m4,?_];simp![aC];have hlen:=congrArg J1 el;rw[B4,C1] at hlen;by_cases q:gtB bs yp x0=gtB bs np x0
    .rw[if_neg (by simp[q])];apply ih _ _ #[l++[x0],t,_,by rw[<- el];simp,rfl,?_,rfl];rw[Y2,B14 (by simp[q]),C24,E5]
    .rw[if_pos (by rw[decide_eq_false ()];rfl)];apply#[C9 (m:=1000) (by rw[B0];have:=Y8 (λn=>!decide (gtB bs yp n=gtB bs np n)) l;(clear q ih el tX pV wK bP f8 n8 y8 w8 wJ ji f7 n7 y7 w7 fc hF n6 y6 w6 f6 gZ n4 m5 m3 m2 m1 hN y4 w4 qj f4 qN pW pX pY ke iP y2 l5 l3 l2 l1 hY w2 qk f2 lT lU lV jP eY eZ hsz post hW mL qb hw;omega)) ∅,ih _ _ #[l++[x0],t,_,by rw[<- el];simp,rfl,?_,rfl]];rw[hE,Y2,B15 (by simp[q]),C24,B7];rfl
def x10{n:Nat}(r:n<*T.bA<*dR)(q:n<*T.bM<*dQ):n+1<*T.kr.1<*oo:=by
 apply dk T.kr.1 pE (λ_ _ _ _ _ _ g =>
   (ar (aJ (j3 (dJ vm0 rfl T.d7 ∅ #v[!0,(xa0 (T:= "str") T.uD ∅)])) (az (aV (xt g (!1) (!0)))) cj)
   (ar (aM 3 pE.nd (fV T.ao.cl T.bA T.eh r g (!2)))
   (ar (dI (em T.ao.cl T.bM T.gF q g (!2) #v[(dD #v[(bh #v[aS,!3,(bh #v[aS,!0])])])]))
   (az (aV (!3))))))) (λL G R h=>?_)
 .let#[p,E,l,W,j,f,st,M,H,a,rfl,A,hw,m,o,J,post]:=h;cases a with
  | num i =>simp![aD,Cz];apply#[by simp,?_];rw[if_neg ∅];dsimp![A.ob,aF];apply sS A λN k y=>?_;simp!;dsimp![k.ob,aF];apply#[∅,∅,∅,λI t=>?_];apply xm (new:=[.add j (.num (i:Int))]) k t () (P0 rfl) λB C u=>?_;simp!;dsimp!;exact post B C (y.trans u)| box x =>simp![aD,Cz,wj];apply#[by simp,?_];rw[if_pos ∅];exact#[l,_,.inr x,_,rfl,rfl,hw,xx o m,post G (by rw[show f++di j (.box x)=f from E5 _];exact A) cA.refl]
def wy7{n:Nat}(J:n<*T.mY.1<*Zs)(H:n<*T.nU.1<*Zo)(r:n<*T.kG.1<*Qa)(C:n<*T.nX.1<*Zm)(E:n<*T.nW.1<*Zn)(I:n<*T.mZ.1<*Zr)(B:n<*T.nY.1<*Zl):n+1<*T.mR.1<*uJ:=by
 apply CI T.mR.1 vw9 (λu G R h=>?_) (λ_ _ _ _ _ _ g =>
   (ar (aJ (bE (aR g) (!0) aS (ah _)) (az (aV (ek J g #v[!1,!2,!3]))) cj)
   (ar (aJ (bE (aR g) (!0) aS (ah _)) (az (aV (ek H g #v[!1,!2,!3]))) cj)
   (ar (aJ (bE (aR g) (!0) aS (ah _)) (az (aV (ek r g #v[!1,!2,!3]))) cj)
   (ar (aJ (bE (aR g) (!0) aS (ah _)) (az (aV (ek C g #v[!1,!2,!3]))) cj)
   (ar (aJ (bE (aR g) (!0) aS (ah _)) (az (aV (ek E g #v[!1,!2,!3]))) cj)
   (ar (aJ (bE (aR g) (!0) aS (ah _)) (az (aV (ek I g #v[!1,!2,!3]))) cj)
   (az (aV (ek B g #v[!1,!2,!3])))))))))) (λu G R h=>?_)
 .let#[o,q,p,t,W,f,x,y,m,st,rfl,_]:=h;rfl
 .let#[o,q,p,t,W,f,x,y,m,st,rfl,A,i,L,post]:=h;rcases Ua q with rfl|rfl|rfl|rfl|rfl|rfl|rfl
  .simp![J7,I0];exact tF (xs:=xy) (bx:=λf=>f) (fn:=λf=>f+2) (nw:=λW x y f=>gq W x y f "+") A i () post
  .simp![J7,I0];rw[if_neg ∅];dsimp!;exact tF (xs:=xy) (bx:=λf=>f) (fn:=λf=>f+2) (nw:=λW x y f=>gq W x y f "-") A i () post
  .simp![J7,I0];rw[if_neg ∅];dsimp!;rw[if_neg ∅];dsimp!;exact tF (xs:=xy) (bx:=λf=>f) (fn:=λf=>f+1) (nw:=λW x y f=>cM f x y W) A i () post
  .simp![J7,I0];rw[if_neg ∅];dsimp!;rw[if_neg ∅];dsimp!;rw[if_neg ∅];dsimp!;exact tF (xs:=xy) (bx:=λf=>f+1) (fn:=λf=>f+2) (nw:=λW x y f=>gq W x y f "|") A i () post
  .simp![J7,I0];rw[if_neg ∅];dsimp!;rw[if_neg ∅];dsimp!;rw[if_neg ∅];dsimp!;rw[if_neg ∅];dsimp!;exact tF (xs:=xy) (bx:=λf=>f+1) (fn:=λf=>f+2) (nw:=λW x y f=>gq W x y f "^") A i () post
  .simp![J7,I0];rw[if_neg ∅];dsimp!;rw[if_neg ∅];dsimp!;rw[if_neg ∅];dsimp!;rw[if_neg ∅];dsimp!;rw[if_neg ∅];dsimp!;exact tF (xs:=xy) (bx:=λf=>f+1) (fn:=λf=>f+2) (nw:=λW x y f=>gq W x y f "<") A i () post
  .simp![J7,I0];rw[if_neg ∅];dsimp!;rw[if_neg ∅];dsimp!;rw[if_neg ∅];dsimp!;rw[if_neg ∅];dsimp!;rw[if_neg ∅];dsimp!;rw[if_neg ∅];dsimp!;exact tF (xs:=xy) (bx:=λf=>f+2) (fn:=λf=>f+3) (nw:=λW x y f=>gq W x y f "=") A i () post
def wz7{n:Nat}(i:n<*T.bA<*dR)(m:n<*T.bM<*dQ):n+1<*T.mY.1<*Zs:=by
 apply dk T.mY.1 kY (λ_ _ _ _ _ _ f =>
   (ar (aM 3 kY.nd (fV T.ao.cl T.bA T.eh i f (!2)))
   (ar (aM 4 kY.nd (fV T.ao.cl T.bA T.eh i f (!2)))
   (ar (dI (em T.ao.cl T.bM T.gF m f (!2) #v[(dD #v[(bh #v[aS,!3,(bh #v[aS,!0])]),(bh #v[aS,!3,(bh #v[aS,!1])]),(bh #v[aS,!4,(fN T.ao.cl T.ao.jf (!2)),(bh #v[(bh #v[!3,(fN T.ao.cl T.ao.jf (!2))])])]),(bh #v[aS,!3,(bh #v[aS,!4])])])]))
   (az (aV (!3))))))) (λI G R h=>?_)
 .let#[p,B,W,l,x,y,g,st,rfl,A,H,E,post]:=h;simp![xy,J7,I0,A.ob,aF];apply sS A λL k t=>?_;simp!;dsimp![k.ob,aF];apply sS k λJ j r=>?_;simp!;dsimp![j.ob,aF];apply#[∅,∅,∅,∅,∅,∅,∅,∅,∅,∅,λC o=>?_];apply xm (new:=gq W x y l "+") j o () (P0 rfl) λu A3 q=>?_;simp!;dsimp!;exact post u A3 ((t.trans r).trans q)
def x44{n:Nat}(q:n<*T.bA<*dR)(o:n<*T.bM<*dQ)(l:n<*T.jm.1<*LX):n+1<*T.nU.1<*Zo:=by
 apply dk T.nU.1 lr (λ_ _ _ _ _ _ g =>
   (ar (aM 3 lr.nd (ek l g #v[!0,!1,!2]))
   (ar (aM 4 lr.nd (fV T.ao.cl T.bA T.eh q g (!2)))
   (ar (dI (em T.ao.cl T.bM T.gF o g (!2) #v[(dD #v[(bh #v[aS,!4,(fN T.ao.cl T.ao.jf (!2)),(bh #v[(bh #v[!3,(AH T.bN)])])]),(bh #v[aS,!3,(bh #v[aS,!4])])])]))
   (az (aV (!3))))))) (λM G R h=>?_)
 .let#[p,E,W,f,x,y,i,st,rfl,A,m,J,post]:=h;simp![xy,J7,I0];apply tF (xs:=xy) (bx:=λf=>f) (fn:=λf=>f+1) (nw:=λ_ x y f=>[.add f (.box x),.take f (.box y)]) A m () λQ k B=>?_;simp!;dsimp![k.ob,aF];apply sS k λO j u=>?_;simp!;dsimp![j.ob,aF];apply#[∅,∅,∅,∅,∅,∅,λH r=>?_];apply xm (new:=[.turn (f+1) W [(f,31)],.add f (.box (f+1))]) j r (by rw[B4];show _+2<=_;omega) (P0 rfl) λC A3 t=>?_;simp!;dsimp!;rw[D1,L7] at A3;exact post C A3 ((B.trans u).trans t)
def x67{n:Nat}(l:n<*T.bA<*dR)(k:n<*T.bM<*dQ):n+1<*T.jm.1<*LX:=by
 apply dk T.jm.1 pQ (λ_ _ _ _ _ _ g =>
   (ar (aM 3 pQ.nd (fV T.ao.cl T.bA T.eh l g (!2)))
   (ar (dI (em T.ao.cl T.bM T.gF k g (!2) #v[(dD #v[(bh #v[aS,!3,(bh #v[aS,!0])]),(bh #v[aS,!3,(bh #v[aS,!1])])])]))
   (az (aV (!3)))))) (λH G R h=>?_)
 .let#[p,u,W,i,x,y,f,st,rfl,A,E,C,post]:=h;simp![xy,J7,I0,A.ob,aF];apply sS A λI j q=>?_;simp!;dsimp![j.ob,aF];apply#[∅,∅,∅,∅,∅,λB m=>?_];apply xm (new:=[.add i (.box x),.take i (.box y)]) j m () (P0 rfl) λr t o=>?_;simp!;dsimp!;exact post r t (q.trans o)
def x49{n:Nat}(C:n<*T.bA<*dR)(B:n<*T.bM<*dQ):n+1<*T.kG.1<*Qa:=by
 apply dk T.kG.1 pK (λ_ _ _ _ _ _ l =>
   (ar (aM 3 pK.nd (fV T.ao.cl T.bA T.eh C l (!2)))
   (ar (dI (em T.ao.cl T.bM T.gF B l (!2) #v[(o7 (N':=["bit", "box", "first", "second"]) (ix:=[none,some 3,some 0,some 1]) (jI rfl rfl rfl) (sR rfl T.bw #v[(fN T.ao.cl T.ao.jf (!2))]) (λ_ _ _ _=>(cI 0 (show(["bit", "box", "first", "second"]:List Str).Nodup by decide))) (λ_ _ _ _=>mn) (λ_ _ _ _=>(bh #v[aS,!1,!0,(bh #v[(bh #v[!2,!0]),(bh #v[!3,!0])])])))]))
   (az (aV (!3)))))) (λX G R h=>?_)
 .let#[p,O,W,j,x,y,k,st,rfl,A,U,S,post]:=h;simp![xy,J7,I0,A.ob,aF];apply sS A λM o I=>?_;simp!;dsimp![o.ob,aF];apply#[#[(),()],λq E=>?_];apply j6 (λr g N=>lK λ(i c:Nat) (v:Option D)=>l9 (i+c=W) (r=bO (i:Int) c) (N=aG M q (.lst ((cM j x y i).map Row.d))) (g=[v,some (.int (j:Int)),some (.int (x:Int)),some (.int (y:Int))])) #[0,W,none,(),rfl,rfl,rfl] ?_ ?_
  .rintro g L ⟨i,c,v,e,f,rfl,rfl⟩;have u:c=0:=by
    cases c with
    | zero=>rfl| succ c=>rw[i9] at f;cases f
   subst u;obtain rfl:i=W:=()
   apply#[trivial,?_];apply xm (new:=cM j x y i) o E () (by unfold cM;rw[B0,J4];omega) λJ A3 H=>?_;simp!;dsimp!;exact post J A3 (I.trans H)
  .rintro z r g L ⟨i,c,v,e,f,rfl,rfl⟩ t;cases c with
   | zero=>cases f
   | succ c =>
    rw[i9] at f;cases f;apply#[trivial,?_];simp![aC];apply#[∅,∅,∅,∅,?_,t _ _ #[i+1,c,_,(),rfl,?_,rfl]]
    .rw[B0];unfold cM;rw[B0,J4];exact C9 (m:=1000) () ∅
    .rw[hE];unfold cM;rw[V6,B7,B7];rfl
def x50{n:Nat}(k:n<*T.kh.1<*rj):n+1<*T.nX.1<*Zm:=by
 apply dk T.nX.1 vy6 (λ_ _ _ _ _ _ l =>
   (az (aV (ek k l #v[!0,!1,aA,!2])))) (λr G R h=>?_)
 .let#[p,j,W,g,x,y,f,st,rfl,A,m,q,post]:=h;simp![xy,J7,I0];exact jF (post:=λd i=>d=.int ((g+1:Nat):Int)/\aq bB i p j W (g+2) (f++gq W x y g "|") (st+(gq W x y g "|").length)/\cA p j G i) (λR o=>#[1,∅,p,j,W,g,x,y,f,st,rfl,A,m,(),λi a b=>o _ _ #[rfl,a,b]]) λd i ⟨e,a,b⟩=>by subst e;exact post i a b
def x48{n:Nat}(k:n<*T.kh.1<*rj):n+1<*T.nW.1<*Zn:=by
 apply dk T.nW.1 vy5 (λ_ _ _ _ _ _ l =>
   (az (aV (ek k l #v[!0,!1,aA,!2])))) (λr G R h=>?_)
 .let#[p,j,W,g,x,y,f,st,rfl,A,m,q,post]:=h;simp![xy,J7,I0];exact jF (post:=λd i=>d=.int ((g+1:Nat):Int)/\aq bB i p j W (g+2) (f++gq W x y g "^") (st+(gq W x y g "^").length)/\cA p j G i) (λR o=>#[2,∅,p,j,W,g,x,y,f,st,rfl,A,m,(),λi a b=>o _ _ #[rfl,a,b]]) λd i ⟨e,a,b⟩=>by subst e;exact post i a b
def wz8{n:Nat}(Y:n<*T.bA<*dR)(X:n<*T.bM<*dQ)(L:n<*T.kG.1<*Qa):n+1<*T.kh.1<*rj:=by
 apply CI T.kh.1 kZ (λU G R h=>?_) (λ_ _ _ _ _ _ l =>
   (ar (aM 4 kZ.nd (ek L l #v[!0,!1,!3]))
   (ar (aM 5 kZ.nd (fV T.ao.cl T.bA T.eh Y l (!3)))
   (ar (dI (em T.ao.cl T.bM T.gF X l (!3) #v[(aK cf (dD #v[(bh #v[aS,!5,(bh #v[aS,!0])]),(bh #v[aS,!5,(bh #v[aS,!1])])]) (aK mj (dD #v[(bh #v[aS,!5,(bh #v[aS,!4])])]) (!2)))]))
   (az (aV (!5))))))) (λU G R h=>?_)
 .let#[n,O,p,i,W,f,x,y,g,st,rfl,_]:=h;rfl
 .let#[n,O,p,i,W,f,x,y,g,st,rfl,A,Q,hl,post]:=h;have hand:(cM f x y W).length=W:=by unfold cM;rw[B0,J4]
  simp![J7,I0,A.ob,aF];apply tF (xs:=xy) (bx:=λf=>f) (fn:=λf=>f+1) (nw:=λW x y f=>cM f x y W) A Q () λG1 J a1=>?_;simp!;dsimp![J.ob,aF];apply sS J λG2 I a2=>?_;simp!;dsimp![I.ob,aF];apply#[∅,∅,∅,∅,∅,λj E=>?_];simp!;apply#[∅,∅,∅,λB q=>#[#[(),(),D3 (m:=10) () ∅],λu k=>?_]];have N:∀{o2 o3:DO},aG (aG (aG G2 j (.lst (([.add (f+1) (.box x),.add (f+1) (.box y)]:List Row).map Row.d))) B o2) u o3 j=some (.lst (([.add (f+1) (.box x),.add (f+1) (.box y)]:List Row).map Row.d)):=λ{o2 o3}=>by
   have C:j≠B:=aP aC q;have M:j≠u:=λz=>by rw[<- z,ay C,aC] at k;cases k
   rw[ay M,ay C,aC]
  apply yY N aC (by rw[V9,Y7];exact D3 (m:=10) (by show 2+n<=10;omega) ∅) λp4 NI=>?_;have S:([Row.add (f+1) (.box x),.add (f+1) (.box y)]:List Row).map Row.d++(D6 n [D.tup [.str "take",.int ((f+1:Nat):Int),.tup [.str "box",.int (f:Int)]]]).flatten=([.add (f+1) (.box x),.add (f+1) (.box y)]++D6 n (.take (f+1) (.box f)):List Row).map Row.d:=by rw[V9,B7,List.map_replicate];rfl
  rw[S];have t:=((I.new (o:=.lst (([.add (f+1) (.box x),.add (f+1) (.box y)]:List Row).map Row.d)) E).new (o:=.lst (([.take (f+1) (.box f)]:List Row).map Row.d)) q).new (o:=.lst ((D6 n [D.tup [.str "take",.int ((f+1:Nat):Int),.tup [.str "box",.int (f:Int)]]]).flatten)) k;have r:=((cA.refl (p:=p) (rp:=i)).new (o:=.lst (([.add (f+1) (.box x),.add (f+1) (.box y)]:List Row).map Row.d)) E).new (o:=.lst (([.take (f+1) (.box f)]:List Row).map Row.d)) q |>.new (o:=.lst ((D6 n [D.tup [.str "take",.int ((f+1:Nat):Int),.tup [.str "box",.int (f:Int)]]]).flatten)) k
  apply xm (new:=[.add (f+1) (.box x),.add (f+1) (.box y)]++D6 n (.take (f+1) (.box f))) t NI (by rw[B4,hand];omega) (by rw[B4,Y7];show 2+n<=1000;omega) λH A3 Z=>?_;simp!;dsimp!;apply post H ?_ ((a1.trans a2).trans (r.trans Z));show aq bB H p i W (f+2) (g++(cM f x y W++([.add (f+1) (.box x),.add (f+1) (.box y)]++D6 n (.take (f+1) (.box f))))) (st+(cM f x y W++([Row.add (f+1) (.box x),.add (f+1) (.box y)]++D6 n (Row.take (f+1) (.box f)))).length);rw[B4 (as:=cM f x y W),<- L7,<- D1];exact A3
def x02{n:Nat}(q:n<*T.bA<*dR)(o:n<*T.bM<*dQ)(l:n<*T.jm.1<*LX):n+1<*T.mZ.1<*Zr:=by
 apply dk T.mZ.1 k_ (λ_ _ _ _ _ _ g =>
   (ar (aM 3 k_.nd (ek l g #v[!0,!1,!2]))
   (ar (aM 4 k_.nd (fV T.ao.cl T.bA T.eh q g (!2)))
   (ar (dI (em T.ao.cl T.bM T.gF o g (!2) #v[(dD #v[(bh #v[aS,!4,aA,(bh #v[(bh #v[!3,(AH T.bN)])])])])]))
   (az (aV (!4))))))) (λM G R h=>?_)
 .let#[p,E,W,f,x,y,i,st,rfl,A,m,J,post]:=h;simp![xy,J7,I0];apply tF (xs:=xy) (bx:=λf=>f) (fn:=λf=>f+1) (nw:=λ_ x y f=>[.add f (.box x),.take f (.box y)]) A m () λQ k B=>?_;simp!;dsimp![k.ob,aF];apply sS k λO j u=>?_;simp!;dsimp![j.ob,aF];apply#[∅,∅,∅,∅,λH r=>?_];apply xm (new:=[.turn (f+1) 0 [(f,31)]]) j r (by rw[B4];show _+2<=_;omega) (P0 rfl) λC A3 t=>?_;simp!;dsimp!;rw[D1,L7] at A3;exact post C A3 ((B.trans u).trans t)
def x52{n:Nat}(r:n<*T.bA<*dR)(q:n<*T.bM<*dQ)(k:n<*T.jm.1<*LX):n+1<*T.nY.1<*Zl:=by
 apply dk T.nY.1 je (λ_ _ _ _ _ _ i =>
   (ar (aM 3 je.nd (ek k i #v[!0,!1,!2]))
   (ar (aM 4 je.nd (ek k i #v[!1,!0,!2]))
   (ar (aM 5 je.nd (fV T.ao.cl T.bA T.eh r i (!2)))
   (ar (dI (em T.ao.cl T.bM T.gF q i (!2) #v[(dD #v[(bh #v[aS,!5,aA,(bh oK)]),(bh #v[aS,!5,aA,(bh #v[(bh #v[!3,(AH T.bN)])])]),(bh #v[aS,!5,aA,(bh #v[(bh #v[!4,(AH T.bN)])])])])]))
   (az (aV (!5)))))))) (λQ G R h=>?_)
 .let#[p,j,W,f,x,y,g,st,rfl,A,l,N,post]:=h;simp![xy,J7,I0];apply tF (xs:=xy) (bx:=λf=>f) (fn:=λf=>f+1) (nw:=λ_ x y f=>[.add f (.box x),.take f (.box y)]) A l () λY J E=>?_;simp!;dsimp!;have H:(g++[Row.add f (.box x),.take f (.box y)]).length+2*0<=4100:=by rw[B4];show _+2+0<=_;omega
  apply bS #[p,j,W,f+1,y,x,_,_,rfl,J,l,H,λX o C=>?_];simp!;dsimp![o.ob,aF];apply sS o λU A3 B=>?_;simp!;dsimp![A3.ob,aF];apply#[∅,∅,∅,∅,∅,∅,∅,∅,∅,λL t=>?_];apply xm (new:=[.turn (f+2) 0 [],.turn (f+2) 0 [(f,31)],.turn (f+2) 0 [(f+1,31)]]) A3 t (by rw[B4,B4];show _+2+2<=_;omega) (P0 rfl) λm I u=>?_;simp!;dsimp!;apply post m ?_ ((E.trans C).trans (B.trans u));show aq bB m p j W (f+3) (g++(([Row.add f (.box x),.take f (.box y)]++[.add (f+1) (.box y),.take (f+1) (.box x)])++[.turn (f+2) 0 [],.turn (f+2) 0 [(f,31)],.turn (f+2) 0 [(f+1,31)]])) (st+2+2+3);rw[<- D1,<- D1];exact I
def wz6{n:Nat}(j:n<*T.bA<*dR)(m:n<*T.bM<*dQ):n+1<*T.mX.1<*uO:=by
 apply dk T.mX.1 kX (λ_ _ _ _ _ _ f =>
   (ar (aM 2 kX.nd (fV T.ao.cl T.bA T.eh j f (!1)))
   (ar (aM 3 kX.nd (fV T.ao.cl T.bA T.eh j f (!1)))
   (ar (dI (em T.ao.cl T.bM T.gF m f (!1) #v[(dD #v[(bh #v[aS,!2,(bh #v[aS,!0])]),(bh #v[aS,!3,aA,(bh #v[(bh #v[!2,(AH T.bN)])])])])]))
   (az (aV (!3))))))) (λE G R h=>?_)
 .let#[p,y,W,g,x,i,st,rfl,A,C,post]:=h;simp![A.ob,aF];apply sS A λI l t=>?_;simp!;dsimp![l.ob,aF];apply sS l λH k r=>?_;simp!;dsimp![k.ob,aF];apply#[∅,∅,∅,∅,∅,∅,λB o=>?_];apply xm (new:=[.take g (.box x),.turn (g+1) 0 [(g,31)]]) k o () (P0 rfl) λu A3 q=>?_;simp!;dsimp!;exact post u A3 ((t.trans r).trans q)
def x20{n:Nat}(vR:n<*T.kB.1<*rG)(KG:n<*T.mV.1<*uL)(vI:n<*T.kg.1<*rh):n+1<*T.nB.1<*u_:=by
 apply dk T.nB.1 ig (λ_ _ _ _ _ _ A =>
   (ar (aM 6 ig.nd (dJ gn rfl T.bq ∅ #v[¬2]))
   (ar (aM 7 ig.nd (ek vI A #v[!1,¬2,¬2,(vh6 A rfl T.bw rfl T.fj #v[!3,(aK cf (!3) (!6))]),!5]))
   (ar (aM 8 ig.nd (bh #v[¬7,¬7]))
   (ar (EE 9 ig.nd (N':=["at", "place", "word", "target"]) (ix:=[none,none,some 0,some 4]) (jI rfl rfl rfl) (Uz rfl T.cL #v[¬7]) (λ_ _ _ _=>(AA (n:=2) rfl (mq (cI 0 (show(["at", "place", "word", "target"]:List Str).Nodup by decide)) (mq (cI 1 (show(["at", "place", "word", "target"]:List Str).Nodup by decide)) AF)))) (λ_ _ _ _=>mn) (λ_ _ _ _=>(bh #v[!2,(aK cf (!3) (!0)),(bh #v[aS,!1])])))
   (az (aV (ek vR A #v[(dD #v[!8,(bh #v[¬7,!9]),(ek KG A #v[!8])])])))))))) (λds G R h=>?_)
 .let#[add,pc,W,i,E,x,f,g,B,rfl,gZ,ok,hW,Jc,h1,h2,h3,post]:=h;have hb:=ok.nb;simp![B0];dsimp![TQ];apply#[#[(),()],λp J=>?_];have A:bO (f:Int) ((f:Int)+(i.length:Int)-(f:Int)).toNat=(c9 f i.length).map nD:=by rw[show((f:Int)+(i.length:Int)-(f:Int)).toNat=i.length by omega];unfold bO c9;rw[Q1];exact M5 λk _=>by show D.int _=D.int _;congr 1
  rw[A];apply bS #[pc,p,W,B,i,c9 f i.length,E,rfl,by rw[ay (aP gZ J)];exact gZ,aC,by unfold c9;rw[B0,J4],ok.nb,ok.nd,ok.ok,ok.nt,ok.dp,ok.sz,ok.hW,λu q2 N n1 n2 n3 k1 I g2=>?_];have g0:=(ax.refl (G:=G) |>.new (o:=.lst ((c9 f i.length).map nD)) J).trans g2;have cw:(c9 f i.length).length=i.length:=by unfold c9;rw[B0,J4]
  have wl:=sV (a:=0) (fr:=B) ok.hW ok.nb E ok.ok ok.nt cw;have wp:=(tM (a:=0) (fr:=B) ok.hW E ok.ok ok.nt cw λp J=>v92 h1 J).1.pr.pairs;unfold si at post;generalize hZ:(bp W i E 0 (c9 f i.length) B)=Z at *;dsimp!;dsimp!;apply#[∅,?_];let#[l1,l2,l3,lz,l5]:=wl;simp![Es,I,bt];intro q X;have U:u≠q:=aP k1 X;have C:q2≠q:=aP I X;apply j6 (λr O G'=>sI λ(l t:List Nat) (S Q:Option D)=>l9 (l++t=Z.2.1) (r=wN l.length (t.map nD)) (G'=aG N q (.lst (((F3 l.length).map λj=>if add=true then Row.add (g+j) (.box (Z.2.1.getD j 0)) else Row.take (g+j) (.box (Z.2.1.getD j 0))).map Row.d))) (O=[S,Q,some (.str (Qw add)),some (.int (g:Int))])) #[[],Z.2.1,none,none,rfl,rfl,rfl,rfl] ?_ ?_
  .rintro O G3 ⟨l,t,S,Q,e,M,rfl,rfl⟩;have ht:t=[]:=by
    cases t with
    | nil=>rfl| cons x t=>cases M
   subst ht;rw[E5] at e;subst e;apply#[by rw[ay C,I],?_];have Y:aG N q (.lst (((F3 Z.2.1.length).map λj=>if add=true then Row.add (g+j) (.box (Z.2.1.getD j 0)) else Row.take (g+j) (.box (Z.2.1.getD j 0))).map Row.d)) q=some (.lst ((jU add g Z.2.1).map Row.d)):=aC;have lc:(jU add g Z.2.1).length<=4000:=by unfold jU;rw[B0,J4];omega
   have NC:aG N q (.lst (((F3 Z.2.1.length).map λj=>if add=true then Row.add (g+j) (.box (Z.2.1.getD j 0)) else Row.take (g+j) (.box (Z.2.1.getD j 0))).map Row.d)) u=some (.lst (Z.1.map Row.d)):=by rw[ay U];exact k1
   have g3:=g0.new (o:=.lst (((F3 Z.2.1.length).map λj=>if add=true then Row.add (g+j) (.box (Z.2.1.getD j 0)) else Row.take (g+j) (.box (Z.2.1.getD j 0))).map Row.d)) X;generalize aG N q (.lst (((F3 Z.2.1.length).map λj=>if add=true then Row.add (g+j) (.box (Z.2.1.getD j 0)) else Row.take (g+j) (.box (Z.2.1.getD j 0))).map Row.d))=G3 at *;dsimp!;apply#[∅,?_];apply bS #[_,u,Z.1,rfl,NC,wp,(),λH G4 n4 k4 g4=>?_];simp!;apply#[∅,λp5 tq=>?_];have L:=g4.new (o:=.lst ([dU.mk Z.2.2.1 u Z.1,dU.mk Z.2.2.1 q (jU add g Z.2.1),dU.mk Z.2.2.1 H (oO Z.1)].map dU.d)) tq;apply bS #[p5,[dU.mk Z.2.2.1 u Z.1,dU.mk Z.2.2.1 q (jU add g Z.2.1),dU.mk Z.2.2.1 H (oO Z.1)],rfl,aC,?_,by simp,by simp,λq6 G6 n6 k6 g6=>?_]
   .intro c hc;have lt:(oO Z.1).length<=4000:=by unfold oO;rw[Q8,B0];omega
    simp only[D4,X6,or_false] at hc;rcases hc with rfl|rfl|rfl
    .exact⟨L.kp _ _ NC,by show Z.1.length<=4000;omega⟩
    .exact⟨L.kp _ _ Y,lc⟩
    .exact⟨by show aG G4 p5 _ H=_;rw[ay (aP k4 tq)];exact k4,lt⟩
   .have hm:tY [dU.mk Z.2.2.1 u Z.1,dU.mk Z.2.2.1 q (jU add g Z.2.1),dU.mk Z.2.2.1 H (oO Z.1)]=Z.2.2.1:=by show max Z.2.2.1 (max Z.2.2.1 (max Z.2.2.1 0))=_;simp
    rw[hm];exact post q6 G6 ((g3.trans L).none n6) k6 ((g3.trans L).trans g6)
  .rintro z r O G3 ⟨l,t,S,Q,e,M,rfl,rfl⟩ ih;cases t with
   | nil=>cases M
   | cons y t =>
    cases M;apply#[by rw[ay C,I],?_];have hy:Z.2.1.getD l.length 0=y:=by rw[<- e,K4,E6 (B9 _),Ea];rfl
    have ui:l.length<i.length:=by rw[<- lz,<- e,B4,C1];omega
    simp![aC];apply#[∅,∅,?_,ih _ _ #[l++[y],t,_,_,by rw[<- e];simp,by rw[B4];rfl,?_,rfl]]
    .rw[B0,B0,J4];exact C9 (m:=1000) () ∅
    .rw[hE,B4,O9,V6,B7,B7];have Ib:Z.2.1[l.length]?.getD 0=y:=by rw[<- K4];exact hy
     cases add <;> simp[Row.d,Qw,oU.d,Ib,nD]
def x19{n:Nat}(m:n<*T.kg.1<*rh):n+1<*T.nA.1<*u7:=by
 apply dk T.nA.1 lb (λ_ _ _ _ _ _ g =>
   (ar (aM 2 lb.nd (dJ gn rfl T.bq ∅ #v[¬1]))
   (ar (aM 3 lb.nd (ek m g #v[!0,¬1,¬1,(v58 g rfl T.bw rfl T.fj #v[!2]),!2]))
   (az (aV (aK cf (aK mj aA (¬3)) (!2))))))) (λE G R h=>?_)
 .let#[pc,W,f,i,x,rfl,l,ok,post]:=h;simp![B0];have y:=ok.nb;dsimp![Ul];apply#[#[(),()],λp j=>?_];have g:bO 0 ((f.length:Int)-0).toNat=(F3 f.length).map nD:=by rw[show((f.length:Int)-0).toNat=f.length by omega];unfold bO;exact M5 λk _=>by show D.int _=D.int _;congr 1;omega
  rw[g];apply bS #[pc,p,W,f.length,f,F3 f.length,i,rfl,by rw[ay (aP l j)];exact l,aC,J4,ok.nb,ok.nd,ok.ok,ok.nt,ok.dp,ok.sz,ok.hW,λr q o C B A u t g2=>?_];have post:=post o ((ax.refl.new j).trans g2);unfold tN at post;generalize (bp W f i 0 (F3 f.length) f.length)=Z at *;dsimp!;apply#[.inl ∅,?_];rw[show(2:Int)*(Z.2.2.2:Int)+(f.length:Int)=((2*Z.2.2.2+f.length:Nat):Int) by omega];exact post
def x11{n:Nat}(f:n<*T.gK.1<*Zt):n+1<*T.ku.1<*rB:=by
 apply dk T.ku.1 vx5 (λ_ _ _ _ _ _ g =>
   (az (aV (ek f g #v[¬0])))) (λo G R h=>?_)
 .let#[x,y,l,rfl,m,j,i,post]:=h;simp!;exact bS #[_,rfl,(),j,i,λq k a b c=>post q k a b c]
def wz2{n dp:Nat}(U:n<*T.mT.1<*lM dp):n+1<*T.gK.1<*fD (dp+1):=by
 apply dk T.gK.1 kW (λ_ _ _ _ _ _ N =>
   (ar (aM 1 kW.nd (dD oK))
   (ar (j0 (jK (!0)) (cI 2 kW.nd) (az (dI (MU (!1) #v[(ek U N #v[!2])]))))
   (az (aV (!1)))))) (λZ G R h=>?_)
 .let#[i,rfl,Q,hw,S,post]:=h;simp!;apply#[∅,λp A=>?_];dsimp!;apply j5 (λr u E=>lK λ(l t:List av) (y:Option D)=>LA (l++t=i) (r=bY t) (ax G E) (E p=some (.lst (bY (aW l)))) (u=[some (.tup (bY i)),some (.ref p),y])) #[[],i,none,rfl,rfl,ax.refl.new A,aC,rfl] ?_ ?_
  .rintro u C ⟨l,t,y,e,k,g,j,rfl⟩;have M:t=[]:=by
    cases t with
    | nil=>rfl| cons x t=>cases k
   subst M;rw[E5] at e;subst e;apply#[trivial,?_];dsimp!;exact post p C A j g
  .rintro x r u C ⟨l,t,y,e,k,g,j,rfl⟩ J;cases t with
   | nil=>cases k
   | cons f t =>
    cases k;apply#[trivial,?_];have B:f∈i:=by rw[<- e];simp
    have H:=Tq (B95 Q) f B;have L:=vv3 B;have Y:de l+(qy f+de t)=de i:=by rw[<- e,Tz];rfl
    have O:=vb7 l;simp![j];apply bS #[_,rfl,H,(),(w30 S B),λq G2 f2 I g2=>?_];have X:=g2.kp _ _ j;have Vq:p≠q:=aP j f2;have NJ:(iL f).length<=qy f:=by have:=Sz (iL f);rw[w06] at this;exact this
    simp![X,I];apply#[D3 (m:=2000) (by rw[xA,xA];omega) ∅,J _ _ #[l++[f],t,_,by rw[<- e];simp,rfl,#[λc o h=>?_],?_,rfl]]
    .rw[ay (aP h A)];exact g2.kp _ _ (g.kp _ _ h)
    .rw[aC,v02,<- ur8];simp[aW]
def wz1{n dp:Nat}(l:n<*T.gK.1<*fD dp):n+1<*T.mT.1<*lM dp:=by
 apply dk T.mT.1 vx0 (λ_ _ _ _ _ _ i =>
   (ar (aJ (bE (aR i) (¬0) aS (ah _)) (az (aV (nZ (bE (aR i) (¬0) aA (ah _)) (dD oK) (aK mj (ek l i #v[¬0]) (¬0))))) cj)
   (ar (aJ (bE (aR i) (¬0) aS (ah _)) (az (aV (dD #v[(bh #v[aS,¬0,(oN Nd rfl T.fA ∅ #v[(ek l i #v[¬0])]),(oN Nd rfl T.fA ∅ #v[(ek l i #v[¬0])])])]))) cj)
   (az (aV (dD #v[!0])))))) (λQ G R h=>?_)
 .let#[r,rfl,A,hw,j,post]:=h;cases r with
  | is x a =>simp![gD];dsimp!;dsimp!;exact#[∅,λp f=>post p _ f aC (ax.refl.new f)]| op x o a b =>simp![gD];dsimp!;dsimp!;exact#[∅,λp f=>post p _ f aC (ax.refl.new f)]| fz a g y =>
   simp![gD];have E:1+max (bc g) (bc y)<=dp:=A;have B:1+de g+de y<=1000:=hw;rw[if_neg ∅];apply bS #[_,rfl,(),(),j.1,λC N f1 q g1=>?_];simp![q,bt];apply bS #[_,rfl,(),(),j.2,λO S f2 H g2=>?_];simp![H,bt];apply#[∅,∅,λp f=>post p _ ?_ ?_ ((g1.trans g2).new f)]
   .exact(g1.trans g2).none f
   .rw[aC];rfl
  | j8 k g =>
   have E:1+bc g<=dp:=A;have B:k*de g<=1000:=hw;simp![gD];apply fH (λL=>?_) (λL=>?_)
   .have u:k=0:=()
    subst u;exact#[∅,λp f=>post p _ f (by rw[aC];rfl) (ax.refl.new f)]
   .have J:de g<=k*de g:=B32 _ ();apply bS #[_,rfl,(),(),j.2.1,λC N f1 q g1=>?_];simp![q];have t:=vb7 g;have M:(aW g).length*k<=1000:=D3 (R9 k t) (by rw[OI];exact B);have I:=j.2.2;apply#[#[(),(),D3 (m:=1000) (by rw[xA];exact M) ∅],λp f=>post p _ (g1.none f) ?_ (g1.new f)];rw[aC,ur7];rfl
def wz9{n:Nat}(vM:n<*T.ku.1<*rB):n+1<*T.ki.1<*rl:=by
 apply dk T.ki.1 f' (λ_ _ _ _ _ _ Y =>
   (ar (aM 2 f'.nd (ek vM Y #v[!0]))
   (ar (aJ (qF (w_or (bE (aR Y) (dJ gn rfl T.bq ∅ #v[!1]) aA (ah _)) (w_or (bE (oW) (dJ wp8 rfl T.qY ∅ #v[!1]) aA (ah _)) (Et (bE (rT Y) (dJ wp5 rfl T.qX ∅ #v[!1]) (dJ gn rfl T.bq ∅ #v[!2]) (ah _)))))) (az Tt) cj)
   (ar (aM 3 f'.nd (dD oK))
   (ar (aM 4 f'.nd aA)
   (ar (j0 (jK (!1)) (cI 5 f'.nd) (ar (dI (o_ (!3) #v[(BZ Ao (!2) (EB (!4)) (EB (aK cf (!4) (!5))))]))
   (az (Er 4 f'.nd (!5) xo))))
   (az (aV (!3))))))))) (λds G R h=>?_)
 .let#[x,y,Q,ca,j,rfl,qe,hd,hw,hb,hl,E,B]:=h;simp!;apply bS #[_,_,_,rfl,hd,hw,hb,λqp G1 fp X g1=>?_];have g:=g1.kp _ _ qe;have fP:j.length≠0:=λz=>E.1 (B16.mp z);simp![g,B0];generalize hu:gR (jq (yw eN) (xk 3)) _=u;dsimp![g,B0];apply fH (λq=>?_) (λq=>?_)
  .exact absurd (by unfold nI at q;rw[B0] at q;omega) fP
  simp![Sk,g,bt,C_];apply#[by unfold nI;rw[B0];omega,λM hM NZ=>fH (λq1=>?_) (λq1=>?_)]
  .let#[k,hk,rfl]:=D7.mp hM;have:=E.2.1 k hk;omega
  simp![tE,g,bt,C_,X,xA];have q2:(nI j).sum=((aW Q).length:Int):=by rw[w15,E.2.2]
  rw[if_neg (by rw[decide_eq_true q2];decide)];subst hu;generalize hO:aW Q=O at *;dsimp!;apply#[∅,λf i=>?_];have yi:qp≠f:=aP X i;have lW:ca≠f:=aP g i;have wD:=g1.none i;dsimp!;dsimp![ay lW,g,bt];have NP:=hl;apply j5 (λr L Z=>sI λ(l t:List Nat) (as:List Addr) (N:Option D)=>OR (l++t=j) (r=(nI t).map .int) (ax G1 Z) (Z f=some (.lst (as.map .ref))) (∀a∈as,G a=none) (∀a∈as,a≠f) (jX Z as (iC l O)) (as.length=l.length) (L=[some (.tup [x,y,.tup (bY Q)]),some (.ref ca),some (.ref qp),some (.ref f),some (.int (l.sum:Int)),N])) #[[],j,[],none,rfl,rfl,ax.refl.new i,aC,(λa h=>nomatch h),(λa h=>nomatch h),rfl,rfl,rfl] ?_ ?_
  .rintro L J ⟨l,t,as,N,e,I,g2,p,f1,f2,S,A,rfl⟩;have ht:t=[]:=by
    cases t with
    | nil=>rfl| cons x t=>cases I
   subst ht;rw[E5] at e;subst e;apply#[by rw[g2.kp _ _ g],?_];dsimp!;exact B f as J wD f1 f2 p S (g1.trans g2)
  .rintro z r L J ⟨l,t,as,N,e,I,g2,p,f1,f2,S,A,rfl⟩ ih;cases t with
   | nil=>cases I
   | cons c t =>
    cases I;apply#[by rw[g2.kp _ _ g],?_];have Bx:l.sum+c<=O.length:=by rw[<- E.2.2,<- e,Yx,M7];omega
    have ui:l.length<j.length:=by rw[<- e,B4,C1];omega
    have Dm:=g2.kp _ _ X;simp![Dm,bt,p];intro C H;have U:f≠C:=aP p H;simp![ay U,p];rw[wn3 Bx];apply#[C9 (m:=1000) (by rw[B0];omega) ∅,?_];dsimp!;have g3:=g2.new (o:=.lst (bY ((O.drop l.sum).take c))) H;have keep:∀a∈as,∀o,J a=some o->aG (aG J C (.lst (bY ((O.drop l.sum).take c)))) f (.lst (as.map D.ref++[.ref C])) a=some o:=λa ha o ho=>by rw[ay (f2 a ha),ay (aP ho H)];exact ho
    apply ih _ _ #[l++[c],t,as++[C],some (.int (c:Int)),by rw[<- e];simp,rfl,g3.own i,by rw[aC,B7];rfl,?_,?_,?_,by rw[B4,B4,A];rfl,by rw[Yx];simp]
    .intro a ha;rcases E9.mp ha with ha|ha
     .exact f1 a ha
     .rw[F4.mp ha];exact(g1.trans g2).none H
    .intro a ha;rcases E9.mp ha with ha|ha
     .exact f2 a ha
     .rw[F4.mp ha];exact D2 U
    .rw[uz9];exact jX.snoc (by rw[ay (D2 U),aC]) (S.Dm keep)
def x45{n:Nat}(La:n<*T.nA.1<*u7)(X:n<*T.ki.1<*rl):n+1<*T.nV.1<*vw:=by
 apply dk T.nV.1 vy4 (λ_ _ _ _ _ _ N =>
   (az (aV (o7 (N':=["stretch", "program"]) (ix:=[none,some 0]) (jI rfl rfl rfl) (jK (ek X N #v[!0,!1])) (λ_ _ _ _=>(cI 0 (show(["stretch", "program"]:List Str).Nodup by decide))) (λ_ _ _ _=>mn) (λ_ _ _ _=>(ek La N #v[!0,!1])))))) (λds G R h=>?_)
 .let#[W,J,g,ca,j,rfl,Y,hd,hw,I,hl,O,ok,post]:=h;simp!;apply bS #[_,_,g,ca,j,rfl,Y,hd,hw,I,hl,O,λq as y hq f1 f2 k Z g1=>?_];simp![k,bt];intro E o;have n3:q≠E:=aP k o;have U:=g1.none o;have hlp:(iC j (aW g)).length<=1000:=by have:=congrArg J1 (MJ j (aW g) (by rw[O.2.2];exact B9 _));rw[B0] at this;omega
  generalize NY:iC j (aW g)=L at *;apply j6 (λr A S=>sI λ(l t:List (List av)) (f:List Addr) (v:Option D)=>DT (l++t=L) (r=f.map .ref) (∀a∈f,a∈as) (jX y f t) (ax y S) (S E=some (.lst ((l.map (yy W J)).map .int))) (A=[v,some (.tup [.int (W:Int),.tup (J.map .str),.tup (bY g)])])) #[[],L,as,none,rfl,rfl,λa h=>h,Z,ax.refl.new o,aC,rfl] ?_ ?_
  .rintro A Q ⟨l,t,f,v,e,u,M,i,g2,H,rfl⟩;have ha:f=[]:=by
    cases f with
    | nil=>rfl| cons x t=>cases u
   subst ha;have ht:t=[]:=by have:=i.len;exact E4 this.symm
   subst ht;rw[E5] at e;subst e;apply#[by rw[g2.kp _ _ k],?_];exact post E Q U H (g1.trans g2)
  .rintro z r A Q ⟨l,t,f,v,e,u,M,i,g2,H,rfl⟩ ih;cases f with
   | nil=>cases u
   | cons a f =>
    cases u;cases t with
    | nil=>exact absurd i.len (by simp)| cons p t =>
     obtain⟨C,B⟩:y a=some (.lst (bY p))/\jX y f t:=by let#[p',t',e',h1,h2]:=i;cases e';exact#[h1,h2]
     apply#[by rw[g2.kp _ _ k],?_];simp!;apply bS #[a,W,J,p,_,rfl,g2.kp _ _ C,ok p (by rw[<- e];simp),λG3 g3=>?_];have k3:=g3.kp _ _ H;simp![k3];have ui:l.length<L.length:=by rw[<- e,B4,C1];omega
     apply#[C9 (m:=1000) (by rw[B0,B0];omega) ∅,ih _ _ #[l++[p],t,f,_,by rw[<- e];simp,rfl,λb I=>M b (C2 _ I),B,(g2.trans g3).own o,?_,rfl]];rw[aC,B7,B7];rfl
def x46{n:Nat}(K':n<*T.nz.1<*u6)(O:n<*T.jk.1<*om)(N:n<*T.ko.1<*oj)(H:n<*T.kH.1<*rJ):n+1<*T.kC.1<*rH:=by
 apply dk T.kC.1 dt (λ_ _ _ _ _ _ g =>
   (ar (aM 3 dt.nd aA)
   (ar (aM 4 dt.nd dy)
   (ar (j0 (Uz rfl T.cL #v[!0]) (AA (n:=2) rfl (mq (cI 5 dt.nd) (mq (cI 6 dt.nd) AF))) (ar (aJ (bE (aR g) (¬6) aS (ah _)) (ar (aM 7 dt.nd (En (ek N g #v[!1,!3]) (Cw (Mb (!4)))))
   (az (aM 4 dt.nd dy))) (az (aM 7 dt.nd (ek K' g #v[!6,!3,!1,!2]))))
   (ar (aJ (AE (j3 (!7))) (az Tt) cj)
   (az (aM 3 dt.nd (ek H g #v[!6,!3]))))))
   (ar (aJ (qF (w_and (j3 (!4)) (xn (bE (aR g) (!3) aA (ah _))))) (az (aV aS)) cj)
   (ar (aJ (qF (w_and (AE (j3 (!4))) (xn (bE (aR g) (!3) (ek O g #v[!1]) (ah _))))) (az (aV aS)) cj)
   (az Tt))))))) (λds G R h=>?_)
 .let#[a,w,f,s,b,rfl,A,S,yi,lW,hl,post]:=h;let#[Y,Dt,BO]:=S.gU;simp!;dsimp!;dsimp![Es,A];apply j5 (λr m i=>DG λ(l t:List Pm) (u q o:Option D)=>l9 (l++t=w) (r=wN l.length (t.map cH)) (i=G) (m=[some (.ref a),some (.int (f:Int)),some (.int (s:Int)),some (.int (cz 0 l:Int)),some (.bl (px false l)),u,q,o])) #[[],w,none,none,none,rfl,rfl,rfl,rfl] ?_ ?_
  .rintro m i ⟨l,t,u,q,o,e,k,rfl,rfl⟩;have Q:t=[]:=by
    cases t with
    | nil=>rfl| cons x t=>cases k
   subst Q;rw[E5] at e;subst e;apply#[by rw[A];rfl,?_];rw[Dt,BO];cases b with
   | false =>simp?;exact post| true =>simp?;apply fY (v:=.int (1*2^(f-1))) (G1:=i) (λR h=>#[f,rfl,(),(λe=>()),λj e=>by subst e;exact h]) ?_;have U:(((2^(f-1):Nat):Int)=1*2^(f-1))=True:=eq_true (by simp);simp![U];exact post
  .rintro z r m i ⟨l,t,u,q,o,e,k,rfl,rfl⟩ E;cases t with
   | nil=>cases k
   | cons C t =>
    cases k;apply#[by rw[A];rfl,?_];have Z:gU f s 0 false (l++C::t):=by rw[e];exact Y
    let#[y,o1]:=gS.mp Z;have X:=Sr (R0 f) y;cases C with
    | none =>
     let#[#[L,J],_]:=o1;have I:tO f (cz 0 l)=true:=by unfold tO;rw[L];simp
     simp![cH];apply LY () ?_;rw[I,J];simp!;dsimp!;dsimp!;apply fY (v:=.int (cz 0 l:Int)) (G1:=i) (λR h=>#[none,cz 0 l,rfl,trivial,h]) ?_;simp!;exact E _ _ #[l++[none],t,_,_,_,by rw[<- e,D1];rfl,by rw[B4];rfl,rfl,by rw[y0,CS];rfl]
    | some p =>let#[o1,_]:=o1;have M:((if p.1=true then("lay" :Str) else "clear") = "show")=False:=eq_false (by cases p.1 <;> decide);simp![cH,mD,pD,mP,M];apply fY (v:=.bl true) (G1:=i) (λR h=>#[p,cz 0 l,f,s,rfl,o1,(),X,h]) ?_;simp!;dsimp!;apply fY (v:=.int (xr (cz 0 l) p.2:Int)) (G1:=i) (λR h=>#[some p,cz 0 l,rfl,#[#[o1.1.1,by have:=o1.1.2;omega],o1.2.2.1],h]) ?_;simp!;exact E _ _ #[l++[some p],t,_,_,_,by rw[<- e,D1];rfl,by rw[B4];rfl,rfl,by rw[y0,CS];rfl]
def x18{n:Nat}(k:n<*T.ko.1<*oj)(r:n<*T.kx.1<*rC):n+1<*T.nz.1<*u6:=by
 apply dk T.nz.1 pG (λ_ _ _ _ _ _ f =>
   (ar (aM 4 pG.nd (¬0))
   (ar (aJ (qF (w_or (bE (oW) (!4) aA (ah _)) (w_or (bE (oY) (!4) (!2) (ah _)) (Et (AE (j3 (ek k f #v[(aK gp (!4) aA),!1]))))))) (az (aV dy)) cj)
   (ar (aJ (bE (aR f) (¬0) aS (ah _)) (az (aV (En (Mb (ek k f #v[!4,!1])) (Cw (sP (oW) (ek r f #v[!1]) (!3) (ah _)))))) cj)
   (az (aV (ek k f #v[!4,!1]))))))) (λL G R h=>?_)
 .let#[p,m,i,s,rfl,B,H,A,post]:=h;let#[#[J,I],x,j,C]:=B;have u:((p.2:Int)<1)=False:=eq_false ();have t:((i:Int)<(p.2:Int))=False:=eq_false ();have E:(p.2:Int)-1=((p.2-1:Nat):Int):=()
  have q:tO (p.2-1) m=true:=by
   unfold tO;rcases x with z|z
   .have:p.2-1=0:=()
    rw[this];rfl
   .have:p.2-1-1=p.2-2:=()
    rw[this,z];simp
  have o:tO p.2 m=dW p.2 m:=by
   unfold tO dW;have:(p.2==0)=false:=by rw[beq_eq_false_iff_ne];omega
   rw[this];simp
  simp![mD,pD,mP];dsimp![u,t,E];apply LY () ?_;rw[q];cases g:p.1 with
  | true =>
   rw[g] at j;have l:dW p.2 m=false:=by simpa using j.symm
   simp?[g];apply LY () ?_;rw[o,l];simp!;apply fY (v:=.int (pc i m:Int)) (G1:=G) (λR h=>#[i,m,rfl,A,h]) ?_;have M:=C g;have:((pc i m:Int)<(s:Int))=True:=eq_true (by rw[w04];omega);simp![this];exact post
  | false =>
   rw[g] at j;have l:dW p.2 m=true:=by simpa using j.symm
   have y:(("clear" :Str) = "lay")=False:=eq_false ∅;simp?[g,y];apply LY () ?_;rw[o,l];exact post
def x07{n:Nat}:n+1<*T.jk.1<*om:=by
 apply dk T.jk.1 vx4 (λ_ _ _ _ _ _ l =>
   (az (aV (nZ (bE (oY) (!0) aA (ah _)) (aK v30 aA (aK gp (!0) aA)) aA)))) (λo G R h=>?_)
 .let#[k,rfl,m,g,f]:=h;cases k with
  | zero =>simp!;exact g rfl| succ i =>
   have j:(((i+1:Nat):Int)-1)=(i:Int):=()
   have c:jZ 1 (i:Int):=Ml () ();have p:((0:Int)<((i+1:Nat):Int))=True:=eq_true ();simp![j,c,p];exact f i rfl
def x01{n:Nat}(g:n<*T.jk.1<*om):n+1<*T.ko.1<*oj:=by
 apply dk T.ko.1 vx2 (λ_ _ _ _ _ _ f =>
   (az (aV (Xc (sP (aR f) (!0) aA (ah _)) (Cw (sP (rT f) (aK Mi (!1) (ek g f #v[!0])) aA (ah _))))))) (λo G R h=>?_)
 .let#[k,m,rfl,l,post]:=h;cases k with
  | zero =>simp!;exact post| succ i =>
   have p:(((i+1:Nat):Int)=0)=False:=eq_false ();simp![p];apply fY (v:=.int (1*2^i)) (G1:=G) (λR h=>#[i+1,rfl,l,(λe=>by cases e),λj e=>by cases e;exact h]) ?_;simp!;have e:(!decide (P1 (m:Int) (1*2^i)=0))=tO (i+1) m:=by unfold tO;rw[V4];simp only[wo9,Bool.not_eq_true',decide_eq_false_iff_not,L5,C21,beq_iff_eq,Nat.add_one_ne_zero,false_or,Bool.not_eq_false]
   rw[e];exact post
def x21{n:Nat}:n+1<*T.kx.1<*rC:=by
 apply dk T.kx.1 ja (λ_ _ _ _ _ _ t =>
   (ar (aM 1 ja.nd aA)
   (ar (MM (bE (oY) (!0) aA (ah _)) (ar (Er 1 ja.nd (aK Mi (!0) aA) xo)
   (az (aM 0 ja.nd (aK wp6 (!0) aA)))))
   (az (aV (!1)))))) (λu G R h=>?_)
 .let#[b,m,rfl,l,post]:=h;simp!;dsimp!;apply Nc (λc f j=>Xr λ(x y:Nat)=>l9 (j=G) (f=[some (.int (x:Int)),some (.int (y:Int))]) (x<2^c) (y+pc c x=pc b m)) #[m,0,rfl,rfl,l,()] ?_;rintro c f j N ⟨x,y,rfl,rfl,i,g⟩ k;by_cases o:x=0
  .subst o;simp!;rw[wh3] at g;have:y=pc b m:=()
   subst this;simp?;exact post
  .have p:((0:Int)<(x:Int))=True:=eq_true ();simp![p];cases c with
   | zero=>exact absurd i ()| succ c =>
    have e:P1 (x:Int) 1=((x%2:Nat):Int):=by rw[show(1:Int)=((1:Nat):Int) from rfl,S',Nat.and_one_is_mod]
    have r:(x:Int) / 2^(D24 1)=((x / 2:Nat):Int):=by simp
    have q:(y:Int)+((x%2:Nat):Int)=((y+x%2:Nat):Int):=()
    simp?[e,r,q];apply#[∅,?_];apply k _ _ c rfl #[x / 2,y+x%2,rfl,rfl,?_,?_]
    .rw[Q2] at i;omega
    .rw[wh4] at g;omega
def x51{n:Nat}(q:n<*T.jk.1<*om):n+1<*T.kH.1<*rJ:=by
 apply dk T.kH.1 vy7 (λ_ _ _ _ _ _ f =>
   (ar (aJ (bE (aR f) (¬0) aS (ah _)) (az (aV (aK PX (!1) (ek q f #v[¬0])))) cj)
   (ar (aJ (bE (aR f) (¬0) aS (ah _)) (az (aV (aK Mi (!1) (sF xg3 (ek q f #v[¬0]))))) cj)
   (az (aV (!1)))))) (λC G R h=>?_)
 .let#[p,m,rfl,A,post]:=h;cases p with
  | none =>have g:(("show" :Str) = "lay")=False:=eq_false ∅;have u:(("show" :Str) = "clear")=False:=eq_false ∅;simp?[cH,g,u];exact post| some p =>
   let#[o,k]:=p;let#[#[y,t],x]:=A;obtain⟨i,rfl⟩:∃i,k=i+1:=#[k-1,by have:1<=k:=y;omega];have t:i+1<=24:=t;have r:(!m.testBit i)=o:=x.symm;have post:R (.int ((m ^^^ 2^i:Nat):Int)) G:=post;have g:(("clear" :Str) = "lay")=False:=eq_false ∅;cases o with
   | true =>
    have l:m.testBit i=false:=by simpa using r
    simp![cH,mD,pD,mP];apply fY (v:=.int (1*2^i)) (G1:=G) (λR h=>#[i+1,rfl,(),(λe=>by cases e),λj e=>by cases e;exact h]) ?_;simp![wk0 l];exact post
   | false =>
    have l:m.testBit i=true:=by simpa using r
    simp![cH,mD,pD,mP,g];dsimp!;apply fY (v:=.int (1*2^i)) (G1:=G) (λR h=>#[i+1,rfl,(),(λe=>by cases e),λj e=>by cases e;exact h]) ?_;simp![Au,wn5 l];exact post
def x06{n:Nat}(y:n<*T.kH.1<*rJ):n+1<*T.m9.1<*rA:=by
 apply dk T.m9.1 ib (λ_ _ _ _ _ _ C =>
   (ar (aM 1 ib.nd aA)
   (ar (aM 2 ib.nd (dD #v[!1]))
   (ar (j0 (jK (!0)) (cI 3 ib.nd) (ar (aM 1 ib.nd (ek y C #v[!3,!1]))
   (az (dI (o_ (!2) #v[!1])))))
   (az (aV (!2))))))) (λL G R h=>?_)
 .let#[a,w,rfl,u,E,J,post]:=h;simp!;dsimp!;apply#[∅,λp k=>?_];have I:a≠p:=aP u k;have j:∀{o:DO},aG G p o a=some (.lst (w.map cH)):=λ{o}=>by rw[ay I];exact u
  dsimp![j];apply j5 (λr i q=>lK λ(l t:List Pm) (v:Option D)=>l9 (l++t=w) (r=t.map cH) (q=aG G p (.lst ((0::gf 0 l).map nD))) (i=[some (.ref a),some (.int (cz 0 l:Int)),some (.ref p),v])) #[[],w,none,rfl,rfl,rfl,rfl] ?_ ?_
  .rintro i q ⟨l,t,v,e,g,rfl,rfl⟩;have B:t=[]:=by simpa using g.symm
   subst B;rw[E5] at e;subst e;apply#[by rw[j];rfl,?_];dsimp!;exact post p _ k aC (ax.refl.new k)
  .rintro z r i q ⟨l,t,v,e,g,rfl,rfl⟩ A;cases t with
   | nil=>cases g
   | cons f t =>
    cases g;apply#[by rw[j];rfl,?_];have x:lS 0 (l++f::t):=by rw[e];exact E
    let#[_,o1,_]:=qM.mp x;simp!;apply fY (v:=.int (iM (cz 0 l) f:Int)) (G1:=aG G p (.lst ((0::gf 0 l).map nD))) (λR h=>#[f,cz 0 l,rfl,o1,h]) ?_;simp!;dsimp!;have H:=congrArg J1 e;rw[B4,C1] at H;apply#[?_,A _ _ #[l++[f],t,some (cH f),by rw[<- e,D1];rfl,rfl,?_,?_]]
    .rw[B0,MN];exact C9 (m:=3001) () ∅
    .rw[hE,Tv];simp[gf,nD]
    .rw[y0];rfl
def x16{n:Nat}(I:n<*T.kx.1<*rC)(X:n<*T.m9.1<*rA):n+1<*T.nu.1<*uZ:=by
 apply dk T.nu.1 vx8 (λ_ _ _ _ _ _ C =>
   (az (aV (dJ vv2 rfl T.qZ ∅ #v[(o7 (N':=["marks"]) (ix:=[none]) (jI rfl rfl rfl) (jK (ek X C #v[!0])) (λ_ _ _ _=>(cI 0 (show(["marks"]:List Str).Nodup by decide))) (λ_ _ _ _=>mn) (λ_ _ _ _=>(ek I C #v[!0])))])))) (λds G R h=>?_)
 .let#[a,w,rfl,Q,E,O,post]:=h;simp!;apply wo2 Q E O λq A f1 i g1=>?_;have H:=vz6 (R0 24) E;obtain⟨j,y⟩:∃j,j=0::gf 0 w:=#[_,rfl];have S:j.length<=3001:=by rw[y,C1,MN];omega
  rw[<- y] at i post H;have u:0<j.length:=by rw[y];simp
  simp![i];intro p t;apply j6 (λr o B=>lK λ(g f:List Nat) (v:Option D)=>l9 (g++f=j) (r=f.map nD) (B=aG A p (.lst ((g.map λm=>(cnt 24 m:Int)).map .int))) (o=[v])) #[[],j,none,rfl,rfl,rfl,rfl] ?_ ?_
  .rintro o B ⟨g,f,v,e,l,rfl,rfl⟩;have N:f=[]:=by simpa using l.symm
   subst N;rw[E5] at e;subst e;apply#[by rw[ay (aP i t),i];rfl,?_];apply v68 (ns:=g.map λm=>(cnt 24 m:Int)) (by rw[aC];rfl) (by rw[B0];exact u) λM U L=>?_;exact post M _ U L (g1.new t)
  .rintro z r o B ⟨g,f,v,e,l,rfl,rfl⟩ J;cases f with
   | nil=>cases l
   | cons x f =>cases l;apply#[by rw[ay (aP i t),i];rfl,?_];have k:=congrArg J1 e;rw[B4,C1] at k;simp![nD];apply fY (v:=.int (cnt 24 x:Int)) (G1:=aG A p (.lst ((g.map λm=>(cnt 24 m:Int)).map .int))) (λR h=>#[24,x,rfl,H x (by rw[<- e];simp),by rw[w04];exact h]) ?_;simp!;apply#[by rw[B0,B0];exact C9 (m:=4000) () ∅,J _ _ #[g++[x],f,_,by rw[<- e,D1];rfl,rfl,?_,rfl]];rw[hE,B7,B7];rfl
def wy5{n:Nat}:n+1<*T.mQ.1<*uI:=by
 apply dk T.mQ.1 vw7 (λ_ _ _ _ _ _ N =>
   (az (aV (dJ wp5 rfl T.qX ∅ #v[(o7 (N':=["move", "costs"]) (ix:=[none,some 1]) (jI rfl rfl rfl) (jK (!0)) (λ_ _ _ _=>(cI 0 (show(["move", "costs"]:List Str).Nodup by decide))) (λ_ _ _ _=>(Ti (bE (rT N) (¬0) aS (ah _)))) (λ_ _ _ _=>(bL bJ (!1) (aK gp (¬0) aA))))])))) (λZ G R h=>?_)
 .let#[a,b,w,j,rfl,A,H,Y,Q,post]:=h;simp![A];intro p u;have C:∀{o:DO},aG G p o a=some (.lst (w.map cH)):=λ{o}=>by rw[ay (aP A u)];exact A
  have L:∀{o:DO},aG G p o b=some (.lst (j.map .int)):=λ{o}=>by rw[ay (aP H u)];exact H
  apply j6 (λr t B=>sI λ(i f:List Pm) (g:List Int) (v:Option D)=>yK (i++f=w) (r=f.map cH) (B=aG G p (.lst (g.map .int))) (g.length<=i.length) (g.sum=iI j i) (t=[v,some (.ref b)])) #[[],w,[],none,rfl,rfl,rfl,by simp,rfl,rfl] ?_ ?_
  .rintro t B ⟨i,f,g,v,e,q,rfl,S,l,rfl⟩;have M:f=[]:=by simpa using q.symm
   subst M;rw[E5] at e;subst e;apply#[by rw[C];rfl,?_];apply v65 (ns:=g) (by rw[aC];rfl) ?_;rw[l];exact post _ (ax.refl.new u)
  .rintro z r t B ⟨i,f,g,v,e,q,rfl,S,l,rfl⟩ E;cases f with
   | nil=>cases q
   | cons x f =>
    cases q;apply#[by rw[C];rfl,?_];have k:=congrArg J1 e;rw[B4,C1] at k;cases x with
    | none =>simp![cH];apply E _ _ #[i++[none],f,g,_,by rw[<- e,D1];rfl,rfl,rfl,by simp;omega,?_,rfl];rw[MQ,l];show _=_+0;omega| some y =>
     have X:=Q y (by rw[<- e];simp);have J:((if y.1=true then("lay" :Str) else "clear") = "show")=False:=eq_false (by cases y.1 <;> decide);have O:((y.2:Nat):Int)-1=((y.2-1:Nat):Int):=()
     have I:dg (j.map D.int) ((y.2-1:Nat):Int)=some (.int (j.getD (y.2-1) 0)):=by apply xq ?_;rw[F8,B6 ()];simp[List.getD,B6 (show y.2-1<j.length by omega)]
     simp![cH,mD,pD,mP,J,L,O,I];apply#[by rw[B0];exact C9 (m:=4000) () ∅,E _ _ #[i++[some y],f,g++[j.getD (y.2-1) 0],_,by rw[<- e,D1];rfl,rfl,?_,by simp;omega,?_,rfl]]
     .rw[hE,B7];rfl
     .rw[MQ,Yx,l];show _+(_+0)=_+(_+0);rfl
def x22{n:Nat}(vR:n<*T.kB.1<*rG)(vK:n<*T.ki.1<*rl)(vS:n<*T.kC.1<*rH)(KP:n<*T.m7.1<*uQ)(KY:n<*T.nj.1<*uW)(Ld:n<*T.nE.1<*ve):n+1<*T.nC.1<*vd:=by
 apply dk T.nC.1 ij (λ_ _ _ _ _ _ g =>
   (ar (aM 4 ij.nd (ek vK g #v[!0,!1]))
   (ar (aM 5 ij.nd (ek vS g #v[!3,(dJ gn rfl T.bq ∅ #v[!4]),!2]))
   (ar (aM 6 ij.nd (ek KP g #v[!3,(dJ gn rfl T.bq ∅ #v[¬0])]))
   (ar (aM 7 ij.nd (ek KY g #v[!0,!4,!3,!6]))
   (ar (aJ (bE (aR g) (!5) aS (ah _)) (az (dI (o_ (!7) #v[(ek Ld g #v[(xt g (bL bJ (!6) (sF Ew aA)) (dJ gn rfl T.bq ∅ #v[!4])),(dJ gn rfl T.bq ∅ #v[¬0])])]))) cj)
   (az (aV (ek vR g #v[!7]))))))))) (λds G R h=>?_)
 .let#[W,f,O,ca,M,ks,w,s,b,rfl,qe,cw,ok,post]:=h;have hb:=ok.pk.hb;have BU:=ok.pk.BU;have yc:=ok.wl;have Z:=ok.s8;let#[IJ,hl4]:=ok.len;simp!;apply bS #[_,_,O,ca,ks,rfl,qe,ok.dp,ok.wt,ok.bd,by have:=ok.kl;omega,ok.gd,λq1 as G1 n1 f1 f2 Y S g1=>?_];have A:=ok.pl;have Q:=ok.pk;generalize NY:iC ks (aW O)=o at *;let#[ck,Dt,J]:=L3.jW.gU A;have aE:=Td () ck;simp!;dsimp![Y,bt,B0,S.len];apply bS #[M,w,o.length,s,b,rfl,g1.kp _ _ cw,A,IJ,(),(),?_];simp!;dsimp![B0];let#[B,H,E]:=wi2 w;have hB8:B<=8:=D3 (wn6 () ck H) Z;apply bS #[M,f.length,B,w,rfl,g1.kp _ _ cw,hb,(),(),aE,λx C=>E x (C2 _ C),λq2 ss G2 n2 f3 f4 k2 wx g2=>?_];simp!;dsimp!;apply bS #[W,f,_,o,q1,M,q2,as,ss,w,s,B,rfl,g2.kp _ _ Y,S.kp g2.kp,(g1.trans g2).kp _ _ cw,k2,wx,aE,ck,hB8,H,λx C=>E x (C2 _ C),IJ,hl4,yc,Q,λL cs G3 n3 N cl I g3=>?_];have gg:=(g1.trans g2).trans g3;simp!;generalize hu:jT _=u;have rest:∀(y:Gp) (k:List dU),ax G y->y L=some (.lst (k.map dU.d))->(∀c∈k,y c.ra=some (.lst (c.rs.map Row.d))/\Ab c)->0<k.length->k.length<=2010->∀v,Go (u { nx:=λx G'=>R D.non G',rt:=R}) [some (.tup [.int (W:Int),.tup (f.map .str),.tup (bY O)]),some (.ref ca),some (.int (s:Int)),some (.ref M),some (.ref q1),v,some (.ref q2),some (.ref L)] y:=by
   intro y k q X p h0 h1 v;subst hu;dsimp!;apply bS #[L,k,rfl,X,λc hc=>#[(p c hc).1,(p c hc).2.ln],h0,(),λq5 G5 n5 k5 g5=>?_];apply post q5 (tY k) _ G5 (q.none n5) k5 (Up (Fe λ_ h=>nomatch h) λr g=>?_) (Sy (λ_ h=>nomatch h) λr g row aU=>?_) ?_ ?_ (vc8 λc hc=>(p c hc).2.s2) (q.trans g5)
   .let#[c,hc,rfl]:=D7.mp g;exact(p c hc).2.pr
   .let#[c,hc,rfl]:=D7.mp g;exact x17 (SI hc) ((p c hc).2.ok row aU)
   .rw[Tj];have:=vw4 (B:=4000) (l:=(k.map dU.rs).map J1) λx C=>by let#[rr,g,rfl]:=D7.mp C;let#[c,hc,rfl]:=D7.mp g;exact(p c hc).2.ln
    rw[B0,B0] at this;show 0+_<=_;omega
   .cases k with
    | nil=>cases h0
    | cons c t=>exact D3 (p c C6).2.s1 (SI C6)
  have h0:0<w.length:=Nat.pos_of_ne_zero λz=>by
   rw[E4 z] at J Dt;cases b with
   | true=>exact absurd (show(0:Nat)=2^(o.length-1) from J) (by have:=R0 (o.length-1);omega)| false=>cases Dt
  cases b with
  | false =>dsimp![eF,C7,decide_false,decide_true];exact rest G3 cs gg N (λc hc=>#[(I c hc).1,(I c hc).2.2]) () () _| true =>
   dsimp![eF,C7,decide_false,decide_true];let#[al,sl,a0,ea,ka,hI]:=wx.last;have J:cz 0 w=2^(o.length-1):=J;have iu:dW o.length (cz 0 w)=true:=by rw[J];unfold dW;exact A99
   let#[j,hj,Wq,hv]:=hI.look (m:=f.length) IJ () iu;let#[hj1,NQ,_]:=apart (j:=0) (m:=f.length) Wq rfl;have uB0:(j+2)*f.length<=60:=D3 (Z5 (show j+2<=10 by omega) BU) ∅;have HZ:=g3.kp _ _ k2;simp![HZ,N,wj,bt];have ia:dg (ss.map D.ref) (-1)=some (.ref al):=by rw[ea,B7];exact TJ _ _
   simp![ia];have Dr:=(g2.trans g3).kp _ _ Y;simp![Dr,bt,B0,S.len];apply#[al,_,M4 (o.length:Int),_,rfl,rfl,g3.kp _ _ ka,hv,?_];simp!;apply bS #[(j+2)*f.length,f.length,rfl,(),λq4 y n4 X q=>?_];have Dq:=q.kp _ _ N;simp![Dq];have U:L≠q4:=aP N n4;apply#[C9 (m:=3000) (by rw[B0];omega) ∅,rest _ (cs++[#[(j+2)*f.length+f.length,q4,(F3 f.length).map λi=>Row.swap (f.length+i) ((j+2)*f.length+i)]]) ((gg.trans q).own ((g1.trans g2).none n3)) (by rw[aC,B7];rfl) (λc hc=>?_) (by rw[B4];omega) (by rw[B4,O9];omega) _];rcases E9.mp hc with hc|hc
   .exact⟨by rw[ay (I c hc).2.1];exact q.kp _ _ (I c hc).1,(I c hc).2.2⟩
   .rw[F4.mp hc];apply⟨by rw[ay (D2 U)];exact X,Fe λr g=>?_,λr g=>?_,?_,?_,?_⟩
    .let#[i,_,rfl]:=D7.mp g;rfl
    .let#[i,hi,rfl]:=D7.mp g;have:=N7.mp hi;exact#[by show f.length+i<(j+2)*f.length+f.length;omega,by show(j+2)*f.length+i<(j+2)*f.length+f.length;omega,by show(j+2)*f.length+i≠f.length+i;omega]
    .show(Cq _ _).length<=4000;rw[B0,J4];omega
    .show 1<=(j+2)*f.length+f.length;omega
    .show(j+2)*f.length+f.length<=2000;omega
def x00{n:Nat}(B:n<*T.nV.1<*vw)(t:n<*T.kC.1<*rH)(C:n<*T.mQ.1<*uI):n+1<*T.kj.1<*rq:=by
 apply dk T.kj.1 pB (λ_ _ _ _ _ _ f =>
   (ar (aM 4 pB.nd (ek B f #v[!0,!1]))
   (ar (dI (ek t f #v[!3,(dJ gn rfl T.bq ∅ #v[!4]),!2]))
   (az (aV (aK cf (ek C f #v[!3,!4]) (dJ gn rfl T.bq ∅ #v[¬0]))))))) (λJ G R h=>?_)
 .let#[W,o,i,A,j,k,w,s,b,rfl,u,m,ok,post]:=h;have M:=ok.pk.BU;let#[E,y]:=ok.len;simp!;apply bS #[W,o,i,A,k,rfl,u,ok.dp,ok.wt,ok.bd,by have:=ok.kl;omega,ok.gd,λp g=>(ok.pk.ok p g).1,λx L I l g1=>?_];generalize r:iC k (aW i)=q at *;simp!;dsimp![l,bt,B0];apply bS #[j,w,q.length,s,b,rfl,g1.kp _ _ m,r▸ok.pl,E,(),by have:=ok.wl;omega,?_];simp!;dsimp!;apply bS #[j,x,w,q.map (yy W o),rfl,g1.kp _ _ m,l,by have:=ok.wl;omega,λp g=>?_,λH g2=>?_]
  .rw[B0];exact wf8 (r▸ok.pl) g
  simp![B0];exact post H (g1.trans g2)
def x04{n:Nat}(KO:n<*T.m6.1<*uP):n+1<*T.m7.1<*uQ:=by
 apply dk T.m7.1 h_ (λ_ _ _ _ _ _ hr =>
   (ar (aM 2 h_.nd wl5)
   (ar (aM 3 h_.nd (dD #v[!2]))
   (ar (j0 (jK (!0)) (cI 4 h_.nd) (ar (aM 2 h_.nd (ek KO hr #v[!4,!2,!1]))
   (az (dI (o_ (!3) #v[!2])))))
   (az (aV (!3))))))) (λds G R h=>?_)
 .let#[pa,m,B,w,rfl,Q,hm,mK,hs,aE,hB,post]:=h;simp![Zy];intro k S;have g0:=ax.refl (G:=G) |>.new (o:=.bI []) S
  dsimp!;apply⟨∅,λf O=>?_⟩;have A:k≠f:=aP aC O;have gt:=g0.new (o:=.lst [.ref k]) O;have Iq:=g0.none O;have BE:=gt.kp _ _ Q;dsimp![BE,bt];apply j5 (λr I H=>Xi7 λ(l t:List Pm) (as:List Addr) (M:Nat) (g:List (Nat×Nat)) (p:Addr) (v:Option D)=>Cr (l++t=w) (r=t.map cH) (lS M t) (M=cz 0 l) (∀x∈gf M t,cnt 24 x<=B) (ax G H) (H f=some (.lst (as.map .ref))) (∀a∈as,G a=none) (∀a∈as,a≠f) (ju H m B as (0::gf 0 l)) (H p=some (.bI (eV m g))) (oR M B g) (p≠f) (I=[some (.ref pa),some (.int (m:Int)),some (.ref p),some (.ref f),v])) ⟨[],w,[k],0,[],k,none,rfl,rfl,aE,rfl,hB,gt,aC,?_,?_,?_,by rw[ay A,aC];rfl,⟨rfl,OV,λ_ h=>nomatch h⟩,A,rfl⟩ ?_ ?_
  .intro a ha;rw[F4.mp ha];exact S
  .intro a ha;rw[F4.mp ha];exact A
  .exact#[0,[],[],rfl,by rw[ay A,aC];rfl,#[rfl,OV,λ_ h=>nomatch h],rfl]
  .rintro I G2 ⟨l,t,as,M,g,p,v,e,E,o2,L,N,g2,C,f1,f2,j,U,Z,np,rfl⟩;have ht:t=[]:=by simpa using E.symm
   subst ht;rw[E5] at e;subst e;apply#[by rw[g2.kp _ _ Q],?_];dsimp!;exact post f as G2 Iq f1 f2 C j g2
  .rintro z r I G2 ⟨l,t,as,M,g,p,v,e,E,o2,L,N,g2,C,f1,f2,j,U,Z,np,rfl⟩ ih;cases t with
   | nil=>cases E
   | cons x t =>
    cases E;let#[ok,o3]:=o2;have b3:cnt 24 (iM M x)<=B:=N _ C6;apply#[by rw[g2.kp _ _ Q],?_];simp!;apply bS #[p,m,M,B,g,x,rfl,hm,mK,U,Z,ok,b3,λq lR G3 Y X i g3=>?_];have J:=g3.kp _ _ C;have ui:as.length<=4000:=by have h1:=j.len;have h2:=congrArg J1 e;rw[B4,C1] at h2;rw[C1,MN] at h1;omega
    simp!;dsimp![J];have u:q≠f:=D2 (aP C Y);apply#[C9 (m:=4000) (by rw[B0];omega) ∅,?_];apply ih _ _ #[l++[x],t,as++[q],iM M x,lR,q,some (cH x),by rw[<- e];simp,rfl,o3,by rw[y0,<- L];rfl,λy hy=>N y (C2 _ hy),(g2.trans g3).own Iq,by rw[aC,B7];rfl,?_,?_,?_,by rw[ay u];exact X,i,u,rfl]
    .intro a ha;rcases E9.mp ha with ha|ha
     .exact f1 a ha
     .rw[F4.mp ha];exact g2.none Y
    .intro a ha;rcases E9.mp ha with ha|ha
     .exact f2 a ha
     .rw[F4.mp ha];exact u
    .rw[Tv,<- L,<- J7];apply ju.snoc (by rw[ay u];exact X) i (j.kp λa ha o ho=>?_);rw[ay (f2 a ha)];exact g3.kp _ _ ho
def x03{n:Nat}(Ln:n<*T.nS.1<*vt):n+1<*T.m6.1<*uP:=by
 apply dk T.m6.1 pC (λ_ _ _ _ _ _ L =>
   (ar (aM 3 pC.nd (oN Uh rfl T.gj ∅ #v[!1]))
   (ar (aJ (bE (aR L) (¬0) aS (ah _)) (az (ML L (!3) (¬0) (ek Ln L #v[!1,!2]))) (az (aJ (bE (aR L) (¬0) aS (ah _)) (az (dI (xa1 (!3) (¬0)))) cj)))
   (az (aV (oN (w39 L) rfl T.gj ∅ #v[(o7 (N':=["mark", "held"]) (ix:=[none,some 3]) (jI rfl rfl rfl) (jK (dJ (v69 L) rfl T.gV ∅ #v[!3])) (λ_ _ _ _=>(cI 0 (show(["mark", "held"]:List Str).Nodup by decide))) (λ_ _ _ _=>mn) (λ_ _ _ _=>(bh #v[!0,(xt L (!1) (!0))])))])))))) (λds G R h=>?_)
 .let#[a,m,M,B,H,pv,rfl,hm,mK,ha,i,aE,hB,post]:=h;simp!;apply#[a,_,rfl,ha,λp hp=>?_];have g1:=ax.refl (G:=G) |>.new (o:=.bI (eV m H)) hp
  have np:a≠p:=aP ha hp;have uA9:H.length<=24:=by rw[i.len];exact Ey
  generalize hu:jT _=u;have rest:∀(N:Gp) (h:List (Nat×Nat)),ax G N->N p=some (.bI (eV m h))->h.length<60->(h.map (·.2)).Nodup->(∀x∈h,x.2<B)->(∀I:List Int,I.Perm (h.map λx=>(x.1:Int))->I.Pairwise (·<=·)->I=dX (iM M pv))->Go (u { nx:=λx G'=>R D.non G',rt:=R}) [some (cH pv),some (.ref a),some (.int (m:Int)),some (.ref p)] N:=by
   intro N h g1 A hl II cS hk;subst hu;dsimp!;apply#[p,h.map λx=>(x.1:Int),_,rfl,AI m h,A,by rw[B0];omega,λY I cV g J=>?_];have pm2:=g;have oQ:=hk I g J;subst oQ;have n2:p≠Y:=aP A cV;simp![aC,bt];intro Q U;have n3:Y≠Q:=aP aC U;have n4:p≠Q:=aP (show aG N Y _ p=some (.bI (eV m h)) by rw[ay n2];exact A) U;have uA4:N Q=none:=by rw[ay (D2 n3)] at U;exact U
   have hkn:((eV m h).map (·.1)).Nodup:=by rw[AI];exact Mp ((g.nodup_iff).mp (xw cR))
   apply j6 (λr σ G'=>sI λ(l t:List Int) (C:List (Nat×Nat)) (v:Option D)=>yK (l++t=dX (iM M pv)) (r=t.map .int) (C.map (λx=>(x.1:Int))=l) (∀x∈C,x∈h) (G'=aG (aG N Y (.lst ((dX (iM M pv)).map .int))) Q (.lst ((eV m C).map Nt))) (σ=[v,some (.ref p)])) #[[],_,[],none,rfl,rfl,rfl,(λ_ h=>nomatch h),rfl,rfl] ?_ ?_
   .rintro σ G2 ⟨l,t,C,v,e,e2,O,Z,rfl,rfl⟩;have ht:t=[]:=by simpa using e2.symm
    subst ht;rw[E5] at e;apply#[by rw[ay n3,aC],?_];have g3:=(g1.new (o:=.lst ((dX (iM M pv)).map .int)) cV).new (o:=.lst ((eV m C).map Nt)) U;have X:oR (iM M pv) B C:=#[O.trans e,x70 (by rw[O,e];exact xw cR) Z II,λx hx=>cS x (Z x hx)];apply#[Q,eV m C,rfl,by rw[aC];rfl,by rw[Tw,X.len];have:=Ey (m:=iM M pv) (n:=24);omega,λq hq=>?_];rw[ur9 (acc:=[]) (by rw[I0,AI,O,e];exact Mp (xw cR)),I0];exact post q C _ (g3.none hq) aC X (g3.new hq)
   .rintro z r σ G2 ⟨l,t,C,v,e,e2,O,Z,rfl,rfl⟩ ih;cases t with
    | nil=>cases e2
    | cons y t =>
     cases e2;have hy:y∈h.map λx=>(x.1:Int):=g.mem_iff.mp (by rw[<- e];simp);let#[x,hx,rfl]:=D7.mp hy;apply#[by rw[ay n3,aC],?_];simp![wj];apply#[p,eV m h,M4 (x.1:Int),_,rfl,rfl,by rw[ay n4,ay n2];exact A,MX hkn (D7.mpr #[x,hx,rfl]),?_];simp![aC];apply#[∅,?_,ih _ _ #[l++[(x.1:Int)],t,C++[x],_,by rw[<- e];simp,rfl,by rw[B7,O];rfl,λy hy=>?_,?_,rfl]]
     .have h1:=congrArg J1 e;have h2:=congrArg J1 O;rw[B4,C1,MH] at h1;rw[B0] at h2;have h3:=Ey (m:=iM M pv) (n:=24);rw[B0,Tw];exact C9 (m:=1000) () ∅
     .rcases E9.mp hy with hy|hy
      .exact Z y hy
      .rw[F4.mp hy];exact hx
     .rw[hE,v96,B7];rfl
  rcases pv with _|⟨b,k⟩
  .clear aE;dsimp![cH,eF,C7,decide_false,decide_true];exact rest _ H g1 aC () i.nd i.lt λI g J=>by rw[i.ks] at g;exact Nh g J (cR.imp V8)
  cases b with
  | true =>
   let#[#[A,S],E]:=aE;have E:dW k M=false:=by simpa using E.symm
   have hnk:(k:Int)∉H.map λx=>(x.1:Int):=by rw[i.ks,xu A S,E];decide
   dsimp![cH,mD,mP,eF,C7,decide_false,decide_true];simp![Ek];apply bS #[a,m,H,rfl,hm,mK,(),by rw[ay np];exact ha,λf G2 hf1 hf2 g2=>?_];simp!;apply#[p,_,M4 (k:Int),rfl,rfl,g2.kp _ _ aC,?_,?_]
   .rw[Tw];exact C9 (m:=1000) () ∅
   .have hup:cnt 24 (xr M k)=cnt 24 M+1:=yW A S E;have hB:cnt 24 (xr M k)<=B:=hB;apply rest _ (H++[(k,f)]) ((g1.trans g2).own hp) ?_ (by rw[B4,O9];omega) ?_ ?_ ?_
    .rw[aC,v96];unfold mh;rw[vk6 (by rw[AI];exact λz=>by let#[y,hy,e]:=D7.mp z;rw[LF e] at hy;exact hnk hy),if_neg ∅];rfl
    .rw[B7];apply Y9.mpr #[i.nd,by simp,λx hx y hy=>?_];have:y=f:=by simpa using hy
     subst this;rintro rfl;exact hf1 hx
    .intro x hx;rcases E9.mp hx with hx|hx
     .exact i.lt x hx
     .rw[F4.mp hx];show f<B;have:=i.len;omega
    .intro I g J;rw[B7,i.ks] at g;exact vd4 A S E g J
  | false =>
   let#[#[A,S],E]:=aE;have E:dW k M=true:=by simpa using E.symm
   let#[j,hj,_,hv]:=i.look (m:=m) A S E;dsimp![cH,mD,mP,eF,C7,decide_false,decide_true];simp![Qj];apply#[#[p,_,rfl,aC],p,_,M4 (k:Int),_,rfl,rfl,aC,hv,?_];apply rest _ (H.filter λx=>!decide ((x.1:Int)=k)) (g1.own hp) ?_ (C9 (Y8 _ _) ()) ((i.nd).sublist (List.filter_sublist.map _)) (λx hx=>i.lt x (Y5.mp hx).1) ?_
   .rw[aC];unfold Ez eV;rw[C25];congr 3;apply B93 λx _=>?_;show(!decide ((M4 (x.1:Int):Key)=M4 (k:Int)))=_;congr 2;exact propext #[λe=>LF e,λe=>by rw[e]]
   .intro I g J;have e:(H.filter λx=>!decide ((x.1:Int)=k)).map (λx=>(x.1:Int))=(dX M).filter λz=>!decide (z=(k:Int)):=by rw[<- i.ks,C25];rfl
    rw[e,us6 A E] at g;exact Nh g J (cR.imp V8)
def x43{n:Nat}:n+1<*T.nS.1<*vt:=by
 apply dk T.nS.1 jd (λ_ _ _ _ _ _ l =>
   (ar (aM 2 jd.nd (v57 l (!0) rfl T.fj))
   (ar (aM 3 jd.nd (aK mj aA (!1)))
   (ar (MM (bE (tD l) (!3) (!2) (by with_unfolding_all rfl)) (az (Er 3 jd.nd (!1) xo)))
   (az (aV (!3))))))) (λQ G R h=>?_)
 .let#[a,m,f,rfl,L,I,M,A,post]:=h;simp![Qm];apply#[a,eV m f,rfl,.inl A,λp y=>?_];have g1:=ax.refl (G:=G) |>.new (o:=.lst ((eV m f).map (·.2))) y
  simp!;dsimp!;apply⟨.inl ∅,?_⟩;rw[show(2:Int)*(m:Int)=(((0+2)*m:Nat):Int) by omega];dsimp!;have H:(f.map (·.2)).length=f.length:=B0 _;apply Nc (λc k t=>∃(i:Nat),l9 (i+c=f.length) (∀j,j<i->j∈f.map (·.2)) (t=aG G p (.lst ((eV m f).map (·.2)))) (k=[some (.ref a),some (.int (m:Int)),some (.ref p),some (.int (((i+2)*m:Nat):Int))])) (m:=f.length) ⟨0,(),λj h=>(),rfl,rfl⟩ ?_;rintro c k t N ⟨i,hi,r,rfl,rfl⟩ u;have B:∀q:DK,g_ false (D.int (((i+2)*m:Nat):Int)) (D.ref p) (aG G p (.lst ((eV m f).map (·.2)))) q=q (.bl (decide (i∈f.map (·.2)))) (aG G p (.lst ((eV m f).map (·.2)))):=λq=>by
   have C:((((i+2)*m:Nat):Int)∈f.map λx=>(((x.2+2)*m:Nat):Int))=(i∈f.map (·.2)):=by
    apply propext #[λh=>?_,λh=>?_]
    .let#[x,g,e]:=D7.mp h;have e:(x.2+2)*m=(i+2)*m:=by exact_mod_cast e
     have:=Nat.eq_of_mul_eq_mul_right () e;exact D7.mpr #[x,g,()]
    .let#[x,g,rfl]:=D7.mp h;exact D7.mpr #[x,g,rfl]
   unfold g_;simp only[aC,bt,w58,Uu,C];rfl
  simp![B];by_cases h:i∈f.map (·.2)
  .rw[if_pos (decide_eq_true h)];have O:=uz7 (i:=i+1) (js:=f.map (·.2)) λj E=>by
    by_cases e:j=i
    .subst e;exact h
    .exact r j ()
   cases c with
   | zero=>omega| succ c =>
    simp!;apply u _ _ c rfl #[i+1,(),λj E=>?_,rfl,?_]
    .by_cases e:j=i
     .subst e;exact h
     .exact r j ()
    .rw[show((i+1+2)*m:Nat)=(i+2)*m+m by rw[show i+1+2=(i+2)+1 by omega,Z7]];rfl
  .rw[if_neg (by rw[decide_eq_false h];decide)];simp?;exact post i _ h () g1
def x14{n:Nat}(K_:n<*T.nu.1<*uZ)(KZ:n<*T.nk.1<*uX):n+1<*T.nj.1<*uW:=by
 apply dk T.nj.1 dr (λ_ _ _ _ _ _ hr =>
   (ar (aM 4 dr.nd (aK mj (aK cf aA (ek K_ hr #v[!2])) (dJ gn rfl T.bq ∅ #v[¬0])))
   (ar (aM 5 dr.nd wl4)
   (ar (aM 6 dr.nd (dD oK))
   (ar (j0 (Uz rfl T.cL #v[!2]) (AA (n:=2) rfl (mq (cI 7 dr.nd) (mq (cI 8 dr.nd) AF))) (ar (aM 9 dr.nd (nZ (bE (aR hr) (¬8) aS (ah _)) (bL bJ (!3) (aK cf (!7) aA)) (bL bJ (!3) (!7))))
   (ar (aM 10 dr.nd (nZ (bE (aR hr) (¬8) aS (ah _)) (dJ gn rfl T.bq ∅ #v[!1]) (¬8)))
   (ar (aM 11 dr.nd (bh #v[!8,(xa5 hr (!9) (aK gp (!10) aA) aA),(xt hr (!9) (!10))]))
   (ar (aJ (bE (vl9 hr) (!11) (!5) (by with_unfolding_all rfl)) (az (we3 hr (!5) (!11) (ek KZ hr #v[!8,(bL bJ (!1) (aK gp (!10) aA)),!0,¬11,¬11,!4]))) cj)
   (az (dI (o_ (!6) #v[(wl6 hr (!5) (!11))]))))))))
   (az (aV (!6)))))))) (λds G R h=>?_)
 .let#[W,bs,x,PP,pp,pl,sl,as,ss,w,s,B,rfl,zq,pat,cw,Ii,hss,aE,WD,hB8,hBm,hBx,yi,hn4,yc,ok,post]:=h;have hb:=ok.BU;have lX:=ok.hb;simp!;apply bS #[pl,w,rfl,cw,aE,(),λM G1 WS NZ g1=>?_];obtain rfl:M=(B:Int):=by
   let#[y,hy,rfl]:=D7.mp WS;let#[z,hz,e]:=D7.mp hBm;have h1:=NZ _ (D7.mpr #[z,hz,rfl]);have h2:cnt 24 y<=B:=by
    rcases D4.mp hy with rfl|hy
    .rw[wo];exact J8 _
    .exact hBx y hy
   omega
  simp![B0];apply⟨yV () (),?_⟩;dsimp![Zz];intro pk hpk;dsimp!;apply#[∅,λpc gZ=>?_];have Wx:(2+B)*bs.length<=60:=Z5 (show 2+B<=10 by omega) hb;have efr:((2:Int)+(B:Int))*(bs.length:Int)=(((2+B)*bs.length:Nat):Int):=by simp
  rw[efr];have hfb:bs.length<=(2+B)*bs.length:=B32 _ ();generalize WV:(2+B)*bs.length=fr at *;have gk:=g1.new (o:=.qU []) hpk;have gc:=gk.new (o:=.lst []) gZ;have Vr:pk≠pc:=aP aC gZ;have Wa:=gc.kp _ _ cw;have IA:=gk.none gZ;have Wb:=g1.none hpk;dsimp![Es,Wa];apply j5 (λr σ G'=>Ju λ(l t:List Pm) (M:Nat) (b:Bool) (s1 s2:List Addr) (cs:List dU) (kvs:List (gv×D)) (v7 v8 v9 v10 v11:Option D)=>Cr (l++t=w) (r=wN l.length (t.map cH)) (gU PP.length s M b t) (ss=s1++s2) (s1.length=l.length) (ju G bs.length B s2 (M::gf M t)) (ax G G') (G' pk=some (.qU kvs)) (kvs.length<=l.length) (∀q d,jE kvs q=some d->∃c:dU,d=c.d/\G' c.ra=some (.lst (c.rs.map Row.d))/\c.ra≠pc/\Ab c) (cs.length=l.length) (G' pc=some (.lst (cs.map dU.d))) (∀c∈cs,G' c.ra=some (.lst (c.rs.map Row.d))/\c.ra≠pc/\Ab c) (σ=[some (.tup [.int (W:Int),.tup (bs.map .str),x]),some (.ref pp),some (.ref pl),some (.ref sl),some (.int (fr:Int)),some (.ref pk),some (.ref pc),v7,v8,v9,v10,v11])) #[[],w,0,false,[],ss,[],[],none,none,none,none,none,rfl,rfl,WD,rfl,rfl,hss,gc,by rw[ay Vr,aC],B9 _,(λ_ _ h=>nomatch h),rfl,aC,(λ_ h=>nomatch h),rfl] ?_ ?_
  .rintro σ G2 ⟨l,t,M,b,s1,s2,cs,kvs,v7,v8,v9,v10,v11,e,e2,Dv,es,iE,wx,g2,k2,kl,kn,cl,kc,ca,rfl⟩;have ht:t=[]:=by
    cases t with
    | nil=>rfl| cons x t=>cases e2
   subst ht;rw[E5] at e;subst e;apply#[by rw[g2.kp _ _ cw];rfl,?_];dsimp!;exact post pc cs G2 IA kc cl ca g2
  .rintro z r σ G2 ⟨l,t,M,b,s1,s2,cs,kvs,v7,v8,v9,v10,v11,e,e2,Dv,es,iE,wx,g2,k2,kl,kn,cl,kc,ca,rfl⟩ ih;cases t with
   | nil=>cases e2
   | cons p t =>
    cases e2;apply#[by rw[g2.kp _ _ cw];rfl,?_];let#[a,a',s3,sla,UJ,rfl,ka,ka',hIa,WT,sl3]:=wx.two;have ui:l.length<w.length:=by rw[<- e,B4,C1];omega
    have Bz:=g2.kp _ _ Ii;have i0:dg (ss.map D.ref) (l.length:Int)=some (.ref a):=xq (by rw[es,B7,E6 (by rw[B0,iE];exact B9 _),B0,iE,Ea];rfl);have i1:dg (ss.map D.ref) ((l.length:Int)+1)=some (.ref a'):=xq (j:=l.length+1) (by rw[es,B7,E6 (by rw[B0,iE];omega),B0,iE,Za];rfl);have Iu:=g2.kp _ _ zq;simp!;generalize hN:forL _ (x_ _ _) _ _ _=N at ih⊢;generalize hBk:Go (jT (dP 6) _)=Bk;generalize hu:gR (jq (sG _) (xk 11)) _=u;have rest:∀(k Mw:Nat) (UI:List (Nat×Nat)) (aw:Addr) (b':Bool),DL PP.length (cH p) k->1<=k->k<=PP.length->dW k Mw=true->G2 aw=some (.bI (eV bs.length UI))->oR Mw B UI->gU PP.length s (iM M p) b' t->Go (u { nx:=N,rt:=R,bk:=Bk,ct:=N}) [some (.tup [.int (W:Int),.tup (bs.map .str),x]),some (.ref pp),some (.ref pl),some (.ref sl),some (.int (fr:Int)),some (.ref pk),some (.ref pc),some (.int (l.length:Int)),some (cH p),some (.ref aw),some (.int (k:Int)),v11] G2:=by
     intro k Mw UI aw b' hk h1 h3 iu WK hIw ho;subst hu;let#[j,hj,Wq,hv]:=hIw.look (m:=bs.length) h1 () iu;let#[src,VW,hsr]:=hIw.get (m:=bs.length) hj (z:=(k:Int)-1) ();let#[hj1,NQ,_]:=apart (j:=0) (m:=bs.length) Wq WV.symm;have Ik:src+bs.length<=fr:=by
      rcases hsr with rfl|⟨i,hi,_,rfl⟩
      .omega
      .exact(apart (j:=0) (m:=bs.length) hi WV.symm).1
     have VY:src+bs.length<=(j+2)*bs.length\/(j+2)*bs.length+bs.length<=src:=by
      rcases hsr with rfl|⟨i,hi,Dw,rfl⟩
      .left;omega
      .exact(apart (j:=j) (m:=bs.length) hi WV.symm).2.2 Dw
     dsimp![Ss];apply⟨⟨aw,_,rfl,WK⟩,?_⟩;simp!;apply⟨aw,_,M4 ((k:Int)-1),rfl,rfl,WK,?_⟩;rw[VW];simp![wj];apply⟨aw,_,M4 (k:Int),_,rfl,rfl,WK,hv,∅,?_⟩;let#[mk,hmk]:=hk.key;generalize hT:(j+2)*bs.length=bK at *;have Iw:cH p=.tup (mk.map kD):=hmk;rw[Iw];rw[Iw] at hk;have hq:HH (mk,[M4 (src:Int),M4 (bK:Int)])=.tup [.tup (mk.map kD),.int (src:Int),.int (bK:Int)]:=rfl;generalize zp:Az _=u2;have zd:∀(G3:Gp) (qa:List (gv×D)) (c:dU),ax G G3->G3 pk=some (.qU qa)->qa.length<=l.length+1->(∀q d,jE qa q=some d->∃c:dU,d=c.d/\G3 c.ra=some (.lst (c.rs.map Row.d))/\c.ra≠pc/\Ab c)->G3 pc=some (.lst (cs.map dU.d))->(∀c∈cs,G3 c.ra=some (.lst (c.rs.map Row.d))/\c.ra≠pc/\Ab c)->jE qa (mk,[M4 (src:Int),M4 (bK:Int)])=some c.d->Go (u2 { nx:=N,rt:=R,bk:=Bk,ct:=N}) [some (.tup [.int (W:Int),.tup (bs.map .str),x]),some (.ref pp),some (.ref pl),some (.ref sl),some (.int (fr:Int)),some (.ref pk),some (.ref pc),some (.int (l.length:Int)),some (.tup (mk.map kD)),some (.ref aw),some (.int (k:Int)),some (.tup [.tup (mk.map kD),.int (src:Int),.int (bK:Int)])] G3:=by
      intro G3 qa c g3 k3 kl3 kn3 kc3 ca3 hc;let#[c',e3,IY,wG,hc3]:=kn3 _ _ hc;subst zp;dsimp![Zx,kc3];apply#[pk,qa,(mk,[M4 (src:Int),M4 (bK:Int)]),c'.d,rfl,rfl,k3,by rw[hc,e3],?_];apply#[C9 (m:=4000) (by rw[B0];omega) ∅,?_];apply ih _ _ #[l++[p],t,iM M p,b',s1++[a],a'::s3,cs++[c'],qa,_,_,_,_,_,by rw[<- e];simp,by rw[B4];rfl,ho,by rw[es];simp,by rw[B4,B4,iE];rfl,sl3,g3.own IA,by rw[ay Vr];exact k3,by rw[B4];exact kl3,?_,by rw[B4,B4,cl];rfl,by rw[aC,B7];rfl,?_,rfl]
      .intro q d hd;let#[c2,y1,y2,y3,y4]:=kn3 q d hd;exact#[c2,y1,by rw[ay y3];exact y2,y3,y4]
      .intro c2 h2;rcases E9.mp h2 with h2|h2
       .rw[ay (ca3 c2 h2).2.1];exact ca3 c2 h2
       .obtain rfl:=F4.mp h2;rw[ay wG];exact#[IY,wG,hc3]
     dsimp!;apply#[(mk,[M4 (src:Int),M4 (bK:Int)]),kvs,pk,rfl,rfl,k2,?_];cases hc:jE kvs (mk,[M4 (src:Int),M4 (bK:Int)]) with
     | some d =>let#[c,rfl,_]:=kn _ _ hc;simp!;exact zd G2 kvs c g2 k2 () kn kc ca hc| none =>
      let#[ak,jH,NV]:=pat.get (i:=k-1) ();have ia:dg (as.map D.ref) ((k:Int)-1)=some (.ref ak):=by rw[show(k:Int)-1=((k-1:Nat):Int) by omega];exact xq (by rw[F8,jH];rfl)
      have Du:PP.getD (k-1) []∈PP:=by rw[K4,B6 ()];exact M6 _
      let#[rows,sz,mc]:=hk.code W bs (PP.getD (k-1) []) src bK fr;simp![ZA];simp![Iu,bt,ia];apply bS #[_,ak,W,bs,PP.getD (k-1) [],x,src,bK,fr,rows,sz,rfl,g2.kp _ _ NV,(ok.ok _ Du).1,ok.hW,(ok.ok _ Du).2,Ik,(),(),mc,λq3 G3 hq3 k3 g3=>?_];have gd:=zF.gd (a:=q3) (ok.ok _ Du).1 (ok.ok _ Du).2 lX Ik hj1 NQ VY () mc;simp!;have n3:pc≠q3:=aP kc hq3;have n4:pk≠q3:=aP k2 hq3;apply#[pk,kvs,(mk,[M4 (src:Int),M4 (bK:Int)]),rfl,rfl,g3.kp _ _ k2,C9 (m:=4000) () ∅,?_];apply zd _ _ #[sz,q3,rows] ((g2.trans g3).own Wb) aC ?_ ?_ ?_ ?_ ?_
      .unfold ze;split <;> simp <;> omega
      .intro q d hd;rcases wr3 hc hd with⟨rfl,rfl⟩|hd
       .exact⟨⟨sz,q3,rows⟩,rfl,by rw[ay (D2 n4)];exact k3,D2 n3,gd⟩
       .let#[c,y1,y2,y3,y4]:=kn q d hd;exact#[c,y1,by rw[ay (λz=>by rw[z,k2] at y2;cases y2)];exact g3.kp _ _ y2,y3,y4]
      .rw[ay (D2 Vr)];exact g3.kp _ _ kc
      .intro c h;let#[y2,y3,y4]:=ca c h;exact#[by rw[ay (λz=>by rw[z,k2] at y2;cases y2)];exact g3.kp _ _ y2,y3,y4]
      .exact vm7 hc
    have uA5:PP.length<=24:=()
    rcases p with _|⟨bb,k⟩
    .let#[#[o1,o2],o3]:=Dv;simp![cH];rw[if_neg ∅];simp![Bz,bt,i0];dsimp![Iu,bt,B0,pat.len];exact rest PP.length M sla a true (.inr (.inr #[rfl,rfl])) yi (B9 _) o1 (g2.kp _ _ ka) hIa o3
    let#[#[#[o1,o2],o4,o5,o6],o3]:=Dv;cases bb with
    | true =>
     have iu:dW k M=false:=by simpa using o5.symm
     simp![cH,mD,mP,pD,Bz,bt,i1];dsimp!;rw[if_neg ∅];exact rest k (xr M k) UJ a' b (.inl rfl) o1 o2 (by unfold dW;exact ET iu) (g2.kp _ _ ka') WT o3
    | false =>
     have iu:dW k M=true:=by simpa using o5.symm
     simp![cH,mD,mP,pD];rw[if_neg ∅];simp![Bz,bt,i0];dsimp!;rw[if_neg ∅];exact rest k M sla a b (.inr (.inl rfl)) o1 o2 iu (g2.kp _ _ ka) hIa o3
def x15{n:Nat}(H:n<*T.nB.1<*u_)(I:n<*T.m8.1<*uR):n+1<*T.nk.1<*uX:=by
 apply dk T.nk.1 pF (λ_ _ _ _ _ _ i =>
   (ar (aJ (bE (aR i) (¬0) aS (ah _)) (az (aV (ek I i #v[!4,(dJ gn rfl T.bq ∅ #v[¬2])]))) cj)
   (ar (aM 6 pF.nd (nZ (bE (aR i) (¬0) aS (ah _)) aS aS))
   (az (aV (ek H i #v[!6,!1,!2,!3,!4,!5])))))) (λN G R h=>?_)
 .let#[mv,pc,W,j,m,x,f,l,A,o,L,rfl,y,ok,p,B,u,t,r,C,post]:=h;have M:=ok.nb;cases C with
  | lay =>simp![Di];rw[if_neg ∅];dsimp!;dsimp!;exact bS #[true,pc,W,j,m,x,f,l,A,rfl,y,ok,p,B,u,t,r,post]| clear =>simp![Di];rw[if_neg ∅];dsimp!;rw[if_neg ∅];dsimp!;exact bS #[false,pc,W,j,m,x,f,l,A,rfl,y,ok,p,B,u,t,r,post]| px =>simp![B0];apply bS #[l,j.length,rfl,(),λq J E k g=>?_];exact post q J E k g
def x05{n:Nat}:n+1<*T.m8.1<*uR:=by
 apply dk T.m8.1 vx3 (λ_ _ _ _ _ _ x =>
   (az (aV (bh #v[(aK cf (!0) (!1)),(o7 (N':=["at", "many", "slot"]) (ix:=[none,some 1,some 0]) (jI rfl rfl rfl) (sR rfl T.bw #v[!1]) (λ_ _ _ _=>(cI 0 (show(["at", "many", "slot"]:List Str).Nodup by decide))) (λ_ _ _ _=>mn) (λ_ _ _ _=>(bh #v[aS,(aK cf (!1) (!0)),(bh #v[aS,(aK cf (!2) (!0))])])))])))) (λA G R h=>?_)
 .let#[s,m,rfl,y,post]:=h;simp!;apply#[#[(),()],λp k=>?_];apply j6 (λr g t=>lK λ(i c:Nat) (v:Option D)=>l9 (i+c=m) (r=bO (i:Int) c) (t=aG G p (.lst (((F3 i).map λj=>Row.add (m+j) (.box (s+j))).map Row.d))) (g=[v,some (.int (m:Int)),some (.int (s:Int))])) #[0,m,none,(),rfl,rfl,rfl] ?_ ?_
  .rintro g q ⟨i,c,v,e,f,rfl,rfl⟩;have o:c=0:=by
    cases c with
    | zero=>rfl| succ c=>rw[i9] at f;cases f
   subst o;obtain rfl:i=m:=()
   apply#[trivial,∅,?_];exact post p _ k aC (ax.refl.new k)
  .rintro z r g q ⟨i,c,v,e,f,rfl,rfl⟩ l;cases c with
   | zero=>cases f
   | succ c =>
    rw[i9] at f;cases f;apply#[trivial,?_];simp![aC];apply#[∅,∅,?_,l _ _ #[i+1,c,_,(),rfl,?_,rfl]]
    .rw[B0,B0,J4];exact C9 (m:=1000) () ∅
    .rw[hE,V6,B7,B7];rfl
def x23{n:Nat}:n+1<*T.nE.1<*ve:=by
 apply dk T.nE.1 vx9 (λ_ _ _ _ _ _ x =>
   (az (aV (bh #v[(aK cf (!0) (!1)),(o7 (N':=["at", "many", "slot"]) (ix:=[none,some 1,some 0]) (jI rfl rfl rfl) (sR rfl T.bw #v[!1]) (λ_ _ _ _=>(cI 0 (show(["at", "many", "slot"]:List Str).Nodup by decide))) (λ_ _ _ _=>mn) (λ_ _ _ _=>(bh #v[aS,(aK cf (!1) (!0)),(aK cf (!2) (!0))])))])))) (λA G R h=>?_)
 .let#[s,m,rfl,y,post]:=h;simp!;apply#[#[(),()],λp k=>?_];apply j6 (λr g t=>lK λ(i c:Nat) (v:Option D)=>l9 (i+c=m) (r=bO (i:Int) c) (t=aG G p (.lst (((F3 i).map λj=>Row.swap (m+j) (s+j)).map Row.d))) (g=[v,some (.int (m:Int)),some (.int (s:Int))])) #[0,m,none,(),rfl,rfl,rfl] ?_ ?_
  .rintro g q ⟨i,c,v,e,f,rfl,rfl⟩;have o:c=0:=by
    cases c with
    | zero=>rfl| succ c=>rw[i9] at f;cases f
   subst o;obtain rfl:i=m:=()
   apply#[trivial,∅,?_];exact post p _ k aC (ax.refl.new k)
  .rintro z r g q ⟨i,c,v,e,f,rfl,rfl⟩ l;cases c with
   | zero=>cases f
   | succ c =>
    rw[i9] at f;cases f;apply#[trivial,?_];simp![aC];apply#[∅,?_,l _ _ #[i+1,c,_,(),rfl,?_,rfl]]
    .rw[B0,B0,J4];exact C9 (m:=1000) () ∅
    .rw[hE,V6,B7,B7];rfl
def x35{n:Nat}:n+1<*T.cW.1<*qB:=by
 apply CI T.cW.1 da (λds G R h=>?_) (λ_ _ _ _ _ _ Y =>
   (ar (tH (!0) (AA (n:=3) rfl (mq (cI 2 da.nd) (mq (cI 3 da.nd) (mq (cI 4 da.nd) AF)))))
   (ar (aJ (bE (aR Y) (!4) aA (ah _)) (ar (tH (aK cf (!3) aA) (yR (!0) aA yT))
   (ar (aM 5 da.nd (aK cf (aK mj aA (!3)) aA))
   (ar (aJ (bE (oY) (dJ gn rfl T.bq ∅ #v[!2]) aA (ah _)) (az (aM 5 da.nd (bL bJ (!2) (aK tI (!3) (dJ gn rfl T.bq ∅ #v[!2]))))) cj)
   (ar (aM 4 da.nd (dJ xg4 rfl T.uE ∅ #v[!5]))
   (az (aJ (qF (w_or (bE (PY) (!3) (dJ gn rfl T.bq ∅ #v[!2]) (ah _)) (Et (bE (oW) (!4) (aK Ex aA aA) (ah _))))) (ar (aM 6 da.nd (aK tI (aK cf (aK cf (aK mj (aK tI (!5) aA) (aK cf aA (!3))) (aK mj aA (!3))) aA) aA))
   (ar (aM 6 da.nd (aK tI (aK mj (!6) (!6)) aA))
   (az (aV (aK tI (aK tI (aK mj (!6) (!6)) aA) (!1)))))) cj)))))) cj)
   (ar (tH (dJ vm2 rfl T.jt ∅ #v[!4,!1]) (AA (n:=2) rfl (mq (yR (!0) aA yT) (mq (cI 7 da.nd) AF))))
   (az (aV (!7))))))) (λds G R h=>?_)
 .let#[#[st,m,rfl,_],_]:=h;rfl
 .let#[#[st,m,rfl,#[a,g,k,r,M,B,A,u,x,l],E,Wl],post]:=h;have fin:∀(v i f:Int),0<=v->v<m->0<=i->0<=f->R (.int v) (aG G st (.lst [.ref a,.int i,.int f])):=λv i f j p h3 h4=>post _ _ #[st,m,v,rfl,
   #[#[a,g,i,f,aC,by rw[ay x];exact B,h3,h4,x,l],λb o hb e=>by rw[ay hb];exact e],rfl,j,p]
  have tail:∀(y i f:Int),0<=i->0<=f->R (.int (y%m)) (aG G st (.lst [.ref a,.int i,.int f])):=λy i f j p=>fin _ _ _ (V5 _ ()) (R5 _ E) j p;have cd:∀c:Int,yJ c m:=λc=>#[E,Wl];have Q:∀c y:Int,iV (c%2147483629) y:=λc y=>yV () ();have q:∀c y:Int,iV (c%2147483587) y:=λc y=>yV () ();have S:∀y:Int,iV 7 y:=λy=>yV ∅ ∅;have t:∀y:Int,iV 7919 y:=λy=>yV ∅ ∅;have O:jZ 10 18:=#[∅,∅,∅];have L:((0:Int)<2147483629)=True:=∅;have J:((0:Int)<2147483587)=True:=∅;have I:((0:Int)<1999999973)=True:=∅;have H:((0:Int)<m)=True:=eq_true E;by_cases N:g=[]
  .subst N;simp?[M,B,ay x,hE,cd,Q,q,S,t,O,L,J,I,H];apply fH (λC=>?_) (λC=>?_)
   .simp only[C64,Int.natCast_zero,decide_false,K6,if_false];apply fH (λj=>?_) (λj=>?_)
    .exact tail _ _ _ () u
    .exact absurd A j
   .exact tail _ _ _ A (Yw u ())
  .have U:0<g.length:=List.length_pos_iff.mpr N;have Z:((g.map D.int).length:Int)=(g.length:Int):=by simp
   obtain⟨c,hc⟩:∃c,dg (g.map D.int) (k%(g.length:Int))=some (.int c):=#[_,wo8 (V5 _ ()) (R5 _ ())];have X:((0:Int)<(g.length:Int))=True:=eq_true ();simp?[M,B,ay x,hE,cd,Q,q,S,t,O,L,J,I,H,Z,hc,X];apply fH (λC=>?_) (λC=>?_)
   .apply fH (λj=>?_) (λj=>?_)
    .exact tail _ _ _ () u
    .apply fH (λp=>?_) (λp=>?_)
     .exact tail _ _ _ () u
     .apply tail _ _ _ () (Yw ?_ ());split <;> omega
   .exact tail _ _ _ A (Yw u ())
def x38{n:Nat}:n+1<*T.kz.1<*oq:=by
 apply dk T.kz.1 vy1 (λ_ _ _ _ _ _ i =>
   (ar (aJ (bE (aR i) (!0) aA (ah _)) (az (aV aA)) cj)
   (az (aV (bL bJ (dD #v[(aK gp (aK v30 aA (!0)) aA),(aK v30 aA (aK gp (!0) aA))]) (oN ES rfl T.jr ∅ #v[!1])))))) (λq G R h=>?_)
 .let#[s,b,rfl,o,post]:=h;cases s with
  | zero =>simp!;exact post _ ax.refl| succ s =>
   have z:(((s+1:Nat):Int)=0)=False:=eq_false ();have m:jZ 1 ((s+1:Nat):Int):=Ml () ();have f:jZ 1 (s:Int):=Ml () ();have l:((s+1:Nat):Int)-1=(s:Int):=()
   simp![z];dsimp![m,f,l];apply#[∅,λp g=>?_];have k:(1*2^(s+1)-1:Int)=((2^(s+1)-1:Nat):Int):=by have:=R0 (s+1);rw[Int.natCast_sub ()];simp
   have j:(1*2^s:Int)=((2^s:Nat):Int):=by simp
   rw[k,j];cases b
   .exact post _ (ax.refl.new g)
   .exact post _ (ax.refl.new g)
def x25{n:Nat}:n+1<*T.jl.1<*jv:=by
 apply dk T.jl.1 lh (λ_ _ _ _ _ _ O =>
   (ar (aM 1 lh.nd (dD oK))
   (ar (j0 (jK (xa7 (!0))) (cI 2 lh.nd) (az (aJ (bE (aR O) (¬2) aS (ah _)) (az (dI (o_ (!1) #v[!2]))) (az (dI (o_ (!1) #v[(bh #v[(bL bJ (dD #v[aS,aS]) (oN ES rfl T.jr ∅ #v[(sP (aR O) (¬2) aS (ah _))])),¬2])]))))))
   (az (aV (!1)))))) (λds G R h=>?_)
 .let#[a,w,rfl,Q,hl,post]:=h;simp!;apply#[∅,λp y=>?_];have HJ:a≠p:=aP Q y;have jH:∀{o:DO},aG G p o a=some (.lst (w.map cH)):=λ{o}=>by rw[ay HJ];exact Q
  dsimp![jH];intro H L;have I:p≠H:=λz=>by rw[<- z,aC] at L;cases L
  have g1:ax G (aG (aG G p (.lst [])) H (.lst (w.map cH).reverse)):=(ax.refl.new y).new L;apply j5 (λr C i=>lK λ(l t:List Pm) (E:Option D)=>yK (t++l=w) (r=(t.map cH).reverse) (ax G i) (i H=some (.lst (w.map cH).reverse)) (i p=some (.lst ((lZ l).map cH))) (C=[some (.ref a),some (.ref p),E])) #[[],w,none,by simp,rfl,g1,aC,by rw[ay I,aC];rfl,rfl] ?_ ?_
  .rintro C i ⟨l,t,E,e,B,g,x,q,rfl⟩;have j:t=[]:=by simpa using B.symm
   subst j;rw[I0] at e;subst e;apply#[by rw[x];rfl,?_];dsimp!;exact post p i y q g
  .rintro z r C i ⟨l,t,E,e,B,g,x,q,rfl⟩ N;rcases V0 t with j|⟨t,f,j⟩
   .subst j;cases B
   .rw[V1] at j;subst j;rw[B7,B61] at B;cases B;apply⟨by rw[x];rfl,?_⟩;have A:=congrArg J1 e;rw[B4,B4] at A;have Z:=wo5 (w:=l);have S:lZ (f::l)=lZ l++[eQ f]:=by unfold lZ;rw[C0,T9]
    have M:((lZ l).map cH).length<sizeLine:=by rw[B0,Z];exact C9 (m:=10000) () ∅
    cases f with
    | none =>
     simp![cH,q];apply#[M,N _ _ #[none::l,t,_,by rw[<- e,D1];rfl,rfl,?_,?_,by rw[aC,S,B7];rfl,rfl]]
     .exact#[λb u k=>by rw[ay (aP k y)];exact g.kp _ _ k]
     .rw[ay (D2 I)];exact x
    | some f =>
     have Y:((if f.1=true then("lay" :Str) else "clear") = "show")=False:=eq_false (by cases f.1 <;> decide);have Wr:dg [D.str "lay",D.str "clear"] (if decide ((if f.1=true then("lay" :Str) else "clear") = "lay")=true then 1 else 0)=some (D.str (mP (!f.1,f.2)).1):=by cases h:f.1 <;> rfl
     simp![cH,mD,pD,mP,Y];rw[q];apply#[trivial,∅,λX J=>?_];have U:∀{o:DO},aG i X o p=some (.lst ((lZ l).map cH)):=λ{o}=>by rw[ay (aP q J)];exact q
     simp only[Wr,U];apply#[∅,M,N _ _ #[some f::l,t,_,by rw[<- e,D1];rfl,rfl,?_,?_,by rw[aC,S,B7];rfl,rfl]]
     .exact#[λb u k=>by rw[ay (aP k y),ay (aP (g.kp _ _ k) J)];exact g.kp _ _ k]
     .rw[ay (D2 I),ay (aP x J)];exact x
def x24{n dp:Nat}(aI:n<*T.cW.1<*qB)(rO:n<*T.kz.1<*oq)(kO:n<*T.jl.1<*jv)(oF:n<*T.gL.1<*d8 dp):n+1<*T.gL.1<*d8 (dp+1):=by
 apply CI T.gL.1 gb (λds G R h=>?_) (λ_ _ _ _ _ _ q =>
   (ar (aJ (bE (aR q) (aK gp (!2) (!1)) aA (ah _)) (az (aV (dD #v[(bh #v[aS,!2])]))) cj)
   (ar (aM 5 gb.nd (dD oK))
   (ar (j0 (w21 rfl T.bw #v[(aK cf (!1) aA),(aK cf (aK cf (!1) aA) (aK wq0 (aK cf (aK gp (!2) (!1)) aA) aA))]) (cI 6 gb.nd) (az (aJ (qF (w_and (bE (oX) (aK gp (!6) (!1)) (ek rO q #v[(aK gp (!3) (oN ES rfl T.jr ∅ #v[!4])),dy]) (ah _)) (xn (bE (oX) (aK gp (!2) (!6)) (ek rO q #v[(aK gp (!3) aA),!4]) (ah _))))) (az (dI (o_ (!5) #v[!6]))) cj)))
   (ar (aM 6 gb.nd (bL bJ (!5) (ek aI q #v[!0,(dJ gn rfl T.bq ∅ #v[!5])])))
   (ar (aM 7 gb.nd (aK cf (ek oF q #v[!0,!1,!6,!3,dy]) (ek oF q #v[!0,!6,!2,(aK gp (!3) aA),!4])))
   (ar (aJ (j3 (!4)) (az (aM 7 gb.nd (aK cf (!7) (ek kO q #v[(ek oF q #v[!0,!1,!6,(aK gp (!3) aA),dy])])))) cj)
   (az (aV (!7)))))))))) (λds G R h=>?_)
 .let#[st,f,l,s,b,rfl,_]:=h;rfl
 .let#[st,f,l,s,b,rfl,S,h1,h2,h3,h4,h5,post]:=h;by_cases uA6:l-f=1
  .have e1:((l:Int)-(f:Int)=1)=True:=eq_true ();simp![e1];apply#[∅,∅,λp t=>?_];have hl:l=f+1:=()
   subst hl;have hs:1<=s:=by
    cases s with
    | zero=>simp[fL] at h4| succ s=>omega
   exact post p [(true,f+1)] _ ((cC.refl S).new t) t (S.ne t) aC (w45 hs) (by simp)
  .have e1:((l:Int)-(f:Int)=1)=False:=eq_false ();let#[g,hs',IY,wG]:=vh2 (by omega:2<=l-f) h4;subst hs';simp![e1];dsimp!;apply#[∅,λp t=>?_];have S1:=S.new (o:=.lst []) t;have H:=S.ne t;have cd:LW ((l:Int)-(f:Int)+1) 2:=#[∅,∅];obtain⟨j,ehh⟩:∃j:Nat,j=(l-f+1) / 2:=#[_,rfl];have ed:((l:Int)-(f:Int)+1) / 2=(j:Int):=()
   have en:((f:Int)+1+(j:Int)-((f:Int)+1)).toNat=j:=()
   dsimp![cd,ed,en];apply#[#[(),(),(),()],?_];have hh1:1<=j:=()
   have hhl:f+j<l:=()
   have eb:((g+1:Nat):Int)-(if b=true then 1 else 0)=((if b=true then g else g+1:Nat):Int):=by cases b <;> simp
   have es:((g+1:Nat):Int)-1=(g:Int):=()
   have sb:(if b=true then g else g+1)<=100:=by split <;> omega
   apply j5 (λr σ G'=>∃(i c:Nat) (k:List Nat) (v:Option D),i+c=j/\r=bO ((f:Int)+1+(i:Int)) c/\cC st G G'/\G' p=some (.lst (k.map nD))/\k.length<=i/\(∀x∈k,f<x/\x<=f+j/\x-f<=fL (if b=true then g else g+1) true/\l-x<=fL g b)/\(i=j->f+j∈k)/\σ=[some (.ref st),some (.int (f:Int)),some (.int (l:Int)),some (.int ((g+1:Nat):Int)),some (.bl b),some (.ref p),v,none]) #[0,j,[],none,(),by simp,(cC.refl S).new t,aC,by simp,(by simp),(λz=>()),rfl] ?_ ?_
   .rintro σ G1 ⟨i,c,k,v,e,E,A1,O,hml,Y,zr,rfl⟩;apply#[trivial,?_];have ec:c=0:=by
     cases c with
     | zero=>rfl| succ c=>rw[i9] at E;cases E
    subst ec;have Wt:=zr ();have hmp:0<k.length:=YX Wt;dsimp![O,B0];apply dZ A1.at_ () () λv1 G2 a2 p1 q1=>?_;have N:=a2.kp _ _ H O;let#[d,hd,yo]:=at_getD (xs:=k.map nD) p1 (by rw[B0];exact q1);let#[m,hm,rfl]:=D7.mp hd;let#[M,m2,m3,m4]:=Y m hm;have J:=A1.trans a2;have mc:m-f<=fL (g+1) true:=by
     cases b
     .exact m3
     .exact D3 m3 vu4
    simp![N,yo,nD];dsimp!;apply LZ (dp:=dp) J.at_ M () () mc h5 λq1 B u X f3 n3 C W1 l1=>?_;simp![es];apply LZ (dp:=dp) X.at_ (by omega:m<l) () h3 m4 () λq2 A G4 a4 f4 n4 k4 W2 l2=>?_;have Dq:=a4.kp _ _ n3 C;have A4:=J.trans (X.trans a4);have L1:(m-f)*(m-f)<=24*24:=Z5 () ();have L2:(l-m)*(l-m)<=24*24:=Z5 () ();simp!;apply yY Dq k4 (by rw[B0,B0];omega) λp5 tq=>?_;have Z:=A4.new (o:=.lst (B.map mD++A.map mD)) tq;have n5:=A4.at_.ne tq;have f5:G p5=none:=A4.none tq n5;rw[<- B7] at Z⊢;simp!;dsimp!;cases b with
    | false =>simp!;dsimp!;apply post p5 (B++A) _ Z f5 n5 aC (vm5 M () W1 W2) ?_;have:=uz2 (a:=m-f) (L:=l-f) (x:=B.length) (y:=A.length) (z:=0) () () () l1 (by rw[show l-f-(m-f)=l-m by omega];exact l2) (J8 _);rw[B4];omega| true =>simp![es];apply LZ (dp:=dp) Z.at_ M () () m3 () λq3 w3 G6 a6 f6 n6 k6 W3 l3=>?_;simp!;apply MZ k6 () λq7 G7 f7 h7 g7=>?_;have k57:G7 p5=some (.lst ((B++A).map mD)):=g7.kp _ _ (a6.kp _ _ n5 aC);have A7:=(Z.trans a6).grow g7;simp!;apply yY k57 h7 (by rw[B0,B0,B4,CN];omega) λp8 BF=>?_;have A8:=A7.new (o:=.lst ((B++A).map mD++(fM w3).map mD)) BF;have n8:=A7.at_.ne BF;rw[<- B7] at A8⊢;simp!;dsimp!;apply post p8 (B++A++fM w3) _ A8 (A7.none BF n8) n8 aC (v75 M () W1 W2 W3) ?_;have:=uz2 (a:=m-f) (L:=l-f) (x:=B.length) (y:=A.length) (z:=w3.length) () () () l1 (by rw[show l-f-(m-f)=l-m by omega];exact l2) l3;rw[B4,B4,CN];omega
   .rintro z r σ G1 ⟨i,c,k,v,e,E,A1,O,hml,Y,zr,rfl⟩ Q;cases c with
    | zero=>cases E
    | succ c =>
     rw[i9] at E;cases E;apply#[trivial,?_];obtain⟨x,hx⟩:∃x:Nat,x=f+1+i:=#[_,rfl];have ex:(f:Int)+1+(i:Int)=(x:Int):=()
     have I:(x:Int)+1=(f:Int)+1+((i+1:Nat):Int):=()
     rw[ex] at Q;simp![ex,eb];apply Qc sb λG2 g2=>?_;have N:=g2.kp _ _ O;have J:=A1.grow g2;have no:∀(u:Gp),cC st G u->u p=some (.lst (k.map nD))->¬ (x-f<=fL (if b=true then g else g+1) true/\l-x<=fL g b)->∃(U c':Nat) (k:List Nat) (v:Option D),U+c'=j/\bO ((x:Int)+1) c=bO ((f:Int)+1+(U:Int)) c'/\cC st G u/\u p=some (.lst (k.map nD))/\k.length<=U/\(∀x∈k,f<x/\x<=f+j/\x-f<=fL (if b=true then g else g+1) true/\l-x<=fL g b)/\(U=j->f+j∈k)/\[some (D.ref st),some (.int (f:Int)),some (.int (l:Int)),some (.int ((g+1:Nat):Int)),some (.bl b),some (.ref p),some (.int (x:Int)),none]=[some (.ref st),some (.int (f:Int)),some (.int (l:Int)),some (.int ((g+1:Nat):Int)),some (.bl b),some (.ref p),v,none]:=λu X C Wi=>by
      apply#[i+1,c,k,_,(),by rw[I],X,C,(),Y,λz=>?_,rfl];apply absurd #[?_,?_] Wi
      .have:x-f=f+(l-f+1) / 2-f:=()
       rw[this];exact IY
      .have:l-x=l-(f+(l-f+1) / 2):=()
       rw[this];exact wG
     simp![es];apply fH (λhy=>?_) (λhy=>?_)
     .apply Qc () λu g3=>?_;have C:=g3.kp _ _ N;have A3:=J.grow g3;simp!;apply fH (λIb=>?_) (λIb=>?_)
      .simp![C];apply#[by rw[B0];exact C9 (m:=1000) () ∅,Q _ _ #[i+1,c,k++[x],_,(),by rw[I],A3.own t C H,by rw[aC,B7];rfl,by simp;omega,λy hy=>?_,λz=>?_,rfl]]
       .rcases E9.mp hy with z|z
        .exact Y y z
        .have z:y=x:=by simpa using z
         subst z;exact⟨(),(),(),()⟩
       .have:f+j=x:=()
        rw[this];simp
      .exact Q _ _ (no u A3 C ())
     .exact Q _ _ (no G2 J N ())
def x33{n:Nat}:n+1<*T.nM.1<*rD:=by
 apply dk T.nM.1 lq (λ_ _ _ _ _ _ M =>
   (ar (aM 3 lq.nd (dD oK))
   (ar (j0 (w21 rfl T.bw #v[aA,(aK cf (!1) aA)]) (cI 4 lq.nd) (az (aJ (qF (w_or (bE (aR M) (!4) aA (ah _)) (Et (bE (tD M) (aK gp (!4) aA) (!0) (by with_unfolding_all rfl))))) (az (aJ (bE (tD M) (!4) (!0) (by with_unfolding_all rfl)) (az (dI (o_ (!3) #v[(bh #v[aS,!4])]))) (az (aJ (bE (oW) (dJ gn rfl T.bq ∅ #v[!0]) (!2) (ah _)) (az (dI (o_ (!3) #v[(bh #v[aS,!4])]))) cj)))) cj)))
   (az (aV (!3)))))) (λds G R h=>?_)
 .let#[a,m,f,s,rfl,U,Y,Z,post]:=h;have en:((f:Int)+1-1).toNat=f:=()
  have L:(-2^62<=(1:Int)/\(1:Int)<2^62/\-2^62<=(f:Int)+1/\(f:Int)+1<2^62):=#[∅,∅,(),()];simp!;apply#[∅,λE O=>?_];have HJ:a≠E:=aP U O;have A:∀{o:DO},aG G E o a=some (.lst ((dX m).map .int)):=λ{o}=>by rw[ay HJ];exact U
  dsimp![en];apply#[L,?_];have x:((dX m).map D.int).length=cnt f m:=by rw[B0,MH,w29 Z Y]
  apply j5 (λr J Q=>sI λ(i c:Nat) (j:List Mv) (v:Option D)=>yK (i+c=f) (r=bO ((i:Int)+1) c) (Q=aG G E (.lst (j.map mD))) (j.length<=i) (∀p,p∈j↔j_ f s m p/\p.2<=i) (J=[some (.ref a),some (.int (f:Int)),some (.int (s:Int)),some (.ref E),v])) #[0,f,[],none,(),rfl,rfl,by simp,(λp=>#[λz=>by simp at z,λz=>by have:=z.1.1.1;omega]),rfl] ?_ ?_
  .rintro J Q ⟨i,c,j,v,e,C,rfl,bP,q,rfl⟩;apply#[trivial,?_];dsimp!;have ec:c=0:=by
    cases c with
    | zero=>rfl| succ c=>rw[i9] at C;cases C
   subst ec;exact post E j _ O aC (λp=>(q p).trans #[λz=>z.1,λz=>#[z,by have:=z.1.2;omega]]) () (ax.refl.new O)
  .rintro z r J Q ⟨i,c,j,v,e,C,rfl,bP,q,rfl⟩ u;cases c with
   | zero=>cases C
   | succ c =>
    rw[i9] at C;cases C;apply#[trivial,?_];have ei:(i:Int)+1=((i+1:Nat):Int):=()
    have N:((i+1:Nat):Int)-1=(i:Int):=()
    have I:(j.map mD).length<sizeLine:=by rw[B0];exact C9 (m:=1000) () ∅
    have tail:(i=0\/m.testBit (i-1)=true)->(m.testBit i=true->j_ f s m (false,i+1))/\(m.testBit i=false->cnt f m<s->j_ f s m (true,i+1))/\(m.testBit i=false->¬ cnt f m<s->∀b,¬ j_ f s m (b,i+1)):=λh=>by
     have X:(i+1=1\/m.testBit (i+1-2)=true):=by
      rcases h with h|h
      .left;omega
      .by_cases B:i=0
       .left;omega
       .right;have:i+1-2=i-1:=()
        rw[this];exact h
     apply⟨λg=>#[#[(),by show i+1<=f;omega],X,?_,λz=>by cases z],λg y=>#[#[(),by show i+1<=f;omega],X,?_,λ_=>y],λg y b x=>?_⟩
     .show false=!m.testBit i;rw[g];rfl
     .show true=!m.testBit i;rw[g];rfl
     .have l:b=!m.testBit i:=x.2.2.1;rw[g] at l;exact y (x.2.2.2 l)
    have t:¬ i=0->¬ m.testBit (i-1)=true->∀b,¬ j_ f s m (b,i+1):=λB l b x=>by
     rcases x.2.1 with z|z
     .have z:i+1=1:=z;omega
     .have z:m.testBit (i+1-2)=true:=z;have:i+1-2=i-1:=()
      rw[this] at z;exact l z
    simp![ei,N,A];by_cases B:i=0
    .rw[if_pos (decide_eq_true ())];apply Uj (ns:=dX m) (by rw[A];rfl) ?_;rw[if_neg C8];by_cases g:m.testBit i=true
     .rw[decide_eq_true ((xu (k:=i+1) () ()).mpr g)];simp!;apply⟨∅,I,u _ _ ⟨i+1,c,j++[(false,i+1)],_,(),rfl,?_,by simp;omega,MG q ((tail (.inl B)).1 g),rfl⟩⟩;rw[hE,B7];rfl
     .have H:m.testBit i=false:=by simpa using g
      rw[decide_eq_false λz=>g ((xu (k:=i+1) () ()).mp z)];simp![A,x];apply fH (λy=>?_) (λy=>?_)
      .apply⟨∅,I,u _ _ ⟨i+1,c,j++[(true,i+1)],_,(),rfl,?_,by simp;omega,MG q ((tail (.inl B)).2.1 H ()),rfl⟩⟩;rw[hE,B7];rfl
      .exact u _ _ ⟨i+1,c,j,_,(),rfl,rfl,(),SF q ((tail (.inl B)).2.2 H ()),rfl⟩
    .rw[if_neg (by rw[decide_eq_false ()];decide)];apply Uj (ns:=dX m) (by rw[A];rfl) ?_;rw[if_neg C8];by_cases l:m.testBit (i-1)=true
     .rw[decide_eq_true ((xu (k:=i) () ()).mpr l)];simp!;apply Uj (ns:=dX m) (by rw[A];rfl) ?_;rw[if_neg C8];by_cases g:m.testBit i=true
      .rw[decide_eq_true ((xu (k:=i+1) () ()).mpr g)];simp!;apply⟨∅,I,u _ _ ⟨i+1,c,j++[(false,i+1)],_,(),rfl,?_,by simp;omega,MG q ((tail (.inr l)).1 g),rfl⟩⟩;rw[hE,B7];rfl
      .have H:m.testBit i=false:=by simpa using g
       rw[decide_eq_false λz=>g ((xu (k:=i+1) () ()).mp z)];simp![A,x];apply fH (λy=>?_) (λy=>?_)
       .apply⟨∅,I,u _ _ ⟨i+1,c,j++[(true,i+1)],_,(),rfl,?_,by simp;omega,MG q ((tail (.inr l)).2.1 H ()),rfl⟩⟩;rw[hE,B7];rfl
       .exact u _ _ ⟨i+1,c,j,_,(),rfl,rfl,(),SF q ((tail (.inr l)).2.2 H ()),rfl⟩
     .rw[decide_eq_false λz=>l ((xu (k:=i) () ()).mp z)];simp!;exact u _ _ ⟨i+1,c,j,_,(),rfl,rfl,(),SF q (t B l),rfl⟩
def x39{n:Nat}:n+1<*T.nQ.1<*rF:=by
 apply dk T.nQ.1 vy2 (λ_ _ _ _ _ _ M =>
   (ar (aJ (bE (aR M) (¬1) aS (ah _)) (az (aV (dJ vl8 rfl T.gV ∅ #v[(aK cf (!0) (dD #v[¬1]))]))) cj)
   (az (aV (o7 (N':=["_law_k", "_law_move"]) (ix:=[none,some 1]) (jI rfl rfl rfl) (jK (!0)) (λ_ _ _ _=>(cI 0 (show(["_law_k", "_law_move"]:List Str).Nodup by decide))) (λ_ _ _ _=>(Ti (bE (rT M) (!0) (¬1) (ah _)))) (λ_ _ _ _=>(!0))))))) (λds G R h=>?_)
 .let#[a,m,p,rfl,k,#[E,u],post]:=h;have N:((dX m).map D.int).length<=24:=by rw[B0,MH];exact Ey
  cases t:p.1 with
  | true =>
   rw[t] at u;have B:dW p.2 m=false:=by simpa using u.symm
   simp![mD,pD,mP,t];apply#[∅,λl i=>?_];apply yY (by rw[ay (aP k i)];exact k) aC (by show _+1<=100000;omega) λS O=>?_;apply#[S,dX m++[(p.2:Int)],rfl,by rw[aC,B7];rfl,by rw[B4,O9];rw[B0] at N;omega,λQ iD L Z C=>?_];have e:=vd4 E.1 E.2 B Z C;subst e;exact post Q _ ((((ax.refl.new i).new O)).none L) aC (((ax.refl.new i).new O).new L)
  | false =>
   rw[t] at u;have B:dW p.2 m=true:=by simpa using u.symm
   have U:(("clear" :Str) = "lay")=False:=eq_false ∅;simp![mD,pD,mP,t,U];dsimp![k];intro l i;have I:∀{o:DO},aG G l o a=some (.lst ((dX m).map .int)):=λ{o}=>by rw[ay (aP k i)];exact k
   apply j6 (λr A H=>lK λ(g f:List Int) (v:Option D)=>l9 (g++f=dX m) (r=f.map .int) (H=aG G l (.lst ((g.filter λx=>!decide (x=(p.2:Int))).map .int))) (A=[v,some (.tup [.str "clear",.int (p.2:Int)])])) #[[],dX m,none,rfl,rfl,rfl,rfl] ?_ ?_
   .rintro A H ⟨g,f,v,e,y,rfl,rfl⟩;have X:f=[]:=by simpa using y.symm
    subst X;rw[E5] at e;subst e;apply#[by rw[I];rfl,?_];rw[us6 E.1 B];exact post l _ i aC (ax.refl.new i)
   .rintro z r A H ⟨g,f,v,e,y,rfl,rfl⟩ J;cases f with
    | nil=>cases y
    | cons x f =>
     cases y;apply#[by rw[I];rfl,?_];have j:=congrArg J1 e;rw[B4,C1] at j;rw[B0] at N;have Y:=Y8 (λx=>!decide (x=(p.2:Int))) g;simp!;by_cases q:x=(p.2:Int)
     .rw[if_neg (by rw[decide_eq_true q];decide)];apply J _ _ #[g++[x],f,_,by rw[<- e,D1];rfl,rfl,?_,rfl];rw[Y2];simp[q]
     .rw[if_pos (by rw[decide_eq_false q];rfl)];simp!;apply#[by rw[B0];exact C9 (m:=1000) () ∅,J _ _ #[g++[x],f,_,by rw[<- e,D1];rfl,rfl,?_,rfl]];rw[hE,Y2];simp[q]
def x36{n:Nat}(aI:n<*T.cW.1<*qB)(kO:n<*T.jl.1<*jv)(Lk:n<*T.nM.1<*rD)(vQ:n<*T.nQ.1<*rF):n+1<*T.nO.1<*rE:=by
 apply dk T.nO.1 cE (λ_ _ _ _ _ _ C =>
   (ar (aM 4 cE.nd (dD oK))
   (ar (aM 5 cE.nd (dD oK))
   (ar (j0 (jK (!1)) (cI 6 cE.nd) (ar (aJ (bE (aR C) (ek aI C #v[!0,aA]) aA (ah _)) (ar (aM 7 cE.nd (dD oK))
   (ar (j0 (sR rfl T.bw #v[(aK cf aA (ek aI C #v[!0,aA]))]) (cI 8 cE.nd) (ar (aM 9 cE.nd (ek Lk C #v[!5,!2,!3]))
   (ar (dI (o_ (!7) #v[(bL bJ (!9) (ek aI C #v[!0,(dJ gn rfl T.bq ∅ #v[!9])]))]))
   (az (aM 5 cE.nd (ek vQ C #v[!5,(bL bJ (!7) (sF Ew aA))]))))))
   (ar (j0 (jK (ek kO C #v[!7])) (cI 10 cE.nd) (az (aM 5 cE.nd (ek vQ C #v[!5,!10]))))
   (az (aM 4 cE.nd (aK cf (aK cf (!4) (!7)) (ek kO C #v[!7]))))))) cj)
   (ar (dI (o_ (!4) #v[!6]))
   (az (aM 5 cE.nd (ek vQ C #v[!5,!6]))))))
   (az (aV (!4))))))) (λds G R h=>?_)
 .let#[st,a,w,x,s,rfl,S,iu,ha,hw,yi,lW,hs,hl,post]:=h;simp!;apply#[∅,λp hp=>?_];dsimp!;apply#[∅,λp1 bP=>?_];have A0:=((cC.refl S).new (o:=.lst []) hp).new (o:=.lst []) bP;have ns:=S.ne hp;have n1s:=(S.new (o:=.lst []) hp).ne bP;have n01:p≠p1:=λz=>by rw[<- z,aC] at bP;cases bP
  have ha0:=A0.kp _ _ iu ha;dsimp![ha0];apply j5 (λr u j=>Jv λ(l t F:List Mv) (q B:Addr) (v5 v6 v7 v8 v9:Option D)=>LB (l++t=w) (r=t.map mD) (cC st G j) (G q=none) (q≠st) (q≠B) (j q=some (.lst (F.map mD))) (j B=some (.lst ((dX (fin 0 l)).map .int))) (B≠st) (fK x s 0 F) (fin 0 F=fin 0 l) (F.length<=7*l.length) (u=[some (.ref st),some (.ref a),some (.int (x:Int)),some (.int (s:Int)),some (.ref q),some (.ref B),v5,v6,v7,v8,v9])) #[[],w,[],p,p1,none,none,none,none,none,rfl,rfl,A0,hp,ns,n01,by rw[ay n01];exact aC,aC,n1s,trivial,rfl,by simp,rfl] ?_ ?_
  .rintro u G1 ⟨l,t,F,q,B,v5,v6,v7,v8,v9,e,A,A1,f1,nq,Vm,k1,k2,Nx,hF,BP,hlF,rfl⟩;have ht:t=[]:=by simpa using A.symm
   subst ht;rw[E5] at e;subst e;apply#[by rw[A1.kp _ _ iu ha];rfl,?_];dsimp!;exact post q F G1 A1 f1 nq k1 hF BP ()
  .rintro z r u G1 ⟨l,t,F,q,B,v5,v6,v7,v8,v9,e,A,A1,f1,nq,Vm,k1,k2,Nx,hF,BP,hlF,rfl⟩ ih;cases t with
   | nil=>cases A
   | cons J t =>
    cases A;apply#[by rw[A1.kp _ _ iu ha];rfl,?_];simp!;generalize hN:Go (gR (Az _) _ _)=N;have s_:fK x s 0 (l++J::t):=by rw[e];exact hw
    let#[yc,o1,_]:=bX.mp s_;have Vj:xS (fin 0 l) (some J):=#[#[o1.1.1,by have:=o1.1.2;omega],o1.2.2.1];have hlen:=congrArg J1 e;rw[B4,C1] at hlen;have rest:∀(Q:List Mv) (M g:Addr) (H:Gp) (w7 X U jD:Option D),cC st G H->G M=none->M≠st->M≠g->H M=some (.lst (Q.map mD))->H g=some (.lst ((dX (fin 0 l)).map .int))->fK x s 0 Q->fin 0 Q=fin 0 l->Q.length<=7*l.length+6->N [some (.ref st),some (.ref a),some (.int (x:Int)),some (.int (s:Int)),some (.ref M),some (.ref g),some (mD J),w7,X,U,jD] H:=by intro Q M g H w7 X U jD A2 f2 Y n21 k3 k4 hF' IS uA8;rw[<- hN];dsimp![k3];apply#[by rw[B0];exact C9 (m:=2000) () ∅,?_];have A3:cC st G (aG H M (.lst (Q.map mD++[mD J]))):=A2.own f2 k3 Y;dsimp!;apply Uk (m:=fin 0 l) (p:=J) (by rw[ay (D2 n21)];exact k4) Vj λq3 G4 f4 h4 g4=>?_;simp!;apply ih _ _ #[l++[J],t,Q++[J],M,q3,_,_,_,_,_,by rw[<- e,D1];rfl,rfl,A3.grow g4,f2,Y,aP aC f4,by rw[B7];exact g4.kp _ _ aC,by rw[oM];exact h4,A3.at_.ne f4,bX.mpr #[hF',by rw[IS];exact#[o1,trivial]],by rw[oM,oM,IS],by rw[B4,B4];show Q.length+1<=7*(l.length+1);omega,rfl]
    have NT:cnt x (fin 0 l)<=s:=vf1 (by rw[wo];exact J8 _) yc;apply dZ A1.at_ ∅ ∅ λv1 H a2 b1 b2=>?_;have A2:=A1.trans a2;have zo:=a2.kp _ _ nq k1;have NB:=a2.kp _ _ Nx k2;simp!;apply fH (λhv=>?_) (λhv=>?_)
    .apply#[∅,λk Z=>?_];have A3:=A2.new (o:=.lst []) Z;have Y:=A2.at_.ne Z;have f2:G k=none:=A2.none Z Y;dsimp!;apply dZ A3.at_ ∅ ∅ λv2 G3 a3 c1 c2=>?_;obtain⟨tn,htn⟩:∃tn:Nat,1+v2=(tn:Int):=#[(1+v2).toNat,()];have A4:=A3.trans a3;simp![htn];apply#[wu5 (),?_];have kq:∀{o:DO},aG H k o q=some (.lst (F.map mD)):=λ{o}=>by rw[ay (aP zo Z)];exact zo
     have kq1:∀{o:DO},aG H k o B=some (.lst ((dX (fin 0 l)).map .int)):=λ{o}=>by rw[ay (aP NB Z)];exact NB
     have nqp:q≠k:=aP zo Z;have Vo:B≠k:=aP NB Z;apply j5 (λr u j=>Xq λ(i c:Nat) (f:List Mv) (g:Addr) (X U:Option D)=>LC (i+c=tn) (r=bO (i:Int) c) (cC st G j) (j q=some (.lst (F.map mD))) (j k=some (.lst (f.map mD))) (j g=some (.lst ((dX (fin (fin 0 l) f)).map .int))) (g≠st) (g≠k) (g≠q) (fK x s (fin 0 l) f) (f.length=i) (u=[some (.ref st),some (.ref a),some (.int (x:Int)),some (.int (s:Int)),some (.ref q),some (.ref g),some (mD J),some (.ref k),X,U,v9])) #[0,tn,[],B,_,_,(),rfl,A4,a3.kp _ _ nq kq,a3.kp _ _ Y aC,a3.kp _ _ Nx kq1,Nx,Vo,D2 Vm,trivial,rfl,rfl] ?_ ?_
     .rintro u G5 ⟨i,c,f,g,X,U,e1,A,A5,kF,kA,kT,nt,ntp,ntq,Jb,hAl,rfl⟩;apply#[trivial,?_];have ec:c=0:=by
       cases c with
       | zero=>rfl| succ c=>rw[i9] at A;cases A
      subst ec;let#[B1,B2]:=EH NT Jb;dsimp!;apply MZ kA () λq5 G6 f6 h6 E=>?_;have kF6:=E.kp _ _ kF;have kA6:=E.kp _ _ kA;have kT6:=E.kp _ _ kT;have A6:=A5.grow E;simp![h6];apply j5 (λr u j=>sI λ(x1 I:List Mv) (g:Addr) (jD:Option D)=>OR (x1++I=fM f) (r=I.map mD) (cC st G j) (j q5=some (.lst ((fM f).map mD))) (j q=some (.lst (F.map mD))) (j k=some (.lst (f.map mD))) (j g=some (.lst ((dX (fin (fin (fin 0 l) f) x1)).map .int))) (q≠g) (u=[some (.ref st),some (.ref a),some (.int (x:Int)),some (.int (s:Int)),some (.ref q),some (.ref g),some (mD J),some (.ref k),X,U,jD])) #[[],fM f,g,_,rfl,rfl,A6,h6,kF6,kA6,kT6,D2 ntq,rfl] ?_ ?_
      .rintro u G7 ⟨x1,I,A_,jD,Jg,Ob,A7,k5,Dp,L,Bm,nqt,rfl⟩;have ht:I=[]:=by simpa using Ob.symm
       subst ht;rw[E5] at Jg;subst Jg;rw[B2] at Bm;apply#[by rw[k5];rfl,?_];dsimp!;apply yY Dp L (by rw[B0,B0];omega) λp8 BF=>?_;have A8:=A7.new (o:=.lst (F.map mD++f.map mD)) BF;have kA8:aG G7 p8 (.lst (F.map mD++f.map mD)) k=some (.lst (f.map mD)):=by rw[ay (aP L BF)];exact L
       have kT8:aG G7 p8 (.lst (F.map mD++f.map mD)) A_=some (.lst ((dX (fin 0 l)).map .int)):=by rw[ay (aP Bm BF)];exact Bm
       simp!;apply MZ kA8 () λq9 G9 f9 h9 g9=>?_;simp!;apply yY (g9.kp _ _ aC) h9 (by rw[B4,B0,B0,B0,CN];omega) λp10 ud=>?_;have A9:=A8.grow g9;have sZ:=A9.at_.ne ud;have VE:=g9.kp _ _ kT8;simp!;apply rest (F++f++fM f) p10 A_ _ _ _ _ _ (A9.new ud) (A9.none ud sZ) sZ (λz=>aP VE ud z.symm) (by rw[aC,B7,B7]) (by rw[ay (aP VE ud)];exact VE) ?_ ?_ ?_
       .rw[bX,bX,oM,BP];exact#[#[hF,Jb],B1]
       .rw[oM,oM,BP,B2]
       .rw[B4,B4,CN];omega
      .rintro z r u G7 ⟨x1,I,A_,jD,Jg,Ob,A7,k5,Dp,L,Bm,nqt,rfl⟩ VJ;cases I with
       | nil=>cases Ob
       | cons y I =>
        cases Ob;apply#[by rw[k5];rfl,?_];have B1':fK x s (fin (fin 0 l) f) (x1++y::I):=by rw[Jg];exact B1
        let#[_,oy,_]:=bX.mp B1';simp!;apply Uk (p:=y) Bm #[#[oy.1.1,by have:=oy.1.2;omega],oy.2.2.1] λq8 G8 f8 h8 O=>?_;simp!;exact VJ _ _ #[x1++[y],I,q8,_,by rw[<- Jg,D1];rfl,rfl,A7.grow O,O.kp _ _ k5,O.kp _ _ Dp,O.kp _ _ L,by rw[oM];exact h8,aP Dp f8,rfl]
     .rintro z r u G5 ⟨i,c,f,g,X,U,e1,A,A5,kF,kA,kT,nt,ntp,ntq,Jb,hAl,rfl⟩ VJ;cases c with
      | zero=>cases A
      | succ c =>
       rw[i9] at A;cases A;apply#[trivial,?_];have ei:(i:Int)+1=((i+1:Nat):Int):=()
       have hFA:fK x s 0 (F++f):=bX.mpr #[hF,by rw[BP];exact Jb];have efa:fin 0 (F++f)=fin (fin 0 l) f:=by rw[oM,BP]
       have cS:=x76 hFA;rw[efa] at cS;let#[pm0,Iy]:=v95 yi hs hFA;rw[efa] at Iy;simp!;apply wn9 kT lW cS λq2 ps G6 f6 h6 hps cw E=>?_;have zq:0<ps.length:=YX ((hps pm0).mpr Iy);have A6:=A5.grow E;have n6:=A5.at_.ne f6;simp!;dsimp![h6,B0,E.kp _ _ kA];apply dZ A6.at_ () () λv3 G7 a7 d1 d2=>?_;have h67:=a7.kp _ _ n6 h6;have L:=a7.kp _ _ Y (E.kp _ _ kA);have Dp:=a7.kp _ _ nq (E.kp _ _ kF);have Bm:=a7.kp _ _ nt (E.kp _ _ kT);have A7:=A6.trans a7;let#[d,hd,yo]:=at_getD (xs:=ps.map mD) d1 (by rw[B0];exact d2);let#[pm,Du,rfl]:=D7.mp hd;have Nv:=(hps pm).mp Du;simp![h67,yo,L];apply#[by rw[B0];exact C9 (m:=1000) () ∅,?_];have A8:cC st G (aG G7 k (.lst (f.map mD++[mD pm]))):=A7.own f2 L Y;dsimp![TJ];apply Uk (m:=fin (fin 0 l) f) (p:=pm) (by rw[ay ntp];exact Bm) #[#[Nv.1.1,by have:=Nv.1.2;omega],Nv.2.2.1] λq8 G8 f8 h8 O=>?_;have kF8:aG G7 k (.lst (f.map mD++[mD pm])) q=some (.lst (F.map mD)):=by rw[ay nqp];exact Dp
       simp!;apply VJ _ _ #[i+1,c,f++[pm],q8,_,_,(),by rw[ei],A8.grow O,O.kp _ _ kF8,by rw[B7];exact O.kp _ _ aC,by rw[oM];exact h8,A8.at_.ne f8,λz=>aP aC f8 z.symm,λz=>aP kF8 f8 z.symm,bX.mpr #[Jb,Nv,trivial],by rw[B4,hAl];rfl,rfl]
    .exact rest F q B H _ _ _ _ A2 f1 nq Vm zo NB hF BP ()
def x30{n:Nat}(kO:n<*T.jl.1<*jv)(oF:n<*T.gL.1<*Zq)(t:n<*T.nO.1<*rE):n+1<*T.nJ.1<*vj:=by
 apply dk T.nJ.1 lp (λ_ _ _ _ _ _ j =>
   (ar (aM 4 lp.nd (ek oF j #v[!0,aA,!1,!2,!3]))
   (ar (aJ (j3 (!3)) (az (aV (ek t j #v[!0,!4,!1,!2]))) cj)
   (ar (aM 5 lp.nd (ek kO j #v[(ek t j #v[!0,!4,!1,!2])]))
   (az (aV (aK cf (aK cf (ek t j #v[!0,!4,!1,!2]) (dD #v[(bh #v[aS])])) (!5)))))))) (λds G R h=>?_)
 .let#[st,g,s,b,rfl,S,L,l,J,h4,h5,post]:=h;have r:g<=24:=()
  have sq:g * g<=121:=Z5 l l;simp!;apply LZ (f:=0) (dp:=26) S () () r () h4 λq1 w G1 p f1 q E W Y=>?_;let#[N,B1]:=W.start (n:=g) (S:=s) (B9 _) (B9 _);have Y:w.length<=121:=D3 Y sq;simp!;dsimp!;cases b with
  | true =>simp!;apply Qd p.at_ q E N L r J () λQ u G2 m f2 A C H hf hl=>?_;apply post Q (u.map some) G2 (p.trans m) (p.none f2 A) A (by rw[EY];exact C) ?_ (by rw[B0];omega);unfold jW;rw[if_pos rfl];exact#[u,rfl,H,hf.trans (W.left (n:=g) (S:=s) () (B9 _) (B9 _))]| false =>
   simp!;dsimp!;apply Qd p.at_ q E N L r J () λQ v G2 m f2 A C hv I BJ=>?_;simp!;apply MZ C () λy G3 f3 wL g3=>?_;have A3:=(p.trans m).grow g3;have NC:=g3.kp _ _ (m.kp _ _ q E);have n3:y≠st:=m.at_.ne f3;simp!;dsimp!;apply Qd A3.at_ q NC N L r J () λq4 u G4 a4 f4 n4 Z H k hlu=>?_;have Dq:=a4.kp _ _ n3 wL;have A4:=A3.trans a4;simp!;apply#[∅,∅,λU x=>?_];have A5:=A4.new (o:=.lst [.tup [.str "show"]]) x;apply yY (xs:=u.map mD) (ys:=[.tup [.str "show"]]) (by rw[ay (aP Z x)];exact Z) aC (by rw[B0];show u.length+1<=_;omega) λp6 IC=>?_;have O:=A5.new (o:=.lst (u.map mD++[.tup [.str "show"]])) IC;have B:aG (aG G4 U (.lst [.tup [.str "show"]])) p6 (.lst (u.map mD++[.tup [.str "show"]])) y=some (.lst ((fM v).map mD)):=by
    have i:aG G4 U (.lst [.tup [.str "show"]]) y=some (.lst ((fM v).map mD)):=by rw[ay (aP Dq x)];exact Dq
    rw[ay (aP i IC)];exact i
   simp!;apply yY aC B (by rw[B4,B0,B0,CN];show u.length+1+_<=_;omega) λp7 M=>?_;have X:=O.at_.ne M;apply post p7 (u.map some++[none]++(fM v).map some) _ (O.new M) (O.none M X) X ?_ ?_ (by simp[CN];omega)
   .rw[aC,B7,B7,EY,EY];rfl
   .unfold jW;rw[if_neg C8];exact#[u,v,rfl,H,hv,k.trans I.symm,by rw[k];exact B1]
def x27{n:Nat}(j:n<*T.cW.1<*qB)(y:n<*T.kz.1<*oq):n+1<*T.nG.1<*vg:=by
 apply dk T.nG.1 lj (λ_ _ _ _ _ _ f =>
   (ar (aM 3 lj.nd (aK cf aA (ek j f #v[!0,aA])))
   (ar (aJ (bE (aR f) (ek j f #v[!0,aA]) aA (ah _)) (az (aM 3 lj.nd (aK cf aA (ek j f #v[!0,aA])))) cj)
   (az (aV (bh #v[(aK cf aA (ek j f #v[!0,(dJ wp7 rfl T.qY ∅ #v[!2,(ek y f #v[!3,!1])])])),!3])))))) (λds G R h=>?_)
 .let#[st,b,most,rfl,S,Wl,mK,post]:=h;simp!;apply dZ S ∅ ∅ λo G1 t Z X=>?_;obtain⟨l,C⟩:∃l:Nat,1+o=(l:Int):=#[(1+o).toNat,()];simp![C];dsimp!;apply dZ t.at_ ∅ ∅ λQ O r Y U=>?_;have u:=t.trans r;simp!;generalize E:Go (jT _ _)=N;have rest:∀(s:Nat) (i:Gp),cC st G i->1<=s->s<=8->N [some (.ref st),some (.bl b),some (.int (most:Int)),some (.int (s:Int))] i:=by
   intro s i A3 p H;rw[<- E];dsimp!;apply Qc () λG4 q=>?_;have hc:=wn8 (b:=b) p;have em:(if(fL s b:Int)<(most:Int) then(fL s b:Int) else(most:Int))=((min most (fL s b):Nat):Int):=by split <;> omega
   simp![em];apply dZ (A3.at_.grow q) () () λg M J B A=>?_;obtain⟨m,x⟩:∃m:Nat,1+g=(m:Int):=#[(1+g).toNat,()];simp![x];apply#[∅,post m s M ((A3.grow q).trans J) () () p H ()]
  apply fH (λh=>?_) (λh=>?_)
  .simp!;apply dZ r.at_ ∅ ∅ λg i L B A=>?_;obtain⟨k,I⟩:∃k:Nat,5+g=(k:Int):=#[(5+g).toNat,()];simp![I];exact rest k i (u.trans L) () ()
  .exact rest l O u () ()
def x32{n:Nat}(aI:n<*T.cW.1<*qB):n+1<*T.nL.1<*vm:=by
 apply dk T.nL.1 cD (λ_ _ _ _ _ _ N =>
   (ar (aM 2 cD.nd aS)
   (ar (aM 3 cD.nd (aK cf aA (ek aI N #v[!0,aA])))
   (ar (aM 4 cD.nd (ek aI N #v[!0,!3]))
   (ar (aM 5 cD.nd (ek aI N #v[!0,aA]))
   (ar (EE 6 cD.nd (N':=["_law_j", "_law_letters", "_law_first", "_law_state"]) (ix:=[none,some 2,some 5,some 0]) (jI rfl rfl rfl) (sR rfl T.bw #v[!3]) (λ_ _ _ _=>(cI 0 (show(["_law_j", "_law_letters", "_law_first", "_law_state"]:List Str).Nodup by decide))) (λ_ _ _ _=>mn) (λ_ _ _ _=>(bL bJ (!1) (aK tI (aK cf (!2) (aK mj (aK mj aA (!0)) (ek aI N #v[!3,aA]))) aA))))
   (ar (aM 7 cD.nd (dD oK))
   (ar (j0 (sR rfl T.bw #v[!1]) (cI 8 cD.nd) (ar (aM 9 cD.nd (bL bJ (!2) (aK tI (aK cf (!5) (aK mj aA (!8))) aA)))
   (ar (aM 10 cD.nd (xa3 aS #v[(aK cf (aK cf (BZ Ao (!6) w12 (EB (!4))) (dD #v[!9])) (BZ Ao (!6) (EB (aK cf (!4) aA)) w12))]))
   (ar (aJ (bE (tD N) (!10) (bh #v[aS,aS,aS,aS,aS,aS]) (by with_unfolding_all rfl)) (az (aM 10 cD.nd (aK cf (!10) aS))) (az (aJ (bE (aR N) (aK tI (aK cf (!3) (!8)) aA) aA (ah _)) (az (aM 10 cD.nd (aK cf (!10) aS))) cj)))
   (az (dI (o_ (!7) #v[!10])))))))
   (az (aV (!7))))))))))) (λds G R h=>?_)
 .let#[st,m,rfl,S,m1,m4,post]:=h;have wH:(F6 "abcdefghijklmnopqrstuvwxyz").length<=sizeLine:=∅;simp!;dsimp!;apply dZ S ∅ ∅ λx G1 a1 b1 b2=>?_;obtain⟨B,hsz⟩:∃B:Nat,1+x=(B:Int):=#[(1+x).toNat,()];simp![hsz];dsimp!;apply dZ a1.at_ () () λf G2 a2 s1 s2=>?_;let#[f,rfl]:=mm s1;have A2:=a1.trans a2;simp!;dsimp!;apply dZ A2.at_ ∅ ∅ λE G3 a3 f1 f2=>?_;have A3:=A2.trans a3;simp!;dsimp!;apply#[#[(),()],λp hp=>?_];have Vp:=A3.at_.ne hp;have fp:G p=none:=A3.none hp Vp;generalize hN1:Go (gR _ _ _)=N1;apply j6 (λr I O=>sI λ(j c:Nat) (g:List Str) (v:Option D)=>DT (j+c=B) (r=bO (j:Int) c) (cC st G O) (O p=some (.lst (g.map .str))) (g.length=j) (∀w∈g,w.length=1) (I=[v,some (.str (F6 "abcdefghijklmnopqrstuvwxyz")),some (.int E),some (.ref st)])) #[0,B,[],none,(),rfl,A3.new hp,aC,rfl,(λ_ h=>nomatch h),rfl] ?_ ?_
  .rintro I G4 ⟨j,c,g,v,e,A,Q,k4,hl,hw,rfl⟩;have NT:c=0:=by
    cases c with
    | zero=>rfl| succ n=>rw[i9] at A;cases A
   have hl:g.length=B:=()
   apply#[trivial,?_];rw[<- hN1];dsimp!;apply#[∅,λq hq=>?_];have nq:=Q.at_.ne hq;have fq:G q=none:=Q.none hq nq;have Vq:p≠q:=aP k4 hq;have A5:=Q.new (o:=.lst []) hq;have k5:aG G4 q (.lst []) p=some (.lst (g.map .str)):=by rw[ay Vq];exact k4
   dsimp!;apply#[#[(),()],?_];generalize hN2:Go (jT _ _)=N2;apply j5 (λr I O=>Xq λ(i c:Nat) (C:List Str) (v8 v9 J:Option D)=>OR (i+c=m) (r=bO (i:Int) c) (cC st G O) (O p=some (.lst (g.map .str))) (O q=some (.lst (C.map .str))) (C.length=i) (∀b∈C,b.length<=20) (∀(t:Nat) (b:Str),C[t]?=some b->b.cps[f]?=some (97+((E+5*(t:Int))%26).toNat)) (I=[some (.ref st),some (.int (m:Int)),some (.str (F6 "abcdefghijklmnopqrstuvwxyz")),some (.int (B:Int)),some (.int (f:Int)),some (.int E),some (.ref p),some (.ref q),v8,v9,J])) #[0,m,[],none,none,none,(),rfl,A5,k5,aC,rfl,(λ_ h=>nomatch h),(λt b h=>by simp at h),rfl] ?_ ?_
   .rintro I G8 ⟨i,c,C,v8,v9,J,e,A,A8,k8,VB,mO,hb,yo,rfl⟩;have NT:c=0:=by
     cases c with
     | zero=>rfl| succ n=>rw[i9] at A;cases A
    apply#[trivial,?_];rw[<- hN2];dsimp!;exact post q C G8 fq nq VB () hb (vq0 () yo) A8
   .rintro z r I G8 ⟨i,c,C,v8,v9,J,e,A,A8,k8,VB,mO,hb,yo,rfl⟩ M;cases c with
    | zero=>cases A
    | succ c =>
     rw[i9] at A;cases A;apply#[trivial,?_];simp!;have qd:=w31 (x:=(E+5*(i:Int))%26) (V5 _ ∅) (R5 _ ∅);generalize WE:97+((E+5*(i:Int))%26).toNat=H at qd;apply#[yV ∅ ∅,∅,wH,?_];rw[qd];simp!;dsimp![k8,bt];intro p1 bP;apply#[∅,λp2 cV=>?_];have c1:cutD (g.map D.str) none (some (f:Int))=(g.take f).map D.str:=by rw[L3.uz,C66]
     have c2:cutD (g.map D.str) (some ((f:Int)+1)) none=(g.drop (f+1)).map D.str:=by rw[show((f:Int)+1)=((f+1:Nat):Int) by omega,vj3,C65]
     rw[c1] at cV⊢;have g1:=(ax.refl (G:=G8) |>.new (o:=.lst ((g.take f).map D.str)) bP).new (o:=.lst [.str #[[H].toArray]]) cV;have By:f<g.length:=()
     apply add_l (by rw[ay (aP aC cV),aC]) aC (by rw[B0,Q0];exact D3 (m:=1000) (by show _+1<=_;omega) ∅) λp3 i5=>?_;have g2:=g1.new (o:=.lst ((g.take f).map D.str++[.str #[[H].toArray]])) i5;have k9:=g2.kp _ _ k8;simp![k9,bt];intro p4 NI;rw[c2];have g3:=g2.new (o:=.lst ((g.drop (f+1)).map D.str)) NI;apply add_l (by rw[ay (aP aC NI),aC]) aC (by rw[B4,B0,B0,Q0,X4];exact D3 (m:=1000) (by show _+1+_<=_;omega) ∅) λp5 tq=>?_;obtain⟨k,yb⟩:∃k,k=g.take f++[⟨[H].toArray⟩]++g.drop (f+1):=#[_,rfl];have hmp:(g.take f).map D.str++[.str #[[H].toArray]]++(g.drop (f+1)).map D.str=k.map D.str:=by rw[yb,B7,B7];rfl
     rw[hmp];have g4:=g3.new (o:=.lst (k.map D.str)) tq;have BK:k.length=B:=by rw[yb,B4,B4,Q0,X4,O9];omega
     have s_:∀w∈k,w.length=1:=by
      intro w Bv;rw[yb] at Bv;rcases E9.mp Bv with h|h
      .rcases E9.mp h with h|h
       .exact hw w (List.mem_of_mem_take h)
       .rw[F4.mp h];rfl
      .exact hw w (List.mem_of_mem_drop h)
     have Bx:(k.map DU).sum=B:=by
      have:∀l:List Str,(∀w∈l,w.length=1)->(l.map DU).sum=l.length:=by
       intro l;induction l with
       | nil=>intro _;rfl| cons w l M=>intro h;rw[C0,M7,h w (C6 ..),M λv hv=>h v (C2 _ hv),C1];omega
      rw[this k s_,BK]
     have Y:(jn T6 k).length=B:=by rw[x83,Bx]
     have IQ:Pn ((k.toArray).foldl (·+·.length+T6.length) 0)=false:=by
      have:∀(l:List Str) (n:Nat),(∀w∈l,w.length=1)->l.foldl (·+·.length+T6.length) n=n+l.length:=by
       intro l;induction l with
       | nil=>intro n _;rfl| cons w l M=>intro n h;rw[Y6,M _ λv hv=>h v (C2 _ hv),h w (C6 ..),C1];show n+1+0+l.length=_;omega
      rw[List.foldl_toArray,this k 0 s_,BK];unfold Pn;exact decide_eq_false (Nat.not_lt.mpr (P4 (C9 (m:=1000) () ∅)))
     apply#[T6,p5,k,rfl,rfl,by rw[aC];rfl,IQ,by rw[Y];exact P4 (C9 (m:=1000) () ∅),?_];generalize hGx:aG _ p5 (.lst (k.map D.str))=G9 at *;have A9:=A8.grow g4;have k9:=g4.kp _ _ k8;have U:=g4.kp _ _ VB;obtain⟨u,IG⟩:∃u,u=jn T6 k:=#[_,rfl];have WL:∀a b:Str,(a++b).length=a.length+b.length:=λa b=>by show(a.cps++b.cps).size=_;rw[YH];rfl
     have NL:u.length<=10:=by rw[IG,Y];omega
     have Z:u.cps[f]?=some H:=by rw[IG];apply xj0 s_ ?_;rw[yb,D1,E6 (by rw[Q0];omega),Q0,show f-min f g.length=0 by omega];rfl
     rw[<- IG];dsimp!;generalize hN4:Go (Az (DC "list" EJ (dP 7) _) _)=N4;have r4:∀u:Str,u.length<=20->u.cps[f]?=some H->N4 [some (.ref st),some (.int (m:Int)),some (.str (F6 "abcdefghijklmnopqrstuvwxyz")),some (.int (B:Int)),some (.int (f:Int)),some (.int E),some (.ref p),some (.ref q),some (.int (i:Int)),some (.str #[[H].toArray]),some (.str u)] G9:=by
      intro u IG hcp;rw[<- hN4];dsimp![U];apply#[by rw[B0];exact C9 (m:=4000) () ∅,M _ _ #[i+1,c,C++[u],_,_,_,(),by congr 1,A9.own fq U nq,by rw[ay Vq];exact k9,by rw[aC,B7];rfl,by simp[mO],?_,?_,rfl]];rotate_left
      .intro t b L;rcases LH t C.length with z|z
       .rw[F9 z] at L;exact yo t b L
       .rw[E6 z] at L;have z2:t=C.length:=by have:=(K7.mp L).1;simp at this;omega
        subst z2;have e3:u=b:=by simpa using L
        rw[<- e3,hcp,<- WE,mO]
      intro b L;rcases E9.mp L with h|h
      .exact hb b h
      .rw[F4.mp h];exact IG
     have longer:N4 [some (.ref st),some (.int (m:Int)),some (.str (F6 "abcdefghijklmnopqrstuvwxyz")),some (.int (B:Int)),some (.int (f:Int)),some (.int E),some (.ref p),some (.ref q),some (.int (i:Int)),some (.str ⟨[H].toArray⟩),some (.str (u++F6 "x"))] G9:=r4 _ (by rw[WL];have:(F6 "x").length=1:=rfl;omega) (xb8 Z);have X:u.length+(F6 "x").length<=sizeLine:=P4 (C9 (m:=1000) (by have:(F6 "x").length=1:=rfl;omega) ∅);apply⟨∅,?_⟩;apply fH (λ_=>?_) (λ_=>?_)
     .exact⟨X,longer⟩
     .simp!;apply⟨∅,?_⟩;apply fH (λ_=>?_) (λ_=>r4 u () Z);simp!;exact⟨X,longer⟩
  .rintro z r I G4 ⟨j,c,g,v,e,A,Q,k4,hl,hw,rfl⟩ M;cases c with
   | zero=>cases A
   | succ c =>
    rw[i9] at A;cases A;apply#[trivial,?_];simp!;apply#[yV ∅ ∅,?_];apply dZ Q.at_ ∅ ∅ λy G5 a5 y1 y2=>?_;have k5:=a5.kp _ _ Vp k4;have qd:=w31 (x:=(E+7*(j:Int)*y)%26) (V5 _ ∅) (R5 _ ∅);simp!;apply#[xb5 y1 (),∅,wH,?_];rw[qd];simp![k5];apply#[by rw[B0];exact C9 (m:=4000) () ∅,M _ _ #[j+1,c,g++[#[[_].toArray]],_,(),by congr 1,(Q.trans a5).own fp k5 Vp,by rw[aC,B7];rfl,by simp[hl],?_,rfl]];intro w Bv;rcases E9.mp Bv with h|h
    .exact hw w h
    .rw[F4.mp h];rfl
def x40{n:Nat}(l:n<*T.cW.1<*qB):n+1<*T.nR.1<*vq:=by
 apply dk T.nR.1 pI (λ_ _ _ _ _ _ g =>
   (ar (aJ (bE (oY) (ek l g #v[!0,aA]) aA (ah _)) (az (aV (bL bJ (!1) (ek l g #v[!0,(dJ gn rfl T.bq ∅ #v[!1])])))) cj)
   (ar (aM 3 pI.nd (ek l g #v[!0,aA]))
   (ar (aJ (bE (aR g) (!3) aA (ah _)) (az (aV (aK gp (aK v30 aA (!2)) aA))) cj)
   (az (aV (ek l g #v[!0,(bL bJ (dD #v[aA,(aK v30 aA (!2))]) (aK gp (!3) aA))]))))))) (λds G R h=>?_)
 .let#[st,W,H,rfl,S,um,N,h1,h2,post]:=h;have x:=pw W;have E:jZ 1 (W:Int):=#[(),(),∅];have L:=p16 N;have O:=R0 W;have k:∀(i:Nat) (q:Gp),i<2^W->cC st G q->R (.int (i:Int)) q:=λi q hi a=>post (.num i) q hi a;have X:2<=2^W:=by obtain⟨V,rfl⟩:∃V,W=V+1:=#[W-1,()];rw[Q2];have:=R0 V;omega
  obtain⟨P,u⟩:∃P,P=2^W:=#[_,rfl];rw[<- u] at x L O k X;simp!;apply dZ S ∅ ∅ λZ G1 j b1 b2=>?_;simp!;apply fH (λJ=>?_) (λJ=>?_)
  .simp![B0];apply dZ j.at_ () () λf I m c1 c2=>?_;let#[f,rfl]:=mm c1;obtain⟨b,C⟩:∃b,H[f]?=some b:=#[_,B6 ()];have M:dg (H.map D.str) (f:Int)=some (.str b):=xq (by rw[F8,C];rfl);simp![M];exact post (.box b) I (K9 C) (j.trans m)
  .dsimp!;apply dZ j.at_ ∅ ∅ λf I m c1 c2=>?_;simp!;dsimp![x];apply fH (λB=>?_) (λB=>?_)
   .apply#[E,?_];rw[show((P:Nat):Int)-1=((P-1:Nat):Int) by omega];exact k _ _ () (j.trans m)
   .dsimp![x];apply#[E,∅,λp U=>?_];have r:=(j.trans m).new (o:=.lst [D.int 2,D.int (P:Int)]) U;obtain rfl|rfl:f=1\/f=2:=by
     have:¬ f=0:=by simpa using B
     omega
    .simp!;apply dZ r.at_ ∅ ∅ λt Y A y Q=>?_;let#[t,rfl]:=mm y;exact k _ _ () (r.trans A)
    .simp!;apply dZ r.at_ () () λt Y A y Q=>?_;let#[t,rfl]:=mm y;exact k _ _ () (r.trans A)
def w09{n dp:Nat}(aI:n<*T.cW.1<*qB)(rP:n<*T.nR.1<*vq)(rN:n<*T.gM.1<*fE dp):n+1<*T.ky.1<*i6 dp:=by
 apply dk T.ky.1 ik (λ_ _ _ _ _ _ l =>
   (ar (aM 4 ik.nd (ek aI l #v[!0,aA]))
   (ar (aJ (qF (w_and (bE (aR l) (!4) aA (ah _)) (xn (bE (oY) (!3) aA (ah _))))) (ar (EE 5 ik.nd (N':=["_law_way_here", "_law_state", "_law_names_here", "_law_wide", "_law_deep"]) (ix:=[none,some 0,some 1,some 2,some 3]) (jI rfl rfl rfl) (sR rfl T.bw #v[aA]) (λ_ _ _ _=>(cI 0 (show(["_law_way_here", "_law_state", "_law_names_here", "_law_wide", "_law_deep"]:List Str).Nodup by decide))) (λ_ _ _ _=>mn) (λ_ _ _ _=>(ek rN l #v[!1,!2,!3,(aK gp (!4) aA),aA])))
   (az (aV (bh #v[aS,(ek rP l #v[!0,!1,!2]),¬5,¬5])))) cj)
   (ar (aJ (qF (w_and (bE (aR l) (!4) aA (ah _)) (xn (bE (oY) (!3) aA (ah _))))) (az (aV (bh #v[aS,(ek aI l #v[!0,aA]),(ek rN l #v[!0,!1,!2,(aK gp (!3) aA),aA])]))) cj)
   (ar (aM 6 ik.nd (bL bJ (!1) (ek aI l #v[!0,(dJ gn rfl T.bq ∅ #v[!1])])))
   (ar (aJ (bE (aR l) (!4) aA (ah _)) (az (aV (bh #v[aS,!6,(ek rP l #v[!0,!1,!2])]))) cj)
   (ar (aM 7 ik.nd (bL bJ aS (ek aI l #v[!0,aA])))
   (az (aV (bh #v[aS,!6,!7,(ek rP l #v[!0,!1,!2]),(ek rP l #v[!0,!1,!2])])))))))))) (λds G R h=>?_)
 .let#[st,W,f,u,rfl,S,H,I,L,J,hd,hd3,post]:=h;have h60:1<=6^f:=C95 (show 0<6 by decide);simp!;apply dZ S ∅ ∅ λx1 G1 E b1 b2=>?_;simp!;dsimp!;generalize hN:Go (gR (ux _ _ _) _ _)=N;have fin:N [some (.ref st),some (.tup (u.map .str)),some (.int (W:Int)),some (.int (f:Int)),some (.int x1),none,none,none] G1:=by
   subst hN;dsimp!;generalize hM:Go (gR (jq _ _) _ _)=M;have fin2:M [some (.ref st),some (.tup (u.map .str)),some (.int (W:Int)),some (.int (f:Int)),some (.int x1),none,none,none] G1:=by
    subst hM;dsimp![B0];apply dZ E.at_ () () λx2 G2 a2 c1 c2=>?_;let#[x2,rfl]:=mm c1;obtain⟨b,hb⟩:∃b,u[x2]?=some b:=#[_,B6 ()];have eb:dg (u.map D.str) (x2:Int)=some (.str b):=xq (by rw[F8,hb];rfl);have WI:=K9 hb;simp![eb];dsimp!;have t:=E.trans a2;apply fH (λq=>?_) (λq=>?_)
    .simp!;apply bS #[st,W,u,rfl,t.at_,H,I,L,J,λa Q Z A=>?_];simp!;exact#[∅,post (.is b a) Q #[WI,Z] trivial (J8 _) h60 (t.trans A)]
    .dsimp!;apply dZ t.at_ ∅ ∅ λx3 G4 a4 d1 d2=>?_;let#[x,rfl]:=mm d1;obtain⟨o,eo,ho⟩:∃o:Nat,dg (F6 "+-&|^<=").cps.toList (x:Int)=some o/\(⟨[o].toArray⟩:Str)∈L3.signs:=by
      have:x=0\/x=1\/x=2\/x=3\/x=4\/x=5\/x=6:=()
      rcases this with e|e|e|e|e|e|e <;> subst e
      .exact⟨43,∅,∅⟩
      .exact⟨45,∅,∅⟩
      .exact⟨38,∅,∅⟩
      .exact⟨124,∅,∅⟩
      .exact⟨94,∅,∅⟩
      .exact⟨60,∅,∅⟩
      .exact⟨61,∅,∅⟩
     have hx:∀(G:Gp) (q:DK),Ar (.str (F6 "+-&|^<=")) (.int (x:Int)) G q=(((F6 "+-&|^<=").length<=sizeLine)/\q (.str ⟨[o].toArray⟩) G):=λG q=>by show(_/\(match dg (F6 "+-&|^<=").cps.toList (x:Int) with|some c=>q (.str #[[c].toArray]) G|none=>False))=_;rw[eo]
     simp![hx];apply#[∅,?_];dsimp!;have A4:=t.trans a4;apply bS #[st,W,u,rfl,A4.at_,H,I,L,J,λa G5 Z a5=>?_];simp!;apply bS #[st,W,u,rfl,(A4.trans a5).at_,H,I,L,J,λc G6 hc a6=>?_];simp!;exact#[∅,post (.op b _ a c) G6 #[WI,ho,Z,hc] trivial (J8 _) h60 ((A4.trans a5).trans a6)]
   apply fH (λq1=>?_) (λq1=>fin2);simp!;apply fH (λq2=>?_) (λq2=>fin2);simp!;obtain⟨j,rfl⟩:∃j:Nat,f=j+1:=#[f-1,()];apply dZ E.at_ ∅ ∅ λx2 G2 a2 c1 c2=>?_;let#[k,rfl]:=mm c1;have t:=E.trans a2;simp!;rw[show(((j+1:Nat):Int)-1)=(j:Int) by omega];apply bS #[st,W,j,2,u,rfl,t.at_,H,I,L,J,(),(),∅,λg Q Y X y3 U _ A=>?_];simp!;have y5:de g<=10000000:=D3 U (D3 (B60 2 (Z3 ∅ (show j<=3 by omega))) ∅);apply#[∅,post (.j8 k g) Q #[(),Y] #[y5,X,()] ?_ ?_ (t.trans A)]
   .show 1+bc g<=j+1+1;omega
   .show k*de g<=6^(j+1);rw[Q2,OI (6^j)];exact D3 (Z5 (show k<=3 by omega) U) (by rw[<- Nat.mul_assoc];exact B9 _)
  apply fH (λq1=>?_) (λq1=>fin);simp!;apply fH (λq2=>?_) (λq2=>fin);simp!;obtain⟨j,rfl⟩:∃j:Nat,f=j+1:=#[f-1,()];apply#[#[∅,∅],λp hp=>?_];have np:=E.at_.ne hp;have wD:=E.none hp np;have A1:=E.new (o:=.lst []) hp;apply j6 (λr σ G'=>sI λ(i c:Nat) (B:List (List av)) (v:Option D)=>DT (i+c=2) (r=bO (i:Int) c) (cC st G G') (G' p=some (.lst (B.map λg=>.tup (bY g)))) (B.length=i) (∀g∈B,d5 W u g/\jJ g/\bc g<=j+1/\de g<=2*6^j) (σ=[v,some (.ref st),some (.tup (u.map .str)),some (.int (W:Int)),some (.int ((j+1:Nat):Int))])) #[0,2,[],none,rfl,rfl,A1,aC,rfl,(λ_ h=>nomatch h),rfl] ?_ ?_
  .rintro σ G2 ⟨i,c,B,v,e,O,t,k2,l2,o2,rfl⟩;apply#[trivial,?_];have hc:c=0:=by
    cases c with
    | zero=>rfl| succ c=>rw[i9] at O;cases O
   subst hc;obtain⟨g,C,rfl⟩:∃g C,B=[g,C]:=by
    match B,l2 with
    | [],h=>simp at h;omega| [_],h=>simp at h;omega| [g,C],_=>exact#[g,C,rfl]| _::_::_::_,h=>simp at h;omega
   let#[Y,X,y3,U]:=o2 g C6;let#[n1,n2,n3,n4]:=o2 C (C2 _ C6);dsimp!;apply bS #[st,W,u,rfl,t.at_,H,I,L,J,λa Q Z A=>?_];have k3:=A.kp _ _ np k2;simp![k3,bt];apply#[∅,post (.fz a g C) Q #[Z,Y,n1] #[X,n2] ?_ ?_ (t.trans A)]
   .show 1+max (bc g) (bc C)<=j+1+1;omega
   .show 1+de g+de C<=6^(j+1);rw[Q2];have:=C95 (n:=j) (show 0<6 by decide);omega
  .rintro z r σ G2 ⟨i,c,B,v,e,O,t,k2,l2,o2,rfl⟩ ih;cases c with
   | zero=>cases O
   | succ c =>
    rw[i9] at O;cases O;apply#[trivial,?_];simp!;rw[show(((j+1:Nat):Int)-1)=(j:Int) by omega];apply bS #[st,W,j,2,u,rfl,t.at_,H,I,L,J,(),(),∅,λg Q Y X y3 U _ A=>?_];have k3:=A.kp _ _ np k2;simp![k3];apply#[C9 (m:=1000) (by rw[B0];omega) ∅,ih _ _ #[i+1,c,B++[g],_,(),by congr 1,(t.trans A).own wD k3 np,by rw[aC,B7];rfl,by rw[B4,l2];rfl,λy hy=>?_,rfl]];rcases E9.mp hy with hy|hy
    .exact o2 y hy
    .rw[F4.mp hy];exact⟨Y,X,y3,U⟩
def x28{n dp:Nat}(aI:n<*T.cW.1<*qB)(J:n<*T.ky.1<*i6 dp):n+1<*T.gM.1<*fE (dp+1):=by
 apply dk T.gM.1 vy0 (λ_ _ _ _ _ _ B =>
   (az (aV (oN Nd rfl T.fA ∅ #v[(o7 (N':=["_law_k", "_law_state", "_law_names_here", "_law_wide", "_law_deep"]) (ix:=[none,some 0,some 1,some 2,some 3]) (jI rfl rfl rfl) (sR rfl T.bw #v[(ek aI B #v[!0,(aK cf (!4) aA)])]) (λ_ _ _ _=>(cI 0 (show(["_law_k", "_law_state", "_law_names_here", "_law_wide", "_law_deep"]:List Str).Nodup by decide))) (λ_ _ _ _=>mn) (λ_ _ _ _=>(ek J B #v[!1,!2,!3,!4])))])))) (λds G R h=>?_)
 .let#[st,W,f,most,x,rfl,S,L,X,Z,Y,hd,u,Q,post]:=h;simp!;apply dZ S () () λx1 G1 y b1 b2=>?_;let#[m,rfl]:=mm b1;simp!;apply#[#[(),()],λp t=>?_];have o:=y.at_.ne t;have I:=y.none t o;apply j6 (λr l H=>sI λ(i c:Nat) (g:List av) (v:Option D)=>LD (i+c=m) (r=bO (i:Int) c) (cC st G H) (H p=some (.lst (bY g))) (d5 W x g) (jJ g) (bc g<=f+1) (de g<=i*6^f) (g.length=i) (l=[v,some (.ref st),some (.tup (x.map .str)),some (.int (W:Int)),some (.int (f:Int))])) #[0,m,[],none,(),rfl,y.new t,aC,trivial,trivial,J8 _,J8 _,rfl,rfl] ?_ ?_
  .rintro l E ⟨i,c,g,v,e,k,A3,q,o1,o2,o3,o4,o5,rfl⟩;apply#[trivial,?_];simp![q,bt];exact post g E o1 o2 o3 (D3 o4 (R9 _ ())) () A3
  .rintro z r l E ⟨i,c,g,v,e,k,A3,q,o1,o2,o3,o4,o5,rfl⟩ O;cases c with
   | zero=>cases k
   | succ c =>
    rw[i9] at k;cases k;apply#[trivial,?_];simp!;apply bS #[st,W,f,x,rfl,A3.at_,L,X,Z,Y,(),u,λj G3 N M p3 p4 C=>?_];have A:=C.kp _ _ o q;simp![A];have er:bY g++[gD j]=bY (g++[j]):=by rw[xB,xB,B7];rfl
    rw[er];have U:(bY g).length=g.length:=xA _;apply#[C9 (m:=1000) () ∅,O _ _ #[i+1,c,g++[j],_,(),by congr 1,(A3.trans C).own I A o,aC,d4.mpr #[o1,N,trivial],qV.mpr #[o2,M,trivial],?_,?_,by rw[B4,o5];rfl,rfl]]
    .rw[CU];show max (bc g) (max (jS j) 0)<=f+1;omega
    .rw[Tz,Z7];show de g+(qy j+0)<=_;omega
def x29{n:Nat}(t:n<*T.cW.1<*qB)(Lj:n<*T.nL.1<*vm)(N:n<*T.ky.1<*xk3)(Q:n<*T.gM.1<*Zp):n+1<*T.nH.1<*vh:=by
 apply dk T.nH.1 ll (λ_ _ _ _ _ _ f =>
   (ar (aM 1 ll.nd (bL bJ (dD #v[(aK cf aA (ek t f #v[!0,aA])),(aK cf aA (ek t f #v[!0,aA]))]) (aK wq0 (ek t f #v[!0,aA]) aA)))
   (ar (aM 2 ll.nd (oN Nd rfl T.fA ∅ #v[(ek Lj f #v[!0,(aK cf aA (ek t f #v[!0,aA]))])]))
   (az (aV (bh #v[!1,!2,(aK wq1 (bh #v[(ek N f #v[!0,!2,!1,aA])]) (ek Q f #v[!0,!2,!1,aA,aA]))])))))) (λds G R h=>?_)
 .let#[st,rfl,S,post]:=h;simp!;apply dZ S ∅ ∅ λi G1 E b1 b2=>?_;simp!;apply dZ E.at_ ∅ ∅ λg G2 a2 b3 b4=>?_;simp!;apply#[∅,λp B=>?_];have M:=E.trans a2;have Z:=M.at_.ne B;have A3:=M.new (o:=.lst [D.int (1+i),D.int (1+g)]) B;apply dZ A3.at_ ∅ ∅ λu G3 C b5 b6=>?_;have k3:=C.kp _ _ Z aC;have L:=A3.trans C;let#[i,rfl]:=mm b1;let#[g,rfl]:=mm b3;simp!;apply#[by unfold LW;omega,?_];obtain⟨W,O,y,A⟩:∃k:Nat,dg [D.int (1+(i:Int)),D.int (1+(g:Int))] (u / 3)=some (.int (k:Int))/\1<=k/\k<=16:=by
   have:u / 3=0\/u / 3=1:=()
   rcases this with e|e <;> rw[e]
   .exact⟨1+i,by show some (D.int (1+(i:Int)))=_;rw[Yv];rfl,(),()⟩
   .exact⟨1+g,by show some (D.int (1+(g:Int)))=_;rw[Yv];rfl,(),()⟩
  simp![k3,bt,O];dsimp!;apply dZ L.at_ ∅ ∅ λl G5 a5 c1 c2=>?_;let#[l,rfl]:=mm c1;simp!;rw[show((1:Int)+(l:Int))=((l+1:Nat):Int) by omega];have J:=L.trans a5;apply bS #[st,l+1,rfl,J.at_,(),(),λq x G6 nq Y kq mO _ II a6=>?_];have I:=J.trans a6;simp![kq,bt];dsimp!;apply bS #[st,W,1,x,rfl,I.at_,y,A,(),(),∅,∅,λr G7 X U r3 r4 a7=>?_];have H:=I.trans a7;simp!;apply#[∅,?_];apply bS #[st,W,2,2,x,rfl,H.at_,y,A,(),(),∅,∅,∅,λj G8 o1 o2 o3 o4 o5 a8=>?_];have hl:(bY j).length=j.length:=xA _;show _/\_;apply#[D3 (m:=100) (by rw[hl];show 1+_<=_;omega) ∅,∅,?_];apply post W x (r::j) G8 y A () () II #[X,o1] #[U,o2] ?_ ?_ (H.trans a8)
  .show max (jS r) (bc j)<=4;omega
  .show qy r+de j<=78;omega
def x37{n:Nat}(aI:n<*T.cW.1<*qB):n+1<*T.nP.1<*vp:=by
 apply dk T.nP.1 jb (λ_ _ _ _ _ _ Y =>
   (ar (aM 3 jb.nd (aK mj (dD #v[aA]) (!2)))
   (ar (j0 (sR rfl T.bw #v[(aK gp (!1) (!2))]) (cI 4 jb.nd) (ar (aM 5 jb.nd (ek aI Y #v[!0,!2]))
   (az (tH (aK cf (bL bJ (!3) (!5)) aA) (yR (!3) (!5) yT)))))
   (az (aV (!3)))))) (λds G R h=>?_)
 .let#[st,m,n,rfl,S,h1,h2,h3,post]:=h;simp!;apply#[∅,λp0 O=>?_];simp![aC];apply#[#[(),(),by rw[Nat.one_mul];exact D3 (m:=1000) () ∅],λp H=>?_];rw[V9];have I:=((cC.refl S).new (o:=.lst [.int 1]) O);have q:p≠st:=I.at_.ne H;have J:=I.none H q;have A1:=I.new (o:=.lst (D6 n (.int 1))) H;dsimp!;rw[show((m:Int)-(n:Int))=((m-n:Nat):Int) by omega];apply#[#[(),()],?_];apply j5 (λr u N=>DG λ(i c:Nat) (f:List Nat) (A y:Option D)=>Ai8 (i+c=m-n) (r=bO (i:Int) c) (cC st G N) (N p=some (.lst ((nI f).map .int))) (f.length=n) (∀k∈f,1<=k) (f.sum=n+i) (u=[some (.ref st),some (.int (m:Int)),some (.int (n:Int)),some (.ref p),A,y])) #[0,m-n,D6 n 1,none,none,(),rfl,A1,?_,Y7,λk l=>by rw[List.eq_of_mem_replicate l];exact B9 _,by simp,rfl] ?_ ?_
  .rw[aC];unfold nI;simp
  .rintro u M ⟨i,c,f,A,y,e,g,t,C,j,o1,o2,rfl⟩;apply#[trivial,?_];have Z:c=0:=by
    cases c with
    | zero=>rfl| succ c=>rw[i9] at g;cases g
   subst Z;dsimp!;exact post p f M #[λz=>by rw[z] at j;simp at j;omega,o1,()] j q J C t
  .rintro z r u M ⟨i,c,f,A,y,e,g,t,C,j,o1,o2,rfl⟩ U;cases c with
   | zero=>cases g
   | succ c =>
    rw[i9] at g;cases g;apply#[trivial,?_];simp!;apply dZ t.at_ () () λx1 G3 L b1 b2=>?_;let#[x,rfl]:=mm b1;have B:=L.kp _ _ q C;have E:x<f.length:=()
    simp!;dsimp![B,bt];have X:dg ((nI f).map D.int) (x:Int)=some (.int ((f[x]:Nat):Int)):=xq (by unfold nI;rw[F8,F8,B6 E];rfl);have Q:iO ((nI f).map D.int).length (x:Int)=some x:=w20 (by unfold nI;rw[B0,B0];exact E);simp![X,B,Q];apply U _ _ #[i+1,c,f.set x (f[x]+1),_,_,(),by congr 1,(t.trans L).own J B q,?_,by rw[J9];exact j,λk l=>?_,?_,rfl]
    .rw[aC];unfold nI;rw[OH,OH];rfl
    .rcases Zg l with l|rfl
     .exact o1 k l
     .omega
    .rw[sum_set E];omega
def x34{n:Nat}(vM:n<*T.ku.1<*rB)(vL:n<*T.kj.1<*rq)(m:n<*T.cW.1<*qB)(Lh:n<*T.nJ.1<*vj)(Lf:n<*T.nG.1<*vg)(Lg:n<*T.nH.1<*vh)(Lm:n<*T.nP.1<*vp):n+1<*T.nN.1<*vn:=by
 apply dk T.nN.1 c_ (λ_ _ _ _ _ _ f =>
   (ar (aM 2 c_.nd (ek Lg f #v[!0]))
   (ar (aM 3 c_.nd (sP (aR f) (ek m f #v[!0,aA]) aA (ah _)))
   (ar (aM 4 c_.nd (dJ gn rfl T.bq ∅ #v[(ek vM f #v[!2])]))
   (ar (tH (ek Lf f #v[!0,!3,aA]) (AA (n:=2) rfl (mq (cI 5 c_.nd) (mq (cI 6 c_.nd) AF))))
   (ar (aM 7 c_.nd (ek Lh f #v[!0,!5,!6,!3]))
   (ar (aJ (v88 (oX) (oX) (!5) (!4) aA) (ar (aM 8 c_.nd (ek Lm f #v[!0,!4,!5]))
   (az (aJ (bE (oX) (ek vL f #v[!2,!8,!6,!7]) (!1) (ah _)) (az (aV (bh #v[!2,!8,!6,!7]))) cj))) cj)
   (ar (aM 9 c_.nd (bL bJ (¬2) (sF Ew aA)))
   (ar (aM 10 c_.nd (bh #v[aS,!9,(bL bJ aS (ek m f #v[!0,aA])),!9,(bL bJ (dD #v[!9,aA]) (ek m f #v[!0,aA]))]))
   (az (aV (bh #v[(bh #v[(aK cf aA (ek m f #v[!0,aA])),(bh #v[!9]),(bh #v[!10])]),(dD #v[aA]),!6,(dD #v[(bh #v[aS,aA]),(bh #v[aS]),(bh #v[aS,aA])])])))))))))))) (λds G R h=>?_)
 .let#[st,most,rfl,S,post]:=h;simp!;apply bS #[st,rfl,S,λW i j G1 w1 w2 I m2 II ho NU sA L a1=>?_];simp!;dsimp!;apply dZ a1.at_ ∅ ∅ λl G2 a2 b1 b2=>?_;have A2:=a1.trans a2;simp!;dsimp!;apply bS #[_,_,j,rfl,(),(),NU,λq3 G3 n3 k3 g3=>?_];have A3:=A2.grow g3;simp![k3,bt];rw[xA];dsimp!;apply bS #[st,decide (l=0),4,rfl,A3.at_,∅,∅,λn s G4 a4 n1 n4 s1 A hc=>?_];have A4:=A3.trans a4;simp!;dsimp!;apply bS #[st,n,s,decide (l=0),rfl,A4.at_,n1,(),s1,A,hc,λB w G5 a5 npl oP Dl Vg hl=>?_];have x:=A4.trans a5;simp!;dsimp![Mm];generalize hN:Go (gR (jq (zy Ar _ _) _) _ _)=N;have fall:∀Z r,cC st G r->N [some (.ref st),some (.int (most:Int)),some (.tup [.int (W:Int),.tup (i.map .str),.tup (bY j)]),some (.bl (decide (l=0))),some (.int ((aW j).length:Int)),some (.int (n:Int)),some (.int (s:Int)),some (.ref B),Z,none,none] r:=by
   intro Z r t;subst hN;obtain⟨bl,WJ,WI⟩:∃bl,dg (i.map D.str) (-1)=some (.str bl)/\bl∈i:=by
    obtain⟨Q,br,rfl⟩:∃Q br,i=br++[Q]:=by
     rcases V0 i with e|⟨u,p,e⟩
     .rw[e] at I;cases I
     .exact⟨p,u,by rw[e,V1]⟩
    exact⟨Q,by rw[B7];exact TJ _ _,by simp⟩
   dsimp![WJ];dsimp!;apply dZ t.at_ ∅ ∅ λx3 G7 a7 d1 d2=>?_;have k:=t.trans a7;let#[g,rfl]:=mm d1;obtain⟨o,eo,jR⟩:∃o:Nat,dg (F6 "+-&|^<=").cps.toList (g:Int)=some o/\(⟨[o].toArray⟩:Str)∈L3.signs:=by
    have:g=0\/g=1\/g=2\/g=3\/g=4\/g=5\/g=6:=()
    rcases this with e|e|e|e|e|e|e <;> subst e
    .exact⟨43,∅,∅⟩
    .exact⟨45,∅,∅⟩
    .exact⟨38,∅,∅⟩
    .exact⟨124,∅,∅⟩
    .exact⟨94,∅,∅⟩
    .exact⟨60,∅,∅⟩
    .exact⟨61,∅,∅⟩
   have hx:∀(G:Gp) (q:DK),Ar (.str (F6 "+-&|^<=")) (.int (g:Int)) G q=(((F6 "+-&|^<=").length<=sizeLine)/\q (.str ⟨[o].toArray⟩) G):=λG q=>by show(_/\(match dg (F6 "+-&|^<=").cps.toList (g:Int) with|some c=>q (.str #[[c].toArray]) G|none=>False))=_;rw[eo]
   simp![hx];apply#[∅,∅,λp hp=>?_];have np:=k.at_.ne hp;have A8:=k.new (o:=.lst [.str bl,.int 1]) hp;apply dZ A8.at_ ∅ ∅ λy G9 a9 e1 e2=>?_;have k9:=a9.kp _ _ np aC;have A9:=A8.trans a9;obtain⟨a,jH,NV⟩:∃a:l0,dg [D.str bl,D.int 1] y=some (aD a)/\∀V,1<=V->jN V [bl] a:=by
    have:y=0\/y=1:=()
    rcases this with e|e <;> subst e
    .exact⟨.box bl,rfl,λV _=>C6⟩
    .apply⟨.num 1,rfl,λV hV=>?_⟩;show 1<2^V;exact Nat.one_lt_two_pow ()
   simp![k9,bt,jH];apply⟨∅,?_⟩;dsimp!;apply dZ A9.at_ ∅ ∅ λY Ag U f1 f2=>?_;have X:=A9.trans U;let#[Y,rfl]:=mm f1;simp!;apply#[∅,∅,∅,∅,λp1 bP=>?_];have Al:=X.new (o:=.lst [.int 1]) bP;have pV:=X.at_.ne bP;simp!;apply#[∅,∅,∅,∅,λp2 O=>?_];have Zf:=Al.new (o:=.lst [.tup [.str "lay",.int 1],.tup [.str "show"],.tup [.str "clear",.int 1]]) O;have C:=Al.at_.ne O;have H:p1≠p2:=aP aC O;apply#[∅,?_];have:=post (1+Y) [bl] [.op bl #[[o].toArray] (.box bl) a] p1 p2 [1] [some (true,1),none,some (false,1)] s false _ pV C (by rw[ay H,aC];rfl) (by rw[aC];rfl) (HM (n:=1) () () (B9 1) (show 1<=6 by decide) (N0.mpr #[by simp,OV]) #[#[C6,jR,C6,NV _ ()],trivial] #[trivial,trivial] (by show max 0 0<=4;decide) (by show 1+0<=78;decide) rfl ∅ #[by simp,by simp,rfl] (xh7 s1) A ∅) Zf;rw[Yv] at this;exact this
  apply fH (λc1=>?_) (λc1=>fall _ _ x);simp!;apply fH (λc2=>?_) (λc2=>fall _ _ x);simp!;apply bS #[st,(aW j).length,n,rfl,x.at_,n1,(),(),λca J r hg hk E fca Bl a6=>?_];have t:=x.trans a6;have HS:=a6.kp _ _ oP Dl;have md:yG W i j J w s (decide (l=0)):=HM w1 w2 I () II ho NU sA L hk n4 hg Vg A hl;simp!;dsimp!;apply bS #[W,i,j,ca,B,J,w,s,_,rfl,Bl,HS,md,λG7 M=>?_];have k:=t.grow M;simp!;apply fH (λc3=>?_) (λc3=>fall _ _ k);simp!;exact#[∅,post W i j ca B J w s _ G7 E oP (M.kp _ _ Bl) (M.kp _ _ HS) md k]
def x31{n:Nat}(g:n<*T.cW.1<*qB):n+1<*T.nK.1<*vk:=by
 apply dk T.nK.1 pH (λ_ _ _ _ _ _ f =>
   (ar (aM 1 pH.nd (ek g f #v[!0,aA]))
   (ar (aJ (bE (aR f) (!1) aA (ah _)) (az (aV (aK cf (aK mj (ek g f #v[!0,(aK Ex aA aA)]) (aK Ex aA aA)) (ek g f #v[!0,(aK Ex aA aA)])))) cj)
   (az (aV (bL bJ (dD #v[(aK gp (aK Ex aA aA) aA),(ek g f #v[!0,aA])]) (aK gp (!1) aA))))))) (λy G R h=>?_)
 .let#[st,rfl,S,post]:=h;simp!;apply dZ S () () λl H k C B=>?_;simp!;by_cases q:l=0
  .subst q;dsimp!;apply#[#[∅,∅,∅],?_];apply dZ k.at_ ∅ ∅ λm u j c1 c2=>?_;have c2:=B79 c2 (show _<=(65536:Int) by decide);simp!;apply#[#[∅,∅,∅],?_];apply#[yV () (),?_];apply#[#[∅,∅,∅],?_];apply dZ j.at_ ∅ ∅ λx E i A r=>?_;have r:=B79 r (show _<=(65536:Int) by decide);simp!;rw[show(2:Int)^D24 16=65536 by decide];exact post _ _ () () ((k.trans j).trans i)
  .dsimp!;rw[if_neg (by simpa using q)];dsimp!;apply#[#[∅,∅,∅],?_];apply dZ k.at_ ∅ ∅ λm u j c1 c2=>?_;simp!;apply#[∅,λp t=>?_];simp![aC,bt];have i:=(k.trans j).new (o:=.lst [.int (2^32-1),.int m]) t;obtain rfl|rfl:l=1\/l=2:=()
   .simp!;exact post _ _ ∅ ∅ i
   .simp!;exact post _ _ () () i
def x26{n:Nat}(oH:n<*T.gN<*kM)(oG:n+1<*T.eA<*jw)(oI:n+1<*T.eB<*jx)(rQ:n+1<*T.fg<*ow)(rR:n+1<*T.fh<*ox):n+1+1<*T.nF.1<*vf:=by
 apply dk T.nF.1 d3 (λ_ _ _ _ _ _ I =>
   (ar (aM 5 d3.nd (Xb T.gE T.ai.m oH I #v[!0,!1,!2]))
   (ar (aM 6 d3.nd aA)
   (ar (j0 (sR rfl T.bw #v[!3]) (cI 7 d3.nd) (az (aJ (j3 (!4)) (az (aM 6 d3.nd (aK cf (!6) (oN ES rfl T.jr ∅ #v[(fV T.ai.cl T.fg T.t9 rQ I (!5))])))) (az (aM 6 d3.nd (aK cf (!6) (oN ES rfl T.jr ∅ #v[(fV T.ai.cl T.fh T.ua rR I (!5))])))))))
   (ar (j0 (sR rfl T.bw #v[!6]) (cI 7 d3.nd) (ar (aM 8 d3.nd (nZ (j3 (!4)) (fV T.ai.cl T.fh T.ua rR I (!5)) (fV T.ai.cl T.fg T.t9 rQ I (!5))))
   (az (aJ (bE (vm1) (!8) dy (ah _)) (az (aV dy)) cj))))
   (az (aV (En (sP (aR I) (fV T.ai.cl T.eA T.t7 oG I (!5)) (!2) (ah _)) (Cw (sP (aR I) (fV T.ai.cl T.eB T.t_ oI I (!5)) (!1) (ah _))))))))))) (λds G R h=>?_)
 .let#[S,c0,rc,bx,j,Z,s,most,sz,rfl,Il,qT,Jo,hp,hmo,post]:=h;simp!;intro p mJ;apply So (s:=s) mJ Il qT λL u G1 nra HI A1 g1=>?_;have st:∀{f:Bool} {g:List Int} {i:Nat} {M:Gp} {q:DK},aX bH M p L u j g i->i7 sz j g i->(dw f j g i=false->q (.bl false) M)->(∀E,dw f j g i=true->aX bH E p L u j (dE f j g i).2 (dE f j g i).1->(∀b,b≠p->b≠u->E b=M b)->q (.bl true) E)->(f=true->∃R,ow [.ref p] M R/\∀d y,R d y->q d y)/\(f=false->∃R,ox [.ref p] M R/\∀d y,R d y->q d y):=by
   intro f g i M q A c C h1;apply#[λef=>?_,λef=>?_]
   .subst ef;apply bS #[p,L,u,j,g,i,sz,rfl,A,c,λE k0 U=>?_];cases t:bQ j g i with
    | false=>rw[k0 t];exact C t| true=>exact h1 E t (U t).1 (U t).2
   .subst ef;apply bS #[p,L,u,j,g,i,sz,rfl,A,c,λE k0 U=>?_];cases t:cF j g i with
    | false=>rw[k0 t];exact C t| true=>exact h1 E t (U t).1 (U t).2
  dsimp!;dsimp!;apply#[#[(),()],?_];apply j5 (λr N y=>sI λ(k i:Nat) (g:List Int) (v:Option D)=>LA (Cj S j s Z k i g) (k+r.length<=most) (aX bH y p L u j g i) (Kept p u G1 y) (N=[some (.tup [c0,.ref rc]),some (.ref bx),some (.int (s:Int)),some (.int (most:Int)),some (.bl S),some (.ref p),some (.int (k:Int)),v,none])) #[0,s,Z,none,.z,by rw[uz4];omega,A1,Kept.refl,rfl] ?_ ?_
  .rintro N M ⟨k,i,g,v,x,B,A,l,rfl⟩;apply#[trivial,?_];dsimp!;apply#[#[(),()],?_];apply j5 (λr N y=>DG λ(H i:Nat) (g:List Int) (v v2:Option D)=>LA (Cj S j s Z H i g) (r.length=H) (aX bH y p L u j g i) (Kept p u G1 y) (N=[some (.tup [c0,.ref rc]),some (.ref bx),some (.int (s:Int)),some (.int (most:Int)),some (.bl S),some (.ref p),some (.int (k:Int)),v,v2])) #[k,i,g,v,none,x,uz4 _ _,A,l,rfl] ?_ ?_
   .rintro N E ⟨H,i,g,v,v2,x,B,A,l,rfl⟩;apply#[trivial,?_];obtain rfl:H=0:=B.symm;obtain⟨rfl,rfl⟩:i=s/\g=Z:=by cases x;exact#[rfl,rfl]
    have gk:ax G E:=#[λb o e=>l.kp b o (aP e mJ) (aP e HI) (g1.kp _ _ e)];dsimp![A.ob,dh];apply bS #[p,L,u,j,g,i,rfl,A,?_];simp![A.ob,dh];apply bS #[p,L,u,j,g,i,rfl,A,λq hq=>?_];simp!;apply v59 (ks:=g) (by rw[aC];rfl) (by rw[ay (aP (gk.kp _ _ qT) hq),gk.kp _ _ qT];rfl) ?_;exact post _ (gk.new hq)
   .rintro z r N E ⟨H,i,g,v,v2,x,B,A,l,rfl⟩ O;apply#[trivial,?_];cases x with
    | z=>cases B
    | @s H X b0 h m =>
     have c0':=h.Jo hp Jo;let#[c1,Y,e1]:=CD hp c0' m;have B:r.length=H:=O4 B;cases S with
     | true =>
      simp![A.ob,dh];apply(st (f:=false) A c1 (λC=>?_) (λG4 _ J Q=>?_)).2 rfl
      .rw[show(!true)=false from rfl] at Y;rw[Y] at C;cases C
      simp!;rw[show dE false j _ _=(X,b0) from e1] at J;apply O _ _ #[H,X,b0,_,_,h,B,J,l.eqs Q,rfl]
     | false =>
      simp![A.ob,dh];apply(st (f:=true) A c1 (λC=>?_) (λG4 _ J Q=>?_)).1 rfl
      .rw[show(!false)=true from rfl] at Y;rw[Y] at C;cases C
      simp!;rw[show dE true j _ _=(X,b0) from e1] at J;apply O _ _ #[H,X,b0,_,_,h,B,J,l.eqs Q,rfl]
  .rintro z r N M ⟨k,i,g,v,x,B,A,l,rfl⟩ O;apply#[trivial,?_];have c1:=x.Jo hp Jo;rw[C1] at B;cases S with
   | true =>
    simp![A.ob,dh];apply(st (f:=true) A c1 (λC=>?_) (λG4 m J Q=>?_)).1 rfl
    .simp!;exact O _ _ #[k,i,g,some z,x,(),A,l,by rw[C78]]
    .simp!;apply O _ _ #[k+1,_,_,_,.s x m,(),J,l.eqs Q,rfl]
   | false =>
    simp![A.ob,dh];apply(st (f:=false) A c1 (λC=>?_) (λG4 m J Q=>?_)).2 rfl
    .simp!;exact O _ _ #[k,i,g,some z,x,(),A,l,by rw[C78]]
    .simp!;apply O _ _ #[k+1,_,_,_,.s x m,(),J,l.eqs Q,rfl]
def wy4{n:Nat}(KS:n<*T.m_.1<*uS)(KU:n<*T.ng.1<*uT)(Lc:n<*T.nC.1<*vd)(vL:n<*T.kj.1<*rq)(Y:n<*T.cW.1<*qB)(Ll:n<*T.nN.1<*vn)(Li:n<*T.nK.1<*vk)(Ad:n<*T.nF.1<*vf):n+1<*T.gI.1<*Zv:=by
 apply CI T.gI.1 cx (λds G R h=>?_) (λ_ _ _ _ _ _ j =>
   (ar (aM 1 cx.nd (dD #v[!0,aA,aA]))
   (ar (tH (ek Ll j #v[!1,aA]) (AA (n:=4) rfl (mq (cI 2 cx.nd) (mq (cI 3 cx.nd) (mq (cI 4 cx.nd) (mq (cI 5 cx.nd) AF))))))
   (ar (aM 6 cx.nd (ek Lc j #v[!2,!3,!4,!5]))
   (ar (aM 7 cx.nd (ek vL j #v[!2,!3,!4,!5]))
   (ar (aM 8 cx.nd (dJ gn rfl T.bq ∅ #v[¬6]))
   (ar (aM 9 cx.nd (bL bJ (dD #v[(ek Y j #v[!1,aA]),(ek Y j #v[!1,(aK cf (!7) aA)])]) (ek Y j #v[!1,aA])))
   (ar (aM 10 cx.nd (ek Y j #v[!1,(aK cf (!8) aA)]))
   (ar (EE 11 cx.nd (N':=["_law_k", "_law_state"]) (ix:=[none,some 1]) (jI rfl rfl rfl) (sR rfl T.bw #v[¬6]) (λ_ _ _ _=>(cI 0 (show(["_law_k", "_law_state"]:List Str).Nodup by decide))) (λ_ _ _ _=>mn) (λ_ _ _ _=>(ek Li j #v[!1])))
   (ar (aM 12 cx.nd (ek KS j #v[!6,!11,!9]))
   (ar (aJ (qF (w_or (bE (w38 j) (¬12) (bh #v[aS,aS,aS]) (by with_unfolding_all rfl)) (Et (AE (v88 (oX) (oX) aA (¬12) (!9)))))) (az (aV dy)) cj)
   (ar (aJ (bE (rT j) (ek KU j #v[!6,¬12,¬12,¬12]) (bh #v[aS,aA,!11,¬12]) (ah _)) (az (aV dy)) cj)
   (ar (aJ (AE (j3 (ek Ad j #v[!6,!11,!10,!9,dy]))) (az (aV dy)) cj)
   (az (aV (ek Ad j #v[!6,!11,!10,!9,dy])))))))))))))))) (λds G R h=>?_)
 .let#[a,ns,rfl,_]:=h;rfl
 .let#[a,ns,rfl,ha,oQ,post]:=h;simp!;apply#[∅,λst iu=>?_];have Ja:a≠st:=aP ha iu;have S0:cq (aG G st (.lst [.ref a,.int 0,.int 0])) st:=#[a,ns,0,0,aC,by rw[ay Ja];exact ha,(),(),Ja,oQ];generalize aG G st (.lst [.ref a,.int 0,.int 0])=G0 at *;apply iQ ?_;simp!;apply bS #[st,600,rfl,S0,λW E L ca pl U w s b G1 nca npl Bl Dl md a1=>?_];simp!;apply iQ ?_;simp!;have S1:=a1.at_;clear a1 S0;apply bS #[W,E,L,ca,pl,U,w,s,b,rfl,Bl,Dl,md,λA p f G2 nc l B aE hln z1 z2 g2=>?_];have S2:=S1.grow g2;have Vn:A≠st:=S1.ne nc;have Bl:=g2.kp _ _ Bl;have Dl:=g2.kp _ _ Dl;clear g2 S1 nc;simp!;apply iQ ?_;simp!;apply bS #[W,E,L,ca,pl,U,w,s,b,rfl,Bl,Dl,md,λG3 g3=>?_];have S3:=S2.grow g3;have l:=g3.kp _ _ l;clear g3 S2;let#[NO,Wl]:=md.few;generalize iI ((iC U (aW L)).map (yy W E)) w+(E.length:Int)=mo at *;simp!;apply iQ ?_;simp![l,bt,B0];apply iQ ?_;simp!;apply dZ S3 ∅ ∅ λS G4 a4 b1 b2=>?_;apply dZ a4.at_ () () λQ G5 a5 b3 b4=>?_;apply#[∅,λp6 IC=>?_];have A5:=a4.trans a5;have np6:=A5.at_.ne IC;have A6:=A5.new (o:=.lst [.int S,.int Q]) IC;apply dZ A6.at_ ∅ ∅ λx3 G7 Z b5 b6=>?_;have k7:=Z.kp _ _ np6 aC;obtain⟨many,em,uA0⟩:∃many:Nat,dg [D.int S,D.int Q] x3=some (.int (many:Int))/\many<=9000000:=by
   let#[S,rfl]:=mm b1;let#[Q,rfl]:=mm b3;have:x3=0\/x3=1:=()
   rcases this with e|e <;> subst e
   .exact⟨S,rfl,()⟩
   .exact⟨Q,rfl,()⟩
  have l:=(A6.trans Z).kp _ _ Vn l;have S7:=Z.at_;clear Z A6 A5 a5 a4 S3 b1 b2 b3 b4;simp![k7,bt,em];apply iQ ?_;simp!;apply dZ S7 () () λt G8 a8 c1 c2=>?_;let#[t,rfl]:=mm c1;have l:=a8.kp _ _ Vn l;have S8:=a8.at_;clear a8 S7 k7 em;simp!;apply iQ ?_;simp!;apply#[#[(),()],λM NH=>?_];have N:=S8.ne NH;apply j6 (λr σ G'=>sI λ(i c:Nat) (g:List Int) (v:Option D)=>DT (i+c=p) (r=bO (i:Int) c) (cC st G8 G') (G' M=some (.lst (g.map .int))) (g.length=i) (∀v∈g,0<=v/\v<4294967296) (σ=[v,some (.ref st)])) #[0,p,[],none,(),rfl,(cC.refl S8).new NH,aC,rfl,(λ_ h=>nomatch h),rfl] ?_ ?_
  .rintro σ G9 ⟨i,c,g,v,e,C,H,X,hl,hv,rfl⟩;apply#[trivial,?_];have NT:c=0:=by
    cases c with
    | zero=>rfl| succ n=>rw[i9] at C;cases C
   have l:=H.kp _ _ Vn l;have J:∀s,s<=f.length->i7 p f g s:=λs hs=>#[#[(),hv],aE,hs];have S9:=H.at_;clear H S8 NH;apply iQ ?_;simp!;apply bS #[_,A,M,f,g,many,p,rfl,l,X,J 0 (J8 _),B,λNr Ag sZ k10 O=>?_];have HX:=O.kp _ _ l;have VF:=O.kp _ _ X;have NG:=va4 B (n:=many) (rn true f many 0 g).1 (J 0 (J8 _)) (B9 _);rw[Ea] at NG;have NG:rn false f (rn true f many 0 g).1 (rn true f many 0 g).2.1 (rn true f many 0 g).2.2=((rn true f many 0 g).1,0,g):=by rw[NG];rfl
   have hle:=ZQ (fw:=true) (rs:=f) (n:=many) (s:=0) (bs:=g);have qS:=vz9 (fw:=true) B (n:=many) (J 0 (J8 _));have hwd:rV true f (rn true f many 0 g).2.2 (rn true f many 0 g).2.1 = "end" \/ rV true f (rn true f many 0 g).2.2 (rn true f many 0 g).2.1 = "torn" \/ rV true f (rn true f many 0 g).2.2 (rn true f many 0 g).2.1 = "tired" := by
    simp only[rV,↓reduceIte];by_cases h1:(rn true f many 0 g).2.1=f.length
    .rw[if_pos h1];exact .inl rfl
    .rw[if_neg h1];split
     .exact .inr (.inr rfl)
     .exact .inr (.inl rfl)
   unfold outD;generalize rn true f many 0 g=RN at *;let#[k,pt,cs]:=RN;generalize rV true f cs pt=wd at *;simp!;apply iQ ?_;generalize hu:gR (ux (dB (zy (gw true) _ _)) _ _) _=u;have rest:Go (u { nx:=λx G'=>R D.non G',rt:=R}) [some (.ref a),some (.ref st),some (.tup [.int (W:Int),.tup (E.map .str),.tup (bY L)]),some (.ref ca),some (.int (s:Int)),some (.ref pl),some (.tup [.int (p:Int),.ref A]),some (.int mo),some (.int (f.length:Int)),some (.int (many:Int)),some (.int (t:Int)),some (.ref M),some (.tup [.str wd,.int (pt:Int),.ref Nr,.int (k:Int)])] Ag:=by subst hu;apply iQ ?_;simp!;apply bS #[_,A,Nr,f,cs,pt,k,p,rfl,HX,k10,qS,B,λq11 sN HK I uu=>?_];have HW:=uu.kp _ _ HX;have Bn:=uu.kp _ _ VF;rw[NG] at I⊢;unfold outD;simp!;apply#[∅,?_];rw[show rV false f g 0 = "begin" from rfl];apply wn4 (ks:=g) (by rw[I];rfl) (by rw[Bn];rfl) ?_;rw[if_neg ∅];apply iQ ?_;simp!;apply bS #[true,_,A,M,f,g,t,many,p,rfl,HW,Bn,J t (),B,(),λAf zu=>?_];simp!;apply iQ ?_;simp!;apply bS #[false,_,A,M,f,g,t,many,p,rfl,zu.kp _ _ HW,zu.kp _ _ Bn,J t (),B,(),λLw g13=>?_];exact post Lw
   have hx:∀(G:Gp) (q:DK),g_ true (.str wd) (.tup [.str "end",.str "torn",.str "tired"]) G q=q (.bl false) G:=by rcases hwd with rfl|rfl|rfl <;> exact λ_ _=>rfl
   simp![Mm];apply#[∅,?_];rw[hx];simp!;rw[if_pos (decide_eq_true ()),if_neg (by rw[decide_eq_true (show(k:Int)<=many by omega)];decide)];exact rest
  .rintro z r σ G9 ⟨i,c,g,v,e,C,H,X,hl,hv,rfl⟩ ih;cases c with
   | zero=>cases C
   | succ c =>
    rw[i9] at C;cases C;apply#[trivial,?_];simp!;apply bS #[st,rfl,H.at_,λy sN y1 y2 Jt=>?_];have I:=Jt.kp _ _ N X;simp![I];apply#[by rw[B0];exact C9 (m:=4000) () ∅,ih _ _ #[i+1,c,g++[y],_,(),by congr 1,(H.trans Jt).own ?_ I N,by rw[aC,B7];rfl,by simp[hl],λv VT=>?_,rfl]]
    .exact NH
    .rcases E9.mp VT with h|h
     .exact hv v h
     .rw[F4.mp h];exact⟨y1,y2⟩
end
end Law
namespace Law
open PySem PySem.Spec PyProof.Rows L2 L3
def HF:W.Frag->Bool
 | []=>true| p::r=>(match p.2.data with|.seq _ _=>(match p.2.cls with|.type s=>!(s == "list")|_=>true)|_=>true)&&HF r
theorem w14:∀{K:W.Frag} {a:Addr} {o:Obj} {its:Array Value} {n:Nat},HF K=true->K.lookup a=some o->o.cls=.type "list" -> o.data=.seq its n->False
 | [],a,o,its,n,_,e,_,_=>by cases e
 | p::r,a,o,its,n,h,e,g,f=>by
  unfold HF at h;rw[O2] at h;rw[F5] at e;split at e
  .cases e;have q:=h.1;rw[f] at q;simp only[g] at q;exact absurd q ∅
  .exact w14 h.2 e g f
def DE{P:List Value->Prop}(h:P []):∀us:List Value,us.length=0->P us:=λus e=>by rw[E4 e];exact h
def jV{n:Nat}{P:List Value->Prop}(h:∀(a:Value) (us:List Value),us.length=n->P (a::us)):∀us:List Value,us.length=n+1->P us:=λus e=>by
 cases us with
 | nil=>cases e
 | cons a us=>exact h a us (O4 e)
def ar1{P:List Value->Prop}(h:∀f,P [f]):∀us:List Value,us.length=1->P us:=jV λf=>DE (h f)
def ar2{P:List Value->Prop}(h:∀g f,P [g,f]):∀us:List Value,us.length=2->P us:=jV λg=>jV λf=>DE (h g f)
def ar3{P:List Value->Prop}(h:∀i g f,P [i,g,f]):∀us:List Value,us.length=3->P us:=jV λi=>jV λg=>jV λf=>DE (h i g f)
def ar4{P:List Value->Prop}(h:∀j i g f,P [j,i,g,f]):∀us:List Value,us.length=4->P us:=jV λj=>jV λi=>jV λg=>jV λf=>DE (h j i g f)
def ar5{P:List Value->Prop}(h:∀k j i g f,P [k,j,i,g,f]):∀us:List Value,us.length=5->P us:=jV λk=>jV λj=>jV λi=>jV λg=>jV λf=>DE (h k j i g f)
def ar6{P:List Value->Prop}(h:∀l k j i g f,P [l,k,j,i,g,f]):∀us:List Value,us.length=6->P us:=jV λl=>jV λk=>jV λj=>jV λi=>jV λg=>jV λf=>DE (h l k j i g f)
def vh0{K:W.Frag}{x g:Str}{st:Stmt}{ps:List Str}{f:Addr}{m:Value}{od an:Option Addr}{j:Array (Option Value)}{kV doc i h ct:Value}(l:K.lookup f=some #[m,od,.func (W.fnOf x g (sT st) (qE st) (bf st) .none kV doc i an h ct),j]) (c:W.codeIn K h g=true) (k:W.keepIn K (.ref f)=true) (n:∀us:List Value,us.length=ps.length->Ot (W.fnOf x g (sT st) (qE st) (bf st) .none kV doc i an h ct) #[us,[]]=pure (ps.zip us)):FnAt K x g st ps:=#[f,_,#[m,od,.none,kV,doc,i,an,h,ct,j,rfl,l,c],k,.all n]
def DF(K:W.Frag)(x:Str)(st:Stmt):Prop:=∃(p:Addr) (h:Value) (od an:Option Addr) (f:Array (Option Value)) (kV i g cd j:Value),W.nsIn K J2 x=some (some (.ref p))/\K.lookup p=some #[h,od,.func (W.fnOf x x (sT st) (qE st) (bf st) .none kV i g an cd j),f]/\W.codeIn K cd x=true/\W.keepIn K (.ref p)=true
def DM(K:W.Frag)(C:Addr)(x q:Str)(st:Stmt):Prop:=∃(p:Addr) (h:Value) (od an:Option Addr) (f:Array (Option Value)) (kV i g cd j:Value),W.findIn K (.ref C) x=some (some (.ref p))/\W.isFn K (.ref p)=true/\K.lookup p=some #[h,od,.func (W.fnOf x q (sT st) (qE st) (bf st) .none kV i g an cd j),f]/\W.codeIn K cd q=true/\W.keepIn K (.ref p)=true
section
variable{K:W.Frag}{h:Heap}{mg:Str->Option Value}{C:Addr}{x q:Str}{st:Stmt}{ps:List Str}
def Xe{p:Addr}{i:Value}{od an:Option Addr}{f:Array (Option Value)}{kV j g cd ct:Value}(a:W.nsIn K J2 x=some (some (.ref p)))(l:K.lookup p=some #[i,od,.func (W.fnOf x x (sT st) (qE st) (bf st) .none kV j g an cd ct),f])(c:W.codeIn K cd x=true)(k:W.keepIn K (.ref p)=true):DF K x st:=#[p,i,od,an,f,kV,j,g,cd,ct,a,l,c,k]
def Xd{p:Addr}{j:Value}{od an:Option Addr}{f:Array (Option Value)}{kV m g cd ct:Value}(a:W.findIn K (.ref C) x=some (some (.ref p)))(i:W.isFn K (.ref p)=true)(l:K.lookup p=some #[j,od,.func (W.fnOf x q (sT st) (qE st) (bf st) .none kV m g an cd ct),f])(c:W.codeIn K cd q=true)(k:W.keepIn K (.ref p)=true):DM K C x q st:=#[p,j,od,an,f,kV,m,g,cd,ct,a,i,l,c,k]
def ln4{f:Type}:∀{us:List f},us.length=4->∃a b c d,us=[a,b,c,d]
 | [a,b,c,d],_=>#[a,b,c,d,rfl]
def ln3{f:Type}:∀{us:List f},us.length=3->∃a b c,us=[a,b,c]
 | [a,b,c],_=>#[a,b,c,rfl]
def aL{N:List Str}(_:af N ps (bf st))(X:K.In h)(G:h.Ns J2 mg)(d:DF K x st)(j:∀kV i g an cd ct,∀us:List Value,us.length=ps.length->Ot (W.fnOf x x (sT st) (qE st) (bf st) .none kV i g an cd ct) #[us,[]]=pure (ps.zip us):=by intro _ _ _ _ _ _;first|exact ar1 λ_=>rfl|exact ar2 λ_ _=>rfl|exact ar3 λ_ _ _=>rfl|exact ar4 λ_ _ _ _=>rfl|exact ar5 λ_ _ _ _ _=>rfl|exact ar6 λ_ _ _ _ _ _=>rfl):
  ∃f:Fg K mg x st ps,∀(s:Shared) (us:List Value),us.length=ps.length->Cp s f.fd #[us,[]] (ps.zip us):=by
 let#[p,n,od,an,m,kV,i,g,cd,ct,a,l,c,k]:=d;exact#[#[vh0 l c k (j kV i g an cd ct),W.mg_of X G a],λs us e=>.of_eq (j kV i g an cd ct us e)]
def iA{N:List Str}(_:af N ps (bf st))(d:DM K C x q st)(m:∀kV j g an cd ct,∀us:List Value,us.length=ps.length->Ot (W.fnOf x q (sT st) (qE st) (bf st) .none kV j g an cd ct) #[us,[]]=pure (ps.zip us):=by intro _ _ _ _ _ _;first|exact ar1 λ_=>rfl|exact ar2 λ_ _=>rfl|exact ar3 λ_ _ _=>rfl|exact ar4 λ_ _ _ _=>rfl|exact ar5 λ_ _ _ _ _=>rfl|exact ar6 λ_ _ _ _ _ _=>rfl):
  ∃f:FnAt K x q st ps,W.findIn K (.ref C) x=some (some (.ref f.a))/\W.isFn K (.ref f.a)=true:=by
 let#[p,o,od,an,n,kV,j,g,cd,ct,a,i,l,c,k]:=d;exact#[vh0 l c k (m kV j g an cd ct),a,i]
end
def vw5:gu:=λg G R=>∃(a:Addr) (f:List Int),g=[.ref a]/\G a=some (.sE (f.map .int))/\f.length<=63/\∀h,R (.bl true) h
theorem uz5{K:W.Frag}{H:Hp}:∀ns:List Int,ag K H (ns.map D.int) (ns.map V.int)
 | []=>.nil| _::ns=>.cons ae.cY (uz5 ns)
def x77{K:W.Frag}{H:Hp}{a:Addr}{ns:List Int}(l:HF K=true)(i:ns.length<=63)(k:Only H)(j:eP K H a (ns.map V.int)):mf K vw5 [.ref a] H (λv _=>v=.bl true) λ_ _ _=>False:=by
 have f:∃o,H a=some (.dj o (.lst (ns.map V.int))):=by
  rcases j with(h|h)|⟨o,its,n,q,p,_,m,_⟩
  .rcases k a with z|⟨o,xs,z⟩
   .rw[h] at z;cases z
   .rw[h] at z;cases z
  .exact h
  .exact(w14 l q p m).elim
 let#[o,f]:=f;apply#[[.ref a],aG (λ_=>none) a (.sE (ns.map .int)),λd _=>d=.bl true,.cons ?_ .nil,λb u e=>?_,#[a,ns,rfl,aC,i,λ_=>rfl],λd x v t r _ _ e=>?_]
 .rw[ae]
 .by_cases g:b=a
  .subst g;rw[aC] at e;cases e;exact#[o,_,f,uz5 ns]
  .rw[ay g] at e;cases e
 .subst e;rw[ae] at r;exact r
end Law
namespace Law
open PySem PySem.Spec PyProof.Rows L2 L3 Rw
def AR{K:W.Frag}{h:Heap}{mg:Str->Option Value}(X:K.In h)(G:h.Ns J2 mg) {g:Addr} {HC Js:Option Addr} {FC:Array (Option Value)} {HD HY Jj Hw M Jm:Value} {U:Addr} {Y:Obj} {kS:Nat} {Z:Tok} {N:Tok} {eU:Tok} (yA:W.nsIn K J2 "Ride" = some (some (.ref bH))) (yB:W.nsIn K J2 "Loom" = some (some (.ref bB))) (He:DF K "joined" QT) (Gy:DF K "moved" Ry) (Xp:W.findIn K (.ref bH) "__init__" = some (some (.ref g))) (VO:W.isFn K (.ref g)=true) (Vz:K.lookup g=some #[HD,HC,.func (W.fnOf "__init__" "Ride.__init__" (sT CB) (qE CB) (bf CB) (.ref U) HY Jj Hw Js M Jm),FC]) (Xk:W.codeIn K M "Ride.__init__" = true) (VD:W.keepIn K (.ref g)=true) (Q:K.lookup U=some Y) (R:Y.data=.seq [.int 0 Z].toArray kS) (Ht:DM K bH "place" "Ride.place" QH) (UZ:DM K bH "boxes" "Ride.boxes" QD) (UY:DM K bH "forth" "Ride.forth" QE) (U_:DM K bH "back" "Ride.back" QC) (U':DM K bH "at_end" "Ride.at_end" QB) (Va:DM K bH "at_begin" "Ride.at_begin" QA) (Hu:DM K bH "may_forth" "Ride.may_forth" QG) (Hv:DM K bH "may_back" "Ride.may_back" QF) (Hf:DF K "holds" QS) (Hm:DF K "change" QN) (Gx:DF K "operand_value" Rz) (Gb:DF K "turn_bit" RS) (Gs:DF K "run_forth" RD) (Gu:DF K "run_back" RC) (FT:DF K "word_of" R') (Ga:DF K "turned" RT) (F_:DF K "turned_row" RU) (Ve:DM K bB "__init__" "Loom.__init__" Qv) (Vf:DM K bB "fresh_box" "Loom.fresh_box" Qu) (Vd:DM K bB "put" "Loom.put" Qx) (Vc:DM K bB "put_by_choice" "Loom.put_by_choice" Qy) (Vb:DM K bB "put_unless" "Loom.put_unless" Qz) (FX:DF K "weave" RX) (FV:DF K "weave_rows" RZ) (FW:DF K "weave_choose" RY) (Gv:DF K "place_of" RB) (FU:DF K "weave_sign" R_) (Ge:DF K "total" RP) (Hj:DF K "difference" QQ) (Hg:DF K "gap" Qt) (Ho:DF K "bits_of_both" QL) (Hq:DF K "bits_of_any" QK) (Hn:DF K "bits_of_one" QM) (Gf:DF K "sum_without_both" RO) (Gj:DF K "smaller" RJ) (Hs:DF K "alike" QI) (Gd:DF K "truth" RQ) (GF:DF K "marking" Rq) (GD:DF K "marking_steps" Rr) (Gw:DF K "pieces" RA) (FZ:DF K "unrolled" RV) (FY:DF K "unrolled_row" RW) (Gg:DF K "stretches" RM) (Hk:DF K "costs" QP) (Hl:DF K "checked" QO) (GC:DF K "may_do" Rt) (Gr:DF K "set_of" RE) (Gi:DF K "stands" RK) (GG:DF K "many_in" Rp) (Hr:DF K "behind" QJ) (Gq:DF K "sets_along" RF) (GB:DF K "most_marks" Ru) (FR:DF K "work" Sb) (GH:DF K "made" Ro) (Gh:DF K "steps" RL) (Gm:DF K "slots_along" RH) (Gk:DF K "slots_behind" RI) (Hh:DF K "free_slot" QR) (Gz:DF K "move_codes" Rx) (GA:DF K "move_code" Rv) (Gn:DF K "shown_code" RG) (GI:DF K "left_code" Rn) (GX:DF K "_law_draw" QZ) (G_:DF K "_law_cap" QW) (GK:DF K "_law_turned" Rl) (GJ:DF K "_law_way" Rm) (GV:DF K "_law_moves" Ra) (Ha:DF K "_law_behind" QV) (GY:DF K "_law_detoured" QY) (GR:DF K "_law_plan" Rf) (GN:DF K "_law_size" Rj) (GU:DF K "_law_names" Rb) (Hb:DF K "_law_atom" QU) (GP:DF K "_law_row" Rh) (GO:DF K "_law_rows" Ri) (GQ:DF K "_law_program" Rg) (GZ:DF K "_law_cuts" QX) (GW:DF K "_law_making" Q_) (GS:DF K "_law_number" Rc) (GL:DF K "_law_there_and_back" Rk) (Hc:DF K "law" Sd) (xN:W.plainGet K bH T6=true) (yk:W.hasDictIn K bH=true) (xK:W.plainOver K bH=true) (xI:W.findIn K (.ref bH) "__setattr__" = some (some (.builtin "object.__setattr__"))) (gE:W.makesIn K bH=true) (x6:W.keepIn K (.ref bH)=true) (mE:W.findIn K (.ref bH) "rows" = some none) (mF:W.findIn K (.ref bH) "held" = some none) (mC:W.findIn K (.ref bH) "spot" = some none) (xO:W.plainGet K bB T6=true) (yl:W.hasDictIn K bB=true) (xM:W.plainOver K bB=true) (xJ:W.findIn K (.ref bB) "__setattr__" = some (some (.builtin "object.__setattr__"))) (lD:W.makesIn K bB=true) (x9:W.keepIn K (.ref bB)=true) (mG:W.findIn K (.ref bB) "wide" = some none) (lC:W.findIn K (.ref bB) "fresh" = some none) (mH:W.findIn K (.ref bB) "rows" = some none) (lB:W.findIn K (.ref bB) "steps" = some none) (rW:W.nsIn K J2 "NUMBERS" = some (some (.int 4294967296 N))) (i8:W.nsIn K J2 "BELOW_NOUGHT" = some (some (.int 31 eU))) (uE:W.nsIn K J2 "abs" = some none) (gj:W.nsIn K J2 "dict" = some none) (jt:W.nsIn K J2 "divmod" = some none) (cL:W.nsIn K J2 "enumerate" = some none) (jr:W.nsIn K J2 "int" = some none) (d7:W.nsIn K J2 "isinstance" = some none)
  (bq:W.nsIn K J2 "len" = some none)
  (fj:W.nsIn K J2 "list" = some none)
  (qZ:W.nsIn K J2 "max" = some none)
  (qY:W.nsIn K J2 "min" = some none)
  (bw:W.nsIn K J2 "range" = some none)
  (gi:W.nsIn K J2 "reversed" = some none)
  (gV:W.nsIn K J2 "sorted" = some none)
  (uD:W.nsIn K J2 "str" = some none)
  (qX:W.nsIn K J2 "sum" = some none)
  (fA:W.nsIn K J2 "tuple" = some none)
  (uC:W.nsIn K J2 "zip" = some none):
  ∃T:Txt K mg,∀(s:Shared) (v:Value),Cp s T.gI.fd #[[v],[]] [("_law_script",v)]:=by
 let#[kB,_]:=aL jc X G He;let#[ni,_]:=aL vx7 X G Gy;let gN:FnAt K "__init__" "Ride.__init__" CB ["self", "code", "boxes", "place"]:=#[g,_,#[_,_,_,_,_,_,_,_,_,_,rfl,Vz,Xk],VD,λs f u t=>by let#[_,_,_,_,rfl]:=ln4 (us:=f) (by simpa using t);exact W.binds_K u rfl Q R rfl rfl];let#[eA,Xm,VL]:=iA vy8 Ht;let#[eB,y,j]:=iA vy9 UZ;let#[fg,x,i]:=iA pN UY;let#[fh,A,k]:=iA pO U_;let#[fT,B,l]:=iA vz0 U';let#[fU,C,m]:=iA vz1 Va;let#[fR,Xn,VM]:=iA pL Hu;let#[fS,Xo,VN]:=iA pM Hv;let#[iF,_]:=aL vy3 X G Hf;let#[kE,_]:=aL pJ X G Hm;let#[nh,_]:=aL vx6 X G Gx;let#[mW,_]:=aL pA X G Gb;let#[m_,_]:=aL ic X G Gs;let#[ng,_]:=aL ie X G Gu;let#[kf,_]:=aL vw8 X G FT;let#[mV,_]:=aL pz X G Ga;let#[mU,_]:=aL vx1 X G F_;let#[kI,J,q]:=iA vz4 Ve;let#[bA,L,r]:=iA vz5 Vf;let#[bM,I,p]:=iA vz3 Vd;let#[O,H,o]:=iA vz2 Vc;let#[S,E,n]:=iA pP Vb;let#[kg,_]:=aL kU X G FX;let#[gJ,_]:=aL i_ X G FV;let#[mS,_]:=aL f_ X G FW;let#[kr,_]:=aL pE X G Gv;let#[mR,_]:=aL vw9 X G FU;let#[mY,_]:=aL kY X G Ge;let#[nU,_]:=aL lr X G Hj;let#[jm,_]:=aL pQ X G Hg;let#[kG,_]:=aL pK X G Ho;let#[nX,_]:=aL vy6 X G Hq;let#[nW,_]:=aL vy5 X G Hn;let#[kh,_]:=aL kZ X G Gf;let#[mZ,_]:=aL k_ X G Gj;let#[nY,_]:=aL je X G Hs;let#[mX,_]:=aL kX X G Gd;let#[nB,_]:=aL ig X G GF;let#[nA,_]:=aL lb X G GD;let#[ku,_]:=aL vx5 X G Gw;let#[gK,_]:=aL kW X G FZ;let#[mT,_]:=aL vx0 X G FY;let#[ki,_]:=aL f' X G Gg;let#[nV,_]:=aL vy4 X G Hk;let#[kC,_]:=aL dt X G Hl;let#[nz,_]:=aL pG X G GC;let#[jk,_]:=aL vx4 X G Gr;let#[ko,_]:=aL vx2 X G Gi;let#[kx,_]:=aL ja X G GG;let#[kH,_]:=aL vy7 X G Hr;let#[m9,_]:=aL ib X G Gq;let#[nu,_]:=aL vx8 X G GB;let#[mQ,_]:=aL vw7 X G FR;let#[nC,_]:=aL ij X G GH;let#[kj,_]:=aL pB X G Gh;let#[m7,_]:=aL h_ X G Gm;let#[m6,_]:=aL pC X G Gk;let#[nS,_]:=aL jd X G Hh;let#[nj,_]:=aL dr X G Gz;let#[nk,_]:=aL pF X G GA;let#[m8,_]:=aL vx3 X G Gn;let#[nE,_]:=aL vx9 X G GI;let#[cW,_]:=aL da X G GX;let#[kz,_]:=aL vy1 X G G_;let#[jl,_]:=aL lh X G GK;let#[gL,_]:=aL gb X G GJ;let#[nM,_]:=aL lq X G GV;let#[nQ,_]:=aL vy2 X G Ha;let#[nO,_]:=aL cE X G GY;let#[nJ,_]:=aL lp X G GR;let#[nG,_]:=aL lj X G GN;let#[nL,_]:=aL cD X G GU;let#[nR,_]:=aL pI X G Hb;let#[ky,_]:=aL ik X G GP;let#[gM,_]:=aL vy0 X G GO;let#[nH,_]:=aL ll X G GQ;let#[nP,_]:=aL jb X G GZ;let#[nN,_]:=aL c_ X G GW;let#[nK,_]:=aL pH X G GS;let#[nF,_]:=aL d3 X G GL;let#[gI,Jr]:=aL cx X G Hc;exact#[#[kB,ni,gN,eA,eB,fg,fh,fT,fU,fR,fS,iF,kE,nh,mW,m_,ng,kf,mV,mU,kI,bA,bM,O,S,kg,gJ,mS,kr,mR,mY,nU,jm,kG,nX,nW,kh,mZ,nY,mX,nB,nA,ku,gK,mT,ki,nV,kC,nz,jk,ko,kx,kH,m9,nu,mQ,nC,kj,m7,m6,nS,nj,nk,m8,nE,cW,kz,jl,gL,nM,nQ,nO,nJ,nG,nL,nR,ky,gM,nH,nP,nN,nK,nF,gI,#[#[xN,yk,xK,xI],W.mg_of X G yA,mE,mF,mC],#[#[xO,yl,xM,xJ],W.mg_of X G yB,mG,lC,mH,lB],#[gE,Xp,VO,x6],#[Z,λs f u t=>by let#[_,_,_,rfl]:=ln3 (us:=f) (show f.length=3 by simpa using t);exact W.binds_K u rfl Q R rfl rfl],#[Xm,VL,eA.kp],#[y,j,eB.kp],#[x,i,fg.kp],#[A,k,fh.kp],#[B,l,fT.kp],#[C,m,fU.kp],#[Xn,VM,fR.kp],#[Xo,VN,fS.kp],#[lD,J,q,x9],#[L,r,bA.kp],#[I,p,bM.kp],#[H,o,O.kp],#[E,n,S.kp],#[N,W.mg_of X G rW],#[eU,W.mg_of X G i8],W.mg_none_of X G uE,W.mg_none_of X G gj,W.mg_none_of X G jt,W.mg_none_of X G cL,W.mg_none_of X G jr,W.mg_none_of X G d7,W.mg_none_of X G bq,W.mg_none_of X G fj,W.mg_none_of X G qZ,W.mg_none_of X G qY,W.mg_none_of X G bw,W.mg_none_of X G gi,W.mg_none_of X G gV,W.mg_none_of X G uD,W.mg_none_of X G qX,W.mg_none_of X G fA,W.mg_none_of X G uC],λs v=>Jr s [v] rfl]
def xc1{P:Program}{w:World}{K:W.Frag}{mg:Str->Option Value}{base:Heap}(T:Txt K mg):30<*T.gI.1<*Zv:=by
 have o:=@x56 P w K mg base T 0;have p:=@x53 P w K mg base T 0;have m:=@x58 P w K mg base T 0;have t:=@x60 P w K mg base T 0;have k:=@x42 P w K mg base T 0;have x:=@x54 P w K mg base T 1 (km t) (km k);have JU:=@x12 P w K mg base T 0;have JK:=@wz5 P w K mg base T 0;have B:=@x47 P w K mg base T 1 (km JU) (km JK);have Y:=@x57 P w K mg base T 2 (km x) (km k) (km B);have U:=@wy6 P w K mg base T 0;have JS:=@x08 P w K mg base T 2 (km o) (km p) (km m) (km Y) (km t) (km x) (km U);have Z:=@x61 P w K mg base T 0;have u:=@x55 P w K mg base T 1 (km Z) (km k);have X:=@x59 P w K mg base T 2 (km u) (km k) (km B);have JT:=@x09 P w K mg base T 2 (km o) (km p) (km m) (km X) (km Z) (km u) (km U);have JV:=@x13 P w K mg base T 0;have E:=@x41 P w K mg base T 1 (km JV);have Jy:∀f,0+2*f<*T.gK.1<*fD f:=by
  intro f;induction f with
  | zero=>exact xd4 T| succ f j=>exact bz.mono (wz2 T (n:=0+2*f+1) (dp:=f) (wz1 T (n:=0+2*f) (dp:=f) j)) ()
 have JH:16<*T.gK.1<*Zt:=Jy 8;have L:=@x11 P w K mg base T 16 (km JH);have Q:=@wz9 P w K mg base T 17 (km L);have r:=@x07 P w K mg base T 0;have N:=@x01 P w K mg base T 1 (km r);have J:=@x21 P w K mg base T 0;have JZ:=@x18 P w K mg base T 2 (km N) (km J);have y:=@x51 P w K mg base T 1 (km r);have C:=@x46 P w K mg base T 3 (km JZ) (km r) (km N) (km y);have Kp:=@x43 P w K mg base T 0;have JO:=@x03 P w K mg base T 1 (km Kp);have JP:=@x04 P w K mg base T 2 (km JO);have JR:=@x06 P w K mg base T 2 (km y);have JY:=@x16 P w K mg base T 3 (km J) (km JR);have JI:=@wz3 P w K mg base T 0;have JJ:=@wz4 P w K mg base T 1 (km JI);have Kx:=@x65 P w K mg base T 0;have h:=@x66 P w K mg base T 0;have i:=@x64 P w K mg base T 0;have M:=@x10 P w K mg base T 1 (km h) (km i);have JM:=@wz7 P w K mg base T 1 (km h) (km i);have l:=@x67 P w K mg base T 1 (km h) (km i);have Kq:=@x44 P w K mg base T 2 (km h) (km i) (km l);have A:=@x49 P w K mg base T 1 (km h) (km i);have R:=@wz8 P w K mg base T 2 (km h) (km i) (km A);have Kt:=@x50 P w K mg base T 3 (km R);have Ks:=@x48 P w K mg base T 3 (km R);have JN:=@x02 P w K mg base T 2 (km h) (km i) (km l);have Ku:=@x52 P w K mg base T 2 (km h) (km i) (km l);have JF:=@wy7 P w K mg base T 4 (km JM) (km Kq) (km A) (km Kt) (km Ks) (km JN) (km Ku);have Kv:=@x62 P w K mg base T 0;have Kw:=@x63 P w K mg base T 1 (km Kv);have JL:=@wz6 P w K mg base T 1 (km h) (km i);have Jx:∀f,5+2*f<*T.gJ.1<*fB f:=by
  intro f;induction f with
  | zero=>exact xd3 T| succ f j=>exact bz.mono (wy8 T (n:=5+2*f+1) (dp:=f) (wy9 T (n:=5+2*f) (dp:=f) (bz.mono h ()) (bz.mono Kw ()) j (bz.mono M ()) (bz.mono JL ())) (bz.mono M ()) (bz.mono JF ())) ()
 have JG:21<*T.gJ.1<*Zu:=Jx 8;have S:=@wz0 P w K mg base T 20 (km Kx) (km JG);have J':=@x20 P w K mg base T 22 (km E) (km JJ) (km S);have JQ:=@x05 P w K mg base T 0;have JX:=@x15 P w K mg base T 23 (km J') (km JQ);have JW:=@x14 P w K mg base T 24 (km JY) (km JX);have Kb:=@x23 P w K mg base T 0;have Ka:=@x22 P w K mg base T 25 (km E) (km Q) (km C) (km JP) (km JW) (km Kb);have J_:=@x19 P w K mg base T 22 (km S);have Kr:=@x45 P w K mg base T 23 (km J_) (km Q);have JE:=@wy5 P w K mg base T 0;have O:=@x00 P w K mg base T 24 (km Kr) (km C) (km JE);have g:=@x35 P w K mg base T 0;have q:=@x25 P w K mg base T 0;have H:=@x38 P w K mg base T 0;have Jz:∀f,1+f<*T.gL.1<*d8 f:=by
  intro f;induction f with
  | zero=>exact xd5 T| succ f j=>exact x24 T (n:=1+f) (dp:=f) (bz.mono g ()) (bz.mono H ()) (bz.mono q ()) j
 have Kc:27<*T.gL.1<*Zq:=Jz 26;have Kk:=@x33 P w K mg base T 0;have Ko:=@x39 P w K mg base T 0;have Km:=@x36 P w K mg base T 1 (km g) (km q) (km Kk) (km Ko);have Kh:=@x30 P w K mg base T 27 (km q) (km Kc) (km Km);have Ke:=@x27 P w K mg base T 1 (km g) (km H);have Kj:=@x32 P w K mg base T 1 (km g);have G:=@x40 P w K mg base T 1 (km g);have JA:∀f,2+2*f<*T.gM.1<*fE f:=by
  intro f;induction f with
  | zero=>exact xd6 T| succ f j=>exact bz.mono (x28 T (n:=2+2*f+1) (dp:=f) (bz.mono g ()) (w09 T (n:=2+2*f) (dp:=f) (bz.mono g ()) (bz.mono G ()) j)) ()
 have I:18<*T.gM.1<*Zp:=JA 8;have Kf:=@w09 P w K mg base T 18 8 (km g) (km G) (km I);have Kg:=@x29 P w K mg base T 19 (km g) (km Kj) (km Kf) (km I);have Kn:=@x37 P w K mg base T 1 (km g);have Kl:=@x34 P w K mg base T 28 (km L) (km O) (km g) (km Kh) (km Ke) (km Kg) (km Kn);have Ki:=@x31 P w K mg base T 1 (km g);have Kd:=@x26 P w K mg base T 2 (km o) (km p) (km m) (km Y) (km X);have JD:=@wy4 P w K mg base T 29 (km JS) (km JT) (km Ka) (km O) (km g) (km Kl) (km Ki) (km Kd);exact JD
def walk{l:W.OpenLaw}{q:Program}{i:List Str}{I:(Str->Option Value)->Heap->Prop}{o:World->Heap->Prop}{d:DefRec}{K:Params->W.Frag}(r:l.most=some 63)(J:d.params.defaults=[]) (y:∀(w:World) (h:Heap),o w h->(K w.params).In h) (E:∀w:World,HF (K w.params)=true) (F:∀(w:World) (mg:Str->Option Value) (m:Addr) (h:Heap),(K w.params).In h->h.Ns J2 mg->mg d.name=some (.ref m)->∃T:Txt (K w.params) mg,∀(s:Shared) (v:Value),Cp s T.gI.fd #[[v],[]] [("_law_script",v)]) (p:d.name = "law" := by rfl):
  W.WalkO q i I o l.row.toRowW d [] (λf vs=>XW f vs):=by
 apply L2.xc (n:=63) (k:=30) (x:= "_law_script") (CX:=λ_=>oV) (sp:=λw=>mf (K w.params) vw5) r ∅ J #[rfl,∅,∅] y (λw mg m h G C j=>?_) (λw H a M t B A=>x77 (E w) t B A) λ_ _ _ _ _ z=>z;let#[T,u]:=F w mg m h G C j;rw[p] at j;have e:=j.symm.trans T.gI.g;cases e;exact#[T.gI.fd,u,λbase _ _=>xc1 T]
end Law
end
namespace PySem.W.Fast
def tw16505501244670488125:=0
def tw15738484323701936487:=0
def tw16310379775222084911:=0
def tw7341046509574497618:=0
def tw4347380092065858523:=0
def tw9859817933893622304:=0
def tw6480124914861919561:=0
def tw4537105714160848352:=0
def tw10917992072761959628:=0
def tw13212665898947188880:=0
def tw2435553093888015173:=0
def tw18380418939758340543:=0
def tw15480281493341515511:=0
def tw3425021987110104234:=0
def tw3667648870107482155:=0
def tw1041120935942720639:=0
def tw15792104081367080737:=0
def tw10025654189020864602:=0
def tw15705626960997474362:=0
def tw9138893014849068516:=0
def tw7742647264277499339:=0
def tw7994250960889132568:=0
def tw15824483519406699030:=0
def tw2978246799088037279:=0
def tw12649736178443551649:=0
def tw35816211230034616:=0
def tw8447466854941335623:=0
def tw17948337845609609105:=0
def tw12580026589446971238:=0
def tw1212169550556933016:=0
def tw7399697803725844147:=0
def tw722922623083523359:=0
def tw12268494831955765074:=0
def tw8414675315301391947:=0
def tw5175231080109718907:=0
def tw7779358594333628089:=0
def tw10172053729153159576:=0
def tw14330311817792559701:=0
def tw10615076194398800884:=0
def tw11034448263064612893:=0
def tw10067477784969566402:=0
def tw17827113894214865972:=0
def tw8727106412982167734:=0
def tw18349616933875065312:=0
def tw12487665990389543432:=0
def tw12614607664899279433:=0
def tw4702095074873499170:=0
def tw3422075067318613531:=0
def tw10376851546909757522:=0
def tw12100487772565618857:=0
def tw15095379383074404073:=0
def tw1821864044799778784:=0
def tw6827670393616241531:=0
def tw3829774122739975986:=0
def tw16813182878114491824:=0
def tw6971349713044517808:=0
def tw15537770809647652883:=0
def tw8741017374927996130:=0
def tw16738497631015387897:=0
def tw14619840528194905565:=0
def tw12768108188125042824:=0
def tw7039337027153569854:=0
def tw1256380702943397019:=0
def tw12088372781346465571:=0
def tw4468548245676581725:=0
def tw9764229692546895759:=0
def tw13516179831987918488:=0
def tw14519176968192788341:=0
def tw16496557157015434088:=0
def tw11839988392222893122:=0
def tw3289761993916427542:=0
def tw6091249559780607174:=0
def tw14929331681086816842:=0
def tw8159828856177230493:=0
def tw17869033352780628882:=0
def tw271160829893689251:=0
def tw15531606874336775079:=0
def tw3129151280658917644:=0
def tw17313390507150028873:=0
def tw14232763490846052467:=0
def tw16977192396776599:=0
def tw352286047354719700:=0
def tw13974277430022288131:=0
def tw5187497881509592438:=0
def tw1717816223978139167:=0
def tw8090007903153190338:=0
def tw12856417755768364606:=0
def tw12872543317349920812:=0
def tw15984798378900304197:=0
def tw11224585280937504854:=0
def tw10473496728903118758:=0
def tw2545223234934233838:=0
def tw807874277258647174:=0
def tw10798132451083278276:=0
def tw13240793348274925693:=0
def tw15169684090095878927:=0
def tw15048012436965024566:=0
def tw6181078825060962099:=0
def tw17782177843458337353:=0
def tw9885201069997275312:=0
def tw10466467261538146936:=0
def tw12297574617309100738:=0
def tw702243627781031687:=0
def tw17724899886262469679:=0
def tw8711843580708729232:=0
def tw14538261483632097232:=0
def tw16766786380749627068:=0
def tw16428032036117353090:=0
def tw12113831695184004261:=0
def tw9412253065336299850:=0
def tw654010534574988672:=0
def tw17827544030562097219:=0
def tw12881965782238195905:=0
def tw1696882542004489557:=0
def tw5557670109613750815:=0
def tw460176384660851460:=0
def tw9030087189532648454:=0
def tw17869556378066389457:=0
def tw17182825895858383036:=0
def tw12426932635147715763:=0
def tw7073330908554160093:=0
def tw9241097493439881670:=0
def tw689584564908228769:=0
def tw18224384447213480825:=0
def tw7291673594107605721:=0
def tw3957285150160723427:=0
def tw9983973260291483435:=0
def tw8572919933674732522:=0
def tw9815846162534899943:=0
def tw6695187195547229069:=0
def tw604246056962933050:=0
def tw4918017992265872509:=0
def tw1293127115023958745:=0
def tw13769982277555465638:=0
def tw262513565025161957:=0
def tw16699301859657932564:=0
def tw1452317929571856251:=0
def tw10357991493898254957:=0
def tw8235425147052029855:=0
def tw2576754684878567387:=0
def tw15087817466417614279:=0
def tw12160262393331360953:=0
def tw6102472963912364915:=0
def tw11923140908738177864:=0
def tw175519620730109666:=0
def tw8086415457400322223:=0
def tw2684639927999567405:=0
def tw17316498256585958474:=0
def tw17924367985636957440:=0
def tw9446809340604163874:=0
def tw298884824832081520:=0
def tw17161107269445666383:=0
def tw12363227259387377639:=0
def tw9896625004931600637:=0
def tw714767861368786124:=0
def tw11976401357576050230:=0
def tw10005073354402958694:=0
def tw4639397299767364454:=0
def tw493899141379617766:=0
def tw10658968599084922166:=0
def tw10032304252605139969:=0
def tw14571263618890443710:=0
def tw1874494917757287490:=0
def tw4922663033231754020:=0
def tw15964807279545806064:=0
def tw15154353000139990791:=0
def tw17356172964124296198:=0
def tw16140573360285046503:=0
def tw5870700118374564341:=0
def tw2659732798010016463:=0
def tw12297076562842137519:=0
def tw15586816639425027586:=0
def tw6967144097175822632:=0
def tw3704510488394508655:=0
def tw7835551127472278206:=0
def tw12097370475509293720:=0
def tw11704996681481439381:=0
def tw14767016158475060586:=0
def tw9215586564122394799:=0
def tw17829259048365114700:=0
def tw16368817615801368144:=0
def tw5750767943827748507:=0
def tw6853874377381427461:=0
def tw12070432255801215790:=0
def tw5475915282311697933:=0
def tw8840779126150143837:=0
def tw7585367670871335396:=0
def tw12810956074788442782:=0
def tw4037818892004308761:=0
def tw9065302662878707347:=0
def tw12170098807334164959:=0
def tw13921708515911254339:=0
def tw2040081408071829750:=0
def tw5464626767865910374:=0
def tw6730232020586445370:=0
def tw11128657621122468103:=0
def tw818169265434996987:=0
def tw18397934002210562687:=0
def tw1137567993268361769:=0
def tw14259132043623041720:=0
def tw12541613246031779805:=0
def tw2358655568145603065:=0
def tw14658514406711783349:=0
def tw6761160355306983147:=0
def tw11539844933895420617:=0
def tw15883272791016433655:=0
def tw9468297515163395330:=0
def tw5026226418040894194:=0
def tw1215225405813983808:=0
def tw4576317245688636017:=0
def tw4562202799583744196:=0
def tw11704753500369683101:=0
def tw3110345761245552903:=0
def tw8904575726410037516:=0
def tw13316748669798856410:=0
def tw5410386384960566129:=0
def tw373788653270573512:=0
def tw16580183387305979467:=0
def tw6273876535753422052:=0
def tw14620588552339407185:=0
def tw1285447309176256914:=0
def tw6187868350188902123:=0
def tw2657872046292731631:=0
def tw5670615678090351147:=0
def tw7781640306304228440:=0
def tw1405242617359126247:=0
def tw6859519632725494866:=0
def tw11960420923490839758:=0
def tw16823887032307991367:=0
def tw8836834923373451720:=0
def tw8687290424778800800:=0
def tw14678967812666829035:=0
def tw1820453162965333126:=0
def tw5752700705568293487:=0
def tw1277369523920470832:=0
def tw16274361210046192748:=0
def tw15872043075301012878:=0
def tw10838866796170178486:=0
def tw14241509443527342161:=0
def tw4423156489395373171:=0
def tw10317036004870772699:=0
def tw12671321911402922446:=0
def tw6794206601432675048:=0
def tw4043834186156319874:=0
def tw152945005682733713:=0
def tw15229905727777262616:=0
def tw17740023531689164632:=0
def tw2989245777553106771:=0
def tw3826216181861447286:=0
def tw1347327562805342125:=0
def tw7485870732300572582:=0
def tw13188508900395416907:=0
def tw10132870123869952699:=0
def tw14415992156154245473:=0
def tw14986172782857726407:=0
def tw8786083172035333135:=0
def tw11690121667605922289:=0
def tw1980139019389958197:=0
def tw11765196518699937593:=0
def tw3424247026367406266:=0
def tw5370557187358763369:=0
def tw13172815078107860904:=0
def tw240159996868284410:=0
def tw10577668195570886080:=0
def tw17106185272597925293:=0
def tw3642833535514345799:=0
def tw13246971219183954107:=0
def tw13126435710074348053:=0
def tw1614342090070202986:=0
def tw12275006629760387824:=0
def tw1204728561960474989:=0
def tw13397023866541153879:=0
def tw4598240749370340596:=0
def tw11114228861480720087:=0
def tw18288171596396808123:=0
def tw3510994025263106891:=0
def tw14732964986644347526:=0
def tw70683859310737731:=0
def tw12232861201512153192:=0
def tw9377064509969061794:=0
def tw9470090048111234940:=0
def tw14021929630268650089:=0
def tw6946654528275703566:=0
def tw10791080212749966769:=0
def tw15292084548630842696:=0
def tw4496208921208134914:=0
def tw15219101227372153882:=0
def tw15020300327695061332:=0
def tw4743825511446014186:=0
def tw16192961889056578241:=0
def tw17331608924481624761:=0
def tw1015927713707488228:=0
def tw9595827344444611251:=0
def tw18315680586718614181:=0
def tw9807640253132294777:=0
def tw5131704532429690743:=0
def tw17281842441445994056:=0
def tw2566524317257620893:=0
def tw7372929973203226423:=0
def tw15710306345286068436:=0
def tw9810379654062972204:=0
def tw6172076188628136906:=0
def tw13366952339252829194:=0
def tw7110898449854736422:=0
def tw6981947776921512045:=0
def tw4226314226915999227:=0
def tw497328538826854388:=0
def tw12341228735604265881:=0
def tw15314434324007220444:=0
def tw1362462950672195163:=0
def tw8136584387761502056:=0
def tw531500458486876249:=0
def tw15938437622025308729:=0
def tw11570048012950186547:=0
def tw11538530829835549120:=0
def tw15650021115557688764:=0
def tw4014360561984099501:=0
def tw17892582263822000880:=0
def tw6695586072049319961:=0
def tw11480578282010379962:=0
def tw3094161108348315944:=0
def tw7606678992996009402:=0
def tw1787877289537781497:=0
def tw1433982430431134262:=0
def tw8039905628643088109:=0
def tw5168600781071655518:=0
def tw11855872232845130941:=0
def tw18376248047332539940:=0
def tw4153152561345391517:=0
def tw14948510810086315315:=0
def tw1320988913148091314:=0
def tw11554668169551461008:=0
def tw6806679681381139291:=0
def tw3910527047470134946:=0
def tw7872696896085008592:=0
def tw10529315967954372539:=0
def tw9205370285298330986:=0
def tw7981461451631673265:=0
def tw13586297118254044368:=0
def tw796413077889699783:=0
def tw15087513097472340831:=0
def tw5561942832154062110:=0
def tw8504377598421290504:=0
def tw11895493929566876206:=0
def tw18255462207104834802:=0
def tw9455477627345824070:=0
def tw17789200406897382812:=0
def tw17885539560556048203:=0
def tw627825076836028792:=0
def tw9254060300654275001:=0
def tw603808258965311916:=0
def tw1698612367492636091:=0
def tw10602711491807043169:=0
def tw644976773880579793:=0
def tw17383039779494513370:=0
def tw10489598102773318884:=0
def tw17106210696278590840:=0
def tw16504628882410807542:=0
def tw8282227813789467925:=0
end PySem.W.Fast
open PySem PySem.W PyProof.Rows
local macro_rules | `(tactic| left) => `(tactic| (refine' Law.Xe ?a ?b ?c ?d; (case a => k_is); (case b => k_is); (case c => k_is); (case d => k_is)))
local macro_rules | `(tactic| right) => `(tactic| (refine' Law.Xd ?a ?b ?c ?d ?e; (case a => k_is); (case b => k_is); (case c => k_is); (case d => k_is); (case e => k_is)))
set_option maxHeartbeats 0 in
theorem PySem.Challenge.cw_nolitter_k77_whole_litter_at_the_start_holds : PySem.Challenge.rw_nolitter_k77_whole_litter_at_the_start.Holds := by
 w_on; o_law; k_head; (case hw => w_witness2)
 k_fill
 refine Law.walk (l := PySem.Challenge.rw_nolitter_k77_whole_litter_at_the_start) rfl rfl (fun w h Y => PySem.W.kIn_of Y) ?L ?F
 case L => exact fun w => rfl
 case F =>
  intro w mg fa h KX G NN
  refine' Law.AR KX G ..
  all_goals try (refine @id (_ : Prop) ?_; first | left | right | k_is | exact rfl)
