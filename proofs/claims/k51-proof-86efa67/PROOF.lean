import PyProof.Rows.All
import Wide.All
import OpenK.AllK
import PySem.Challenge.RW_nolitter_k51_steps_told_ahead
set_option Elab.async false
set_option linter.all false
set_option maxRecDepth 100000
set_option genSizeOf false
set_option compiler.extract_closed false
set_option maxHeartbeats 4000000
local macro_rules|`(tactic|decide)=>`(tactic|decide +kernel)
local macro_rules|`(let $d:letDecl;$b)=>`(have $d:letDecl;$b)
local macro_rules|`(tactic|let $d:letDecl)=>`(tactic|have $d:letDecl)
def Z_:String->String|"l"=>"length"|"t"=>"map"|"o"=>"heap"|"e"=>"toArray"|"u"=>"trans"|"v"=>"size"|"h"=>"objs"|"f"=>"env"|"r"=>"get?"|"q"=>"lookup"|"p"=>"testBit"|"n"=>"elim"|"y"=>"fresh"|"i"=>"toNat"|"j"=>"refl"|"c"=>"prog"|"L"=>"toList"|"M"=>"symm"|"S"=>"new"|"O"=>"int_inv"|"E"=>"getD"|"U"=>"names"|"H"=>"toks"|"R"=>"push"|"Q"=>"base"|"Y"=>"isList"|"I"=>"set"|"J"=>"scope"|"C"=>"flatten"|"B"=>"typeIs"|"G"=>"drop"|"Z"=>"kindOf"|"ff"=>"reverse"|"fg"=>"isSome"|"fh"=>"take"|"fi"=>"str_inv"|"fj"=>"append"|"ga"=>"units"|"gb"=>"kind"|"gc"=>"locals"|a=>a
def ZP:String->String|"bf"=>"List"|"br"=>"Nat"|"bz"=>"Int"|"b0"=>"Option"|"b8"=>"False"|"cg"=>"Bool"|"cp"=>"if_neg"|"cu"=>"if_pos"|"cv"=>"congrArg"|"cz"=>"absurd"|"cA"=>"decide_eq_true"|"c7"=>"decide_eq_false"|"c_"=>"eq_false"|"dc"=>"Array"|"dm"=>"True"|a=>a
def Zq(f:String->String):Lean.Name->Lean.Name|.str .anonymous a=>.str .anonymous (f a)|.str p a=>.str (Zq f p) (Z_ a)|.num p a=>.num (Zq f p) a|p=>p
def YQ(f:String->String):Lean.Syntax->Lean.Syntax
 |.ident i r n l=>if n.hasMacroScopes||n.getRoot.toString.length>2&&n.getRoot.toString.front.isUpper||n.getRoot== `L2||n.getRoot== `L3 then .ident i r n l else .ident i r (Zq f n) l
 |.node i k #[a,b,c]=>if k= ``Lean.Parser.Term.proj then .node i k #[YQ ZP a,b,YQ Z_ c] else .node i k #[a,b,c]
 |a=>a
def YP(s:Lean.Syntax):Lean.MacroM Lean.Term:=do
 if s.getId== `ck then return <-`(Prop)
 let t:=YQ ZP s
 if t==s then Lean.Macro.throwUnsupported
 pure ⟨t⟩
local macro_rules(kind:=ident)|`($i:ident)=>YP i
local macro_rules|`($x.$i:ident)=>do YP (<-`($x.$i:ident))
local macro_rules|`($f $a*)=>do let g<-YP f;`($g $a*)
open Array renaming length_toList->L4,forIn_toList->Z4,getElem?_toList->TK,getElem?_eq_getElem->Dg,size_append->oe,toList_append->Dn,append_assoc->Dp,toList->oD
open Bool renaming true->dS,false->eH,false_ne_true->D1,false_eq_true->K8,and_eq_true->K9,false_or->N7,or_false->P0,true_or->P9,or_true->Q1,eq_iff_iff->T8,not_true->V6,not_false->oG,or_eq_true->oK,xor_false->pf,and_true->DB
open False renaming elim->Q9
open ForInStep renaming yield->V2
open Int renaming toNat_natCast->O6,natCast_nonneg->P5,le_of_lt->X7,mul_le_mul_of_nonneg_left->Z3,emod_lt_of_pos->Z7,emod_eq_of_lt->Pp,fdiv_eq_ediv_of_nonneg->p0,emod_nonneg->Ph,natCast_add->Pg,mul_add->Gy,fmod_eq_emod_of_nonneg->DY,emod_add_emod->qi,eq_ofNat_of_zero_le->Eb,add_zero->SN,min_eq_left->qB,ofNat_toNat->qC,ediv_nonneg->q0,mul_one->SK,one_mul->SI,add_right_comm->Eg,max_eq_right->Et,natCast_succ->ED,not_lt->q7,lt_irrefl->E',ofNat_le->Fn,max_comm->Fy,mul_comm->FO,ne_of_gt->FV,mul_sub->F1,neg_mul->F2,le_refl->F3,le_min->F'
open Int.ofNat renaming inj->rf
open List renaming length_map->B0,length_append->B4,getElem?_eq_getElem->B6,map_append->B7,length_cons->C0,map_cons->C1,mem_cons_of_mem->C2,replicate->C7,mem_cons_self->D0,range->D3,append_assoc->D5,mem_map->D6,append_nil->D7,mem_singleton->D8,mem_cons->D9,size_toArray->E5,eq_nil_of_length_eq_zero->E6,length_range->F0,getD_eq_getElem?_getD->F4,getElem?_map->F5,mem_append->F7,getElem?_append_right->F9,lookup_cons->J0,length->J1,getElem?_append_left->J4,nil_append->J6,mem_range->K0,lookup->K1,length_set->K2,cons_append->K3,replicate_succ->K4,mem_of_getElem?->K5,map_congr_left->L5,map_map->L9,getElem_mem->M4,nodup_cons->M5,find?_cons->M6,mem_append_right->M8,getElem?_eq_none->M9,getElem?_eq_some_iff->N1,flatten_cons->N4,sum_cons->N8,length_replicate->O2,all_eq_true->O5,drop_eq_getElem_cons->O7,flatten_replicate_singleton->P1,any_cons->P7,lookup_nil->P8,length_singleton->Q5,zip_cons_cons->Q8,length_reverse->T6,nodup_append->U7,getElem?_cons_succ->U8,range_succ->V3,drop_eq_nil_of_le->V5,all_cons->V7,mapM_cons->V8,map_replicate->V9,eq_nil_or_concat->W0,concat_eq_append->W4,length_nil->W7,reverse_cons->X6,set_append_left->X8,eq_of_mem_replicate->Y4,not_mem_nil->Z0,append_inj'->Z1,filter_append->Z9,length_pos_of_mem->TM,mem_filter->GG,sum_append->GF,length_filter_le->TL,pairwise_map->Po,getElem?_zip_eq_some->ri,filterMap_cons->Tz,forIn_cons->Pj,getElem?_replicate->rz,getElem?_set_self->r9,any_eq_false->Tt,map_nil->GB,nodup_nil->Pd,getElem?_reverse->sg,length_take->Tr,filter_cons->Tq,length_drop->Tp,map_reverse->Tj,mem_append_left->sk,getElem?_set_ne->sr,mem_iff_getElem->sG,foldl_cons->Tg,getElem?_range->sW,set_set->Pa,perm_ext_iff_of_nodup->Ga,forIn_nil->SY,find?_eq_none->sY,getElem?_eq_none_iff->Gd,mem_or_eq_of_mem_set->Ge,replicate_eq_nil_iff->Gh,set_comm->SW,length_erase_of_mem->HL,map->EI,mem_reverse->s_,filter_cons_of_neg->Ik,filter_cons_of_pos->Ir,length_eq_zero_iff->Kc,take_of_length_le->Kd,range_succ_eq_map->Kj,of_mem_zip->tf,length_zip->tY,drop_zero->t6,mem_erase_of_ne->Ku,forall_mem_cons->KG,reverse_append->KH,mem_filterMap->KJ,filterMap_map->KL,set_cons_zero->C14,set_cons_succ->C17,getElem?_set->KY,filter_congr->KZ,find?_append->La,zipIdx_cons->Lh,drop_length->Lj,zipIdx_nil->Lp,filter_nil->Lr,filter_map->Lw,zip->Sx,foldl->t8,map_take->LM,map_drop->LO,map_set->LW,sum_nil->M'
open List.Pairwise renaming filter->D42,nil->D65
open List.cons renaming inj->R6,injEq->W6
open Nat renaming le_refl->B9,lt_of_le_of_lt->C6,lt_of_lt_of_le->C9,le_trans->D4,le_of_ble_eq_true->E9,ne_of_lt->J7,zero_le->J8,add_assoc->K6,add_sub_cancel->L0,zero_add->L6,mul_le_mul_right->N5,le_of_lt->O4,eq_of_testBit_eq->P6,add_comm->Q0,testBit_two_pow->T7,lt_succ_self->T9,le_add_right->U0,le_succ->U4,pow_le_pow_right->U5,min_eq_left->W8,two_pow_pos->W9,add_sub_cancel_left->Y8,mul_le_mul->Z2,ne_of_gt->Z5,succ_mul->Z6,sub_self->Z8,lt_irrefl->EO,le_sub_one_of_lt->TH,mod_two_eq_zero_or_one->t9,pow_lt_pow_right->TF,sub_zero->EN,testBit_zero->Pn,zero_testBit->Pl,pow_succ->EM,xor_lt_two_pow->Tw,lt_or_ge->GA,le_of_lt_succ->Ts,le_mul_of_pos_left->uq,sub_sub_self->Tn,testBit_and->Tf,testBit_xor->Te,sub_sub_sub_cancel_right->Nq,mul_comm->Pb,add_zero->O_,add_right_comm->ur,pos_of_ne_zero->uw,testBit_two_pow_self->Nr,min_le_right->ux,le_max_right->uZ,add_sub_add_right->Nt,le_div_iff_mul_le->Nu,add_le_add_left->Nv,lt_of_succ_lt->Nw,lt_trans->va,min_eq_right->Ny,le_of_not_lt->Nz,testBit_succ->NB,mod_eq_of_lt->NG,xor_div_two->NH,le_max_left->NJ,le_antisymm->NM,sub_le->vb,testBit_or->NO,max_le->vi,mod_lt->vj,le_of_eq->NS,le_total->NT,min_self->Oc,log2_lt->Ou,mul_add->Ov
open Nat.succ renaming inj->Q2
open Ne renaming symm->E1
open Option renaming some->du,none->dv,map_eq_some_iff->F6,bind_some->TB,bind_eq_some_iff->vl,isSome_map->vo,isNone_none->Ow,getD_none->Oy,getD_some->OB,map_some->OC
open Option.some renaming inj->E8,injEq->D66
open Or renaming inr->x9,inl->As
open Prod renaming ext->Av
open Prod.mk renaming injEq->OE
open PyProof renaming noPylong_of_log2->O'
open PyProof.Rows renaming callWith_type1->J9,slot_tuple_getitem->Y5,IntsAre->x_,AllBare->Au,subscriptTail->SU,boot_range->OR,Subscript_->SD,callWith_builtin1->C37,assign_Tuple->C93,tail_any->vr,envOfC->D57
open PySem renaming Value->fx,Addr->fy,Shared->fC,Str->gq,Expr->gI,Stmt->hC,Program->hH,World->hL,Heap->hR,Around->iC,sizeLine->iZ,wpAny->i3,Keyword->i4,Obj->jC,Pos->jU,wpAny_bind->B5,wpAny_pure->C8,starEach->D2,Spec->E2,NameKind->J2,mainGlobals->J5,wpAny_field->L7,compareOp->L8,binaryOp->N0,wpAny_seqItems->N6,wpAny_holding->O0,attributeBase->O1,wpAny_Call_Name_kw->O8,wpAny_callSpecial?_slot->P4,wpAny_call_entry->Q3,keywordEach->Q4,wpAny_setField_rec->R5,sysModules->R8,bootBuiltins->R9,wpAny_mono->S8,mem_of_lookup->S9,assignEach->U1,wpAny_truthy_bool->U9,wpAny_newObj_type->V0,wpAny_pyIter_list->V1,swapsWith->X4,wpAny_passesOwn->X5,foldedSetIterable->X9,backToKw->Y0,wpAny_pyIter_tuple->Pq,sliceBounds->Ck,wpAny_isInstance->Pk,behindInMarks->GC,wpAny_specialOf->Pf,codeAny->uO,call_meets->Cj,getattributeRaised->Tv,FuncData->yO,wpAny_typeOf->Gz,ZipApart->yN,isSubtype_tuple_tuple->vu,builtinLookup_eq_fast->vz,wpAny_forIn_list->Ti,wpAny_rule->EK,getMethod->Ci,wpAny_updateSeq_pair->vE,wpAny_execs_nil->Td,letOwnedTupleGo->Tc,codeAny_builtin->Tb,standAt->yM,call_meetsIn->OU,inplaceOp->EJ,wpAny_tupleItemsOf->vU,tupleKind_room_in1->vX,wpAny_Call_method->vZ,slot_list_getitem->wh,wpAny_standAt->SV,wpAny_onRaise->SS,wpAny_attempt->SR,plainId_quiet->SQ,tupleKind->Gu,PassesOwn->SO,noFill_tuple_add->wk,codeAny_mono->SM,valueAt->Cg,getItem->Cf,typeLookup->OQ,typeLookup_type->wy,IsRangeIter->SH,callWith->Gs,wpAny_tryCatch->wG,BindsTo->EH,callerA->EG,evalArgs_none->P',rangeSize_one->xf,seq_tuple_add->xi,evalPart_none->xp,nums_intItems->xG,builtinsNs->SE,typeIs_str->SA,Within->xH,unaryOp->Gr,concat_meets->xI,seqIndex_neg->xK,eqIsQuiet->Sz,slicePick->Sy,sizeLine_eq->xN,seqIndex_of->xT,wpAny_letGo->xU,call->xV,isInstance->x4,wpAny_Name->x6,bindArgs->Sw,typeIs_int->x8,numAt_eq->Sv,getAttr?->Ss,storeName->yA,small_one->yB,DictEntry->QH,cellsFrom->zp,setItem->So,IsRange->D28,storedH->Sm,compEnvC->zC,intItems->zH,Fin->Q'
open PySem.Around renaming under_plainId->TC,under->zO
open PySem.AutoListH renaming list___mul___list_int_3->C22
open PySem.Builtin renaming bitNot->O9,bitAnd->Q6,bitXor->Pe,bitOr->Pc
open PySem.Builtin.Dict renaming updateFrom->Y9,pairItems->zR,selfAndRest->Rr
open PySem.Builtin.List renaming listTooLong->Y3
open PySem.Builtin.Range renaming rangeSize->P3,rangeFitsLong->Rv,small->Rx
open PySem.Builtin.Slice renaming slicePlaces->W5,sliceAdjust->zS,sliceApplied->Rz,slicePartIndex->C58,sliceFields->C92
open PySem.Builtin.SmallTypes renaming nextOf->K7,ownedTupleIsFree->M0,ownedTupleHandOut->RH
open PySem.Builtin.Str renaming tooLong->Tx,glued->D67
open PySem.Builtin.Tuple renaming tupleExact->Y2,tupleHashOf->zV,tupleItemsOf->RT
open PySem.Calls renaming spliced_cons->R4,callWith_builtin->R7,spliced_nil->U6,evalArgs_plain->TJ,Name_function_global->RU
open PySem.Challenge renaming pw_nolitter_k51_steps_told_ahead->B19
open PySem.Code renaming isFrame->zW,frames->RV
open PySem.Data renaming fields->z3,cell->z4
open PySem.DictEntry renaming refKey->D70
open PySem.EqMixed renaming eq_bool_str->C85,eq_str_bool->C86,ne_bool_str->C90,ne_str_bool->C91,eq_int_str->C99,eq_str_int->D01,ne_int_str->D05,ne_str_int->D07
open PySem.EqNone renaming eq_none_none->C82,eq_none_bool->C83,eq_bool_none->C84,ne_none_none->C87,ne_none_bool->C88,ne_bool_none->C89,eq_none_int->C96,eq_none_str->C97,eq_int_none->C98,eq_str_none->D00,ne_none_int->D02,ne_none_str->D03,ne_int_none->D04,ne_str_none->D06
open PySem.F renaming plainAttrs_dict->Y7,args_tuple_add_2->z5,entry_tuple_add->z7,plainAttrs_list->z8,slot_tuple_add->Ay,slot_dict_get->AY,slot_dict_getitem->RW,slot_dict_update->RZ,slot_dict_values->SG,args_dict_get_3->T4,entry_dict_get->T5,slot_dict_pop->Wh
open PySem.Heap renaming get?_push_of_some->B8,lt_size->E4,get?_push_size->E7,size_push->U2,SameBut->V4,get?_update_other->XP,get?_update_self->XS,IsTuple->AZ,IsList->A',ExtBut->X3
open PySem.Heap.DictOf renaming new->BG
open PySem.Heap.IsSliceOf renaming new->YN
open PySem.Heap.SameBut renaming update->YO,refl->D68
open PySem.IsL renaming update->D71
open PySem.IsRange renaming new->SJ
open PySem.NameKind renaming free->I0,cell->Q7
open PySem.Obj renaming mapSeq->OS,data_mapFields->C15
open PySem.Paired renaming length->SX,snoc->BH
open PySem.PassesOwn renaming never->C59
open PySem.SeqAt renaming EqAt->EL
open PySem.SeqAt.EqAt renaming of_refs->BI,same->BJ,int_str->C07,str_int->C08,none_bool->D35,bool_none->D36,bool_bool->D37,none_int->D48,none_str->D49,bool_int->D50,bool_str->D51,int_none->D52,int_bool->D53,str_none->D54,str_bool->D55,int_int->D60,str_str->D61
open PySem.SeqAt.RcAt renaming lists_lengths->B31,tuples->C30,lists->C43
open PySem.SeqAt.RcNeAt renaming lists_lengths->C72,tuples->D56,lists->D63
open PySem.Shared renaming heap->Gx
open PySem.Str renaming ofString->C5,empty->yb,ofString_eq_toList->B61,length->SF
open PySem.Value renaming ref->F8,none->Y1,bool->Aw,int->Gw,str->Gv,builtin->BK,float->BL,isStrOf->C94,isInt->D31,bytes->D32,type->D58
open PySem.W renaming Frag->eM,findIn->ff,nsIn->fm,fnOf->fv,Frag->D17,OpenLaw->Sl
open PySem.W.WData renaming int->D72
open PySem.W.WShape renaming has->D62
open PySem.Walks renaming range->D33
open PySem.Within renaming cons->D64
open String renaming reduceEq->C4
open Sum renaming inl->M7,inr->Y6
open Sum.inl renaming inj->OT
open True renaming intro->R0
local macro_rules|`(tactic|omega)=>`(tactic|lia)
local macro_rules|`(())=>`(by omega)
local macro_rules|`(∅)=>`(by decide)
set_option hygiene false in
local macro_rules|`(tactic|simp? [$xs,*])=>`(tactic|(simp! [$xs,*]; repeat (simp only [Go]; simp! [$xs,*])))
set_option hygiene false in
local macro_rules|`(tactic|simp?)=>`(tactic|simp? [id])|`(tactic|simp!)=>`(tactic|simp! [id])|`(tactic|dsimp!)=>`(tactic|dsimp! [id])
set_option hygiene false in
local macro_rules|`($n <* $f <* $s)=>`(Ok P w mg base $n $f $s)
set_option hygiene false in
local macro_rules|`(¬$n:num)=>`(bH bF (ev $n) ax)
local macro_rules|`(#[])=>`(⟨⟩)|`(#[$xs,*])=>`(⟨$xs,*⟩)
local macro_rules|`(tactic|apply $e)=>`(tactic|refine $e)
theorem EX1{A}{p:A->Prop}{q:Prop}(x:∃a,p a)(k:∀a,p a->q):q:=let ⟨a,x⟩:=x;k a x
theorem EX2{A B}{p:A->B->Prop}{q:Prop}(x:∃a b,p a b)(k:∀a b,p a b->q):q:=let ⟨a,b,x⟩:=x;k a b x
theorem EX3{A B C}{p:A->B->C->Prop}{q:Prop}(x:∃a b c,p a b c)(k:∀a b c,p a b c->q):q:=let ⟨a,b,c,x⟩:=x;k a b c x
theorem EX4{A B C D}{p:A->B->C->D->Prop}{q:Prop}(x:∃a b c d,p a b c d)(k:∀a b c d,p a b c d->q):q:=let ⟨a,b,c,d,x⟩:=x;k a b c d x
theorem EX5{A B C D F}{p:A->B->C->D->F->Prop}{q:Prop}(x:∃a b c d e,p a b c d e)(k:∀a b c d e,p a b c d e->q):q:=let ⟨a,b,c,d,e,x⟩:=x;k a b c d e x
theorem EX6{A B C D F G}{p:A->B->C->D->F->G->Prop}{q:Prop}(x:∃a b c d e f,p a b c d e f)(k:∀a b c d e f,p a b c d e f->q):q:=let ⟨a,b,c,d,e,f,x⟩:=x;k a b c d e f x
theorem EX7{A B C D F G H}{p:A->B->C->D->F->G->H->Prop}{q:Prop}(x:∃a b c d e f g,p a b c d e f g)(k:∀a b c d e f g,p a b c d e f g->q):q:=let ⟨a,b,c,d,e,f,g,x⟩:=x;k a b c d e f g x
theorem AX2{a b q:Prop}(x:a/\b)(k:a->b->q):q:=let ⟨a,b⟩:=x;k a b
theorem AX3{a b c q:Prop}(x:a/\b/\c)(k:a->b->c->q):q:=let ⟨a,b,c⟩:=x;k a b c
theorem AX4{a b c d q:Prop}(x:a/\b/\c/\d)(k:a->b->c->d->q):q:=let ⟨a,b,c,d⟩:=x;k a b c d
theorem AX5{a b c d e q:Prop}(x:a/\b/\c/\d/\e)(k:a->b->c->d->e->q):q:=let ⟨a,b,c,d,e⟩:=x;k a b c d e
theorem AX6{a b c d e f q:Prop}(x:a/\b/\c/\d/\e/\f)(k:a->b->c->d->e->f->q):q:=let ⟨a,b,c,d,e,f⟩:=x;k a b c d e f
theorem AX7{a b c d e f g q:Prop}(x:a/\b/\c/\d/\e/\f/\g)(k:a->b->c->d->e->f->g->q):q:=let ⟨a,b,c,d,e,f,g⟩:=x;k a b c d e f g
theorem AX8{a b c d e f g h q:Prop}(x:a/\b/\c/\d/\e/\f/\g/\h)(k:a->b->c->d->e->f->g->h->q):q:=let ⟨a,b,c,d,e,f,g,h⟩:=x;k a b c d e f g h
theorem AX9{a b c d e f g h i q:Prop}(x:a/\b/\c/\d/\e/\f/\g/\h/\i)(k:a->b->c->d->e->f->g->h->i->q):q:=let ⟨a,b,c,d,e,f,g,h,i⟩:=x;k a b c d e f g h i
def gp:Nat->Lean.Term->Lean.MacroM (Lean.TSyntax `rcasesPat)
 |0,_=>Lean.Macro.throwUnsupported
 |n+1,t=>match t with
  |`(#[$xs,*])=>do let ys<-xs.getElems.mapM (gp n);`(rcasesPat|⟨$[$ys:rcasesPat],*⟩)
  |`(_)=>`(rcasesPat|_)
  |`($i:ident)=>`(rcasesPat|$i:ident)
  |_=>Lean.Macro.throwUnsupported
def gi(t:Lean.Term):Lean.MacroM (Lean.TSyntax `tactic):=do match t with
 |`(#[$_,*])=>`(tactic|intro $t:term)
 |_=>do let p<-gp 1 t;`(tactic|rintro $p)
def gx(e:Lean.Term)(xs:Array Lean.Term):Lean.MacroM (Lean.TSyntax `tactic):=do
 let n:=xs.size
 let c<-if e.raw.isIdent&&e.raw.getId.eraseMacroScopes.isAtomic then `(tactic|try clear $e) else `(tactic|skip)
 let o<-((List.range' 2 (min 8 (n-1))).map (0,·)++(List.range' 1 (min 7 (n-1))).map (1,·)).mapM fun (x,j)=>do
  let m:=j+x-1
  let k<-(xs.take m).mapM gi
  let a:=xs.drop m
  let z<-if a.size=1 then gi (a.getD 0 e) else `(tactic|intro #[$a,*])
  `(tacticSeq|refine $(Lean.mkIdent (.mkSimple s!"{if x=1 then 'E' else 'A'}X{j}")) $e ?_;$c;$[$k];*;$z)
 let p<-gp 9 (<-`(#[$xs,*]))
 let o:=(o.reverse++[<-`(tacticSeq|obtain $p:rcasesPat:=$e)]).toArray
 `(tactic|first $[|$o]*)
local macro_rules|`(tactic|let $p:term:=$e)=>do match p with
 |`(#[$xs,*])=>if xs.getElems.size<2 then do let p<-gp 9 p;`(tactic|obtain $p:rcasesPat:=$e) else gx e xs
 |_=>Lean.Macro.throwUnsupported
local macro_rules|`(tactic|intro $a $b $c*)=>`(tactic|(intro $a:term;intro $b $c*))
local macro_rules|`(tactic|intro $p:term)=>do match p with
 |`(#[$xs,*])=>if xs.getElems.size<2 then do let p<-gp 9 p;`(tactic|rintro $p) else do let h<-`(h0);let q<-gx h xs;`(tactic|(intro h0;$q))
 |_=>Lean.Macro.throwUnsupported
noncomputable section
local macro_rules(kind:=Lean.Parser.Command.declaration)|s=>do
 if (s[1].isOfKind ``Lean.Parser.Command.definition||s[1].isOfKind ``Lean.Parser.Command.abbrev)&&s[0][1].isNone then
  let q<-`(noncomputable def x:=0)
  let m:=s[0]
  for i in [0:m.getNumArgs] do if !q.raw[0][i].isNone && m[i].isNone then return s.setArg 0 (m.setArg i q.raw[0][i])
 if s.getPos?.isSome then return s.rewriteBottomUp (·.setInfo .none)
 Lean.Macro.throwUnsupported
set_option bootstrap.genMatcherCode false
namespace L2
open PySem PySem.Spec PyProof.Rows
abbrev lR:=Sum bz gq
def ET:lR->fx->cg
 | .inl k,v=>D31 k v| .inr x,v=>C94 x v
def ZH(w:hL):lR->bz
 | .inl k=>hashInt k| .inr x=>hashStr w x
def yn:∀{k:lR} {v:fx},ET k v=dS->(∃i t,k=M7 i/\v=Gw i t)\/(∃x t,k=Y6 x/\v=Gv x t)
 | .inl i,v,h=>by let#[t,e]:=Value.isInt_shape (k:=i) (v:=v) h;exact .inl #[i,t,rfl,e]| .inr x,v,h=>by let#[t,e]:=Value.isStrOf_shape (x:=x) (v:=v) h;exact .inr #[x,t,rfl,e]
def vk3(i:bz)(t:Tok):ET (.inl i) (.int i t)=dS:=by simp[ET,D31]
def vk2(x:gq)(t:Tok):ET (.inr x) (.str x t)=dS:=by simp[ET,C94]
def xf3(a b:bz):decide ((M7 a:lR)=M7 b)=(a==b):=by
 by_cases e:a=b
 .subst e;simp
 .have h:¬ (M7 a:lR)=M7 b:=λq=>e (OT q);rw[c7 h];exact(beq_eq_false_iff_ne.mpr e).M
def xf0(a b:gq):decide ((Y6 a:lR)=Y6 b)=decide (a=b):=by
 by_cases e:a=b
 .subst e;simp
 .have h:¬ (Y6 a:lR)=Y6 b:=λq=>e (Y6.inj q);rw[c7 h,c7 e]
def xf2(a:bz)(b:gq):decide ((M7 a:lR)=Y6 b)=eH:=c7 (λq=>nomatch q)
def xf1(a:gq)(b:bz):decide ((Y6 a:lR)=M7 b)=eH:=c7 (λq=>nomatch q)
def eW(prog:hH)(w:hL):PySem.KeyKind prog w lR where
 is:=ET
 hash:=ZH w
 inj:=λv a b o m=>by
  rcases yn o with⟨i,t,rfl,rfl⟩|⟨x,t,rfl,rfl⟩
  .rcases yn m with⟨j,u,rfl,e⟩|⟨y,u,rfl,e⟩
   .injection e with f _;rw[f]
   .exact nomatch e
  .rcases yn m with⟨j,u,rfl,e⟩|⟨y,u,rfl,e⟩
   .exact nomatch e
   .injection e with f _;rw[f]
 byValue:=λk v h=>by rcases yn h with⟨i,t,rfl,rfl⟩|⟨x,t,rfl,rfl⟩ <;> rfl
 pyHash:=λl h=>by
  rcases yn l with⟨i,t,rfl,rfl⟩|⟨x,t,rfl,rfl⟩
  .exact wpAny_pyHash_int h
  .exact wpAny_pyHash_str h
 eqBool:=λn l h=>by
  rcases yn n with⟨i,t,rfl,rfl⟩|⟨x,t,rfl,rfl⟩
  .rcases yn l with⟨j,u,rfl,rfl⟩|⟨y,u,rfl,rfl⟩
   .rw[xf3] at h;exact wpAny_eqBool_int h
   .rw[xf2] at h;exact C07 i t y u _ _ _ _ h
  .rcases yn l with⟨j,u,rfl,rfl⟩|⟨y,u,rfl,rfl⟩
   .rw[xf1] at h;exact C08 x t j u _ _ _ _ h
   .rw[xf0] at h;exact wpAny_eqBool_str h
 «strs»:=λk x t v h=>by
  rcases yn h with⟨i,u,rfl,e⟩|⟨y,u,rfl,e⟩
  .exact nomatch e
  .injection e with f _;subst f;cases v <;> rfl
def uz1(prog:hH)(w:hL)(i:bz)(t:Tok):(eW prog w).is (.inl i) (.int i t)=dS:=vk3 i t
def uz0(prog:hH)(w:hL)(x:gq)(t:Tok):(eW prog w).is (.inr x) (.str x t)=dS:=vk2 x t
inductive V where
 | non|bl (b:cg)|int (i:bz)|str (x:gq)|vm (b:dc UInt8)|yG (b:UInt64)|ref (a:fy)|ty (n:String)
 deriving DecidableEq
def RelV:V->fx->ck
 | .non,u=>u=Y1| .bl b,u=>u=Aw b| .int i,u=>∃t,u=Gw i t| .str x,u=>∃t,u=Gv x t| .vm b,u=>∃t,u=D32 b t| .yG b,u=>∃t,u=BL b t| .ref a,u=>u=F8 a| .ty n,u=>u=D58 n
abbrev Vals:bf V->bf fx->ck:=Paired RelV
theorem Vals.length{xs:bf V}{us:bf fx}(r:Vals xs us):xs.l=us.l:=SX r
theorem Vals.get:∀{xs:bf V} {us:bf fx} {i:br} {x:V},Vals xs us->xs[i]?=du x->∃u,us[i]?=du u/\RelV x u
 | _,_,_,_,.nil,e=>by simp at e| _,_,0,_,.cons r _,e=>by simp at e;subst e;exact#[_,rfl,r]| _,_,i+1,x,.cons _ t,e=>by let#[u,g,f]:=Vals.get (i:=i) (x:=x) t (by simpa using e);exact#[u,by simpa using g,f]
theorem Vals.set(r:RelV x u):∀{xs:bf V} {us:bf fx} (i:br),Vals xs us->Vals (xs.I i x) (us.I i u)
 | _,_,_,.nil=>.nil| _,_,0,.cons _ t=>.cons r t| _,_,i+1,.cons q t=>.cons q (Vals.set r i t)
theorem Vals.append:∀{xs ys:bf V} {us f:bf fx},Vals xs us->Vals ys f->Vals (xs++ys) (us++f)
 | _,_,_,_,.nil,s=>s| _,_,_,_,.cons r t,s=>.cons r (Vals.append t s)
theorem Vals.take:∀{xs:bf V} {us:bf fx} (n:br),Vals xs us->Vals (xs.fh n) (us.fh n)
 | _,_,0,_=>.nil| _,_,_+1,.nil=>.nil| _,_,n+1,.cons r t=>.cons r (Vals.take n t)
theorem Vals.drop:∀{xs:bf V} {us:bf fx} (n:br),Vals xs us->Vals (xs.G n) (us.G n)
 | _,_,0,r=>r| _,_,_+1,.nil=>.nil| _,_,n+1,.cons _ t=>Vals.drop n t
def Vals.none_of:∀{xs:bf V} {us:bf fx} {i:br},Vals xs us->xs[i]?=dv->us[i]?=dv:=λ{xs us i} r e=>by let g:=r.l;let f:xs.l<=i:=Gd.mp e;exact Gd.mpr ()
def d8:b0 V->b0 fx->ck
 | some v,du u=>RelV v u| none,dv=>dm| _,_=>b8
def KV{κ:Type}:bf (κ×V)->bf (κ×fx)->ck:=Paired λ(p:κ×V) (q:κ×fx)=>p.1=q.1/\RelV p.2 q.2
def kV:lR->V
 | .inl i=>.int i| .inr x=>.str x
section
variable{prog:hH}{w:hL}{K:Type}[DecidableEq K](knd:KeyKind prog w K)
def cI(h:hR)(q:bf K×bf K)(a:fy):ck:=∃o items n b f,h.r a=du o/\o.cls=.type "tuple" /\ o.data=.seq items n/\items.L=F8 b::f/\IsTupleKey knd h q.1 b/\ItemsAre knd q.2 f
def Yd(q:bf K×bf K):bz:=reduceHash (zV (tupleKeyHash knd q.1::q.2.t knd.hash))
variable{knd}
def cI.typeIs{s:fC}{q:bf K×bf K}{a:fy}(x:cI knd s.o q a):s.TypeIs (.ref a) "tuple" := let ⟨o,_,_,_,_,f,g,_⟩:=x;#[o,f,g]
theorem cI.inj{h:hR}{a:fy}{x y:bf K×bf K}(q:cI knd h x a)(p:cI knd h y a):x=y:=by let#[o,items,n,b,C,r,_,u,t,B,A]:=q;let#[l,G,E,b',j,m,_,g,f,k,i]:=p;obtain rfl:o=l:=E8 (r.M.u m);rw[u] at g;injection g with e _;subst e;rw[t] at f;cases f;exact Av (B.inj k) (A.inj i)
theorem cI.keeps{y ep}(x:cI knd h q a)(k:h.r d=du o)(l:o.data=.dict y ep)(j:V4 d h h'):cI knd h' q a:=by
 let#[g,items,n,b,m,i,r,f,p,u,t]:=x;let A:a≠d:=by rintro rfl;obtain rfl:g=o:=E8 (i.M.u k);rw[l] at f;exact nomatch f
 exact#[g,items,n,b,m,(j.2 a A).u i,r,f,p,u.keeps k l j,t]
variable{A:iC}{E:fx->fC->ck}{s:fC}
def uf5(y:A.ga+1<cLine)(B:cI knd s.o q a)(h:Q (Yd knd q) { s with toks:=s.H+(q.1.l+1+q.2.l+1)}): i3 (model prog w) A (pyHash (.ref a)) Q E s:=by
 let l:=B.B;let#[m,p]:=q;let#[o,items,n,b,C,G,_,I,g,H,hi]:=B;unfold pyHash;first|unfold pyHashByItsType|skip
 first|apply B5 (wpAny_cRoomFor_or (.inr (Nw y)) ?_)|skip
 apply B5 (Pf l F.slot_tuple_hash.q ?_);show i3 _ _ (if(du (BK "tuple.__hash__")==du Y1)=dS then _ else _) Q E s;rw[cp (by rw[beq_builtin_none];exact D1)];apply B5 (Pf l F.slot_tuple_hash.q ?_);show i3 _ _ (callSpecialIfBoundUnlessNone? (.ref a) "__hash__" _ >>= _) Q E s;apply B5 (wpAny_callSpecialIfBoundUnlessNone?_slot l F.slot_tuple_hash (Q3 F.slot_tuple_hash l F.entry_tuple_hash ?_ (F.args_tuple_hash_1 _)));show i3 _ _ (RT (.ref a) >>= _) _ _ s;apply B5 (vU G I ?_);apply B5 ?_;rw[<- Z4];apply Ti _
  (λrest (r:dc bz) i=>(rest=F8 b::C/\r.L=[]/\i=s)\/∃done left,p=done++left/\ItemsAre knd left rest/\r.L=tupleKeyHash knd m::done.t knd.hash/\i={ s with toks:=s.H+(m.l+1)+done.l})
  _ ?_ ?_ _ _ (.inl ⟨g,rfl,rfl⟩)
 .rintro x rest r i (⟨e,f,rfl⟩|⟨done,left,rfl,g,j,rfl⟩)
  .cases e;apply B5 (wpAny_pyHash_tuple (knd:=knd) y H ?_);first
    | exact C8 (.inr ⟨[],p,rfl,hi,by simp[f],rfl⟩)
    | exact B5 (C8 (C8 (.inr ⟨[],p,rfl,hi,by simp[f],rfl⟩)))
  .cases g with
   | @cons k _ t _ J u =>
    apply B5 (knd.pyHash J ?_);first
     | exact C8 (.inr ⟨done++[k],t,by simp,u,by simp[j],by simp[K6]⟩)
     | exact B5 (C8 (C8 (.inr ⟨done++[k],t,by simp,u,by simp[j],by simp[K6]⟩)))
 .rintro r i (⟨e,_,_⟩|⟨done,left,rfl,g,j,rfl⟩)
  .cases e
  .cases g;rw[D7] at h;show i3 _ _ (retInt (zV r.L)) _ _ _;rw[j];apply wpAny_ret_mkInt ?_;generalize hN:zV (tupleKeyHash knd m::done.t knd.hash)=N;show i3 _ _ (if(decide (-(2:bz)^63<=N)&&decide (N<2^63))=dS then _ else _) Q E _;unfold Yd reduceHash at h;rw[hN] at h;by_cases f:(decide (-(2:bz)^63<=N)&&decide (N<2^63))=dS
   .rw[cu f];rw[cu f] at h;exact C8 (by simpa[K6] using h)
   .rw[cp f];rw[cp f] at h;exact B5 (EK (C8 (by simpa[K6] using h)))
def uv1{P:Q'->fC->ck}(hu:A.ga<cLine)(hx:cI knd s.o x a)(hy:cI knd s.o y b)(h:P (.done (.ret (.bool (decide (x=y))))) s): i3 (model prog w) A (Builtin.«tuple.__eq__» #[[.ref a,.ref b],[]]) P E s:=by
 let hTb:=hy.B;let#[m,k]:=x;let#[B,i]:=y;let#[oa,xs,na,ba,q,X,_,hda,G,Z,hia]:=hx;let#[ob,j,nb,bb,p,U,_,i5,C,Y,hib]:=hy;show i3 _ _ (x4 (.ref b) (.type "tuple") >>= _) _ _ s;apply B5 (Pk hTb vu ?_);simp only[V6,K8,if_false];apply B5 (vU X hda ?_);apply B5 (vU U i5 ?_);apply B5 ?_;let ZT:Sx xs.L j.L=(F8 ba,F8 bb)::Sx q p:=by rw[G,C];rfl
 let R:(xs.v==j.v)=(q.l==p.l):=by
  let e1:xs.v=q.l+1:=by rw[<- L4,G];rfl
  let e2:j.v=p.l+1:=by rw[<- L4,C];rfl
  rw[e1,e2];simp
 apply Ti _
  (λrest r N=>r.1=dv/\N=s/\(rest=(F8 ba,F8 bb)::Sx q p\/∃M L t I,rest=Sx t I/\ItemsAre knd M t/\ItemsAre knd L I/\decide (M=L)=decide ((m,k)=(B,i))/\(t.l==I.l)=(xs.v==j.v)))
  _ ?_ ?_ _ _ #[rfl,rfl,.inl ZT]
 .rintro⟨u,v⟩ rest r N ⟨S,rfl,e|⟨M,L,t,I,l,Q,O,J,f⟩⟩
  .cases e;apply B5 (wpAny_eqBool_tuple (knd:=knd) hu Z Y ?_);by_cases g:m=B
   .subst g;rw[cA rfl];simp only[V6,K8,if_false];apply C8 #[rfl,rfl,.inr #[k,i,q,p,rfl,hia,hib,?_,R.M]];by_cases H:k=i
    .simp[H]
    .simp[H]
   .rw[c7 g];simp only[oG,if_true];let hf:decide ((m,k)=(B,i))=eH:=by simp[g]
    rw[hf] at h;exact B5 (C8 (C8 (C8 h)))
  .cases Q with
   | nil=>simp at l| @cons k1 u' o Uo h1 ZV =>
    cases O with
    | nil=>simp at l| @cons k2 v' n Ub h2 ZU =>
     simp only[Q8,W6,OE] at l;let#[#[rfl,rfl],rfl]:=l;apply B5 (knd.eqBool (a:=k1) (b:=k2) h1 h2 ?_);by_cases g:k1=k2
     .subst g;rw[cA rfl];simp only[V6,K8,if_false];apply C8 #[rfl,rfl,.inr #[o,n,Uo,Ub,rfl,ZV,ZU,?_,by simpa using f]];rw[<- J];by_cases H:o=n
      .simp[H]
      .simp[H]
     .rw[c7 g];simp only[oG,if_true];let hf:decide ((m,k)=(B,i))=eH:=by rw[<- J];simp[g]
      rw[hf] at h;exact B5 (C8 (C8 (C8 h)))
 .rintro⟨r1,r2⟩ N ⟨S,rfl,e|⟨M,L,t,I,l,Q,O,J,f⟩⟩
  .cases e
  .simp only at S;subst S;apply C8 ?_;let uy:(xs.v==j.v)=decide ((m,k)=(B,i)):=by
    rw[<- J,<- f];cases Q with
    | nil =>
     cases O with
     | nil=>simp| cons _ _=>simp
    | cons _ _ =>
     cases O with
     | nil=>simp| cons _ _=>simp at l
   show P (.done (.ret (.bool (xs.v==j.v)))) N;rw[uy];exact h
def uf6(j:A.ga+1<cLine)(f:cI knd s.o x a)(i:cI knd s.o y b)(h:Q (decide (x=y)) s): i3 (model prog w) A (eqBool (.ref a) (.ref b)) Q E s:=by
 unfold eqBool;try with_reducible apply O0 ?_
 show i3 _ _ (if(F8 a==F8 b)=dS then _ else _) Q E s;by_cases g:(F8 a==F8 b)=dS
 .rw[cu g];let e:a=b:=by let:=eq_of_beq g;injection this
  subst e;obtain rfl:=f.inj i;exact B5 (EK (C8 (by simpa using h)))
 .rw[cp g];exact B5 (wpAny_richCompare_same_room (op:=.Eq) f.B i.B F.slot_tuple_eq
   (Q3 F.slot_tuple_eq f.B F.entry_tuple_eq (uv1 j f i #[_,rfl,(λe=>nomatch e),U9 h]) (F.args_tuple_eq_2 _ _)) (Nw j))
def uf4(j:IsTupleKey knd s.o ks a)(h:Q dS s):i3 (model prog w) A (Sz (n+1) (.ref a)) Q E s:=by
 let k:=j.B;let#[o,items,n,l,_,m,hi]:=j;unfold Sz;apply B5 (Pf k F.slot_tuple_eq.q ?_);show i3 _ _ (x4 (.ref a) (.type "tuple") >>= _) _ _ s;apply B5 (Pk k vu ?_);simp only[V6,K8,if_false];apply B5 (N6 l m ?_);apply B5 ?_;show i3 _ _ (forIn items _ _) _ _ s;rw[<- Z4];apply Ti _ (λrest r f=>r.1=dv/\f=s/\∀v∈rest,carriedByValue v=dS) _ ?_ ?_ _ _ #[rfl,rfl,hi.byValue]
 .intro v rest r f #[g,rfl,i];rw[eqIsQuiet_byValue _ (i v D0)];apply B5 (C8 ?_);simp only[V6,K8,if_false];exact C8 #[rfl,rfl,λu p=>i u (C2 _ p)]
 .rintro⟨t,q⟩ f ⟨g,rfl,_⟩;simp only at g;subst g;exact C8 h
def uh6(i:cI knd s.o q a)(h:Q dS s):i3 (model prog w) A (Sz 8 (.ref a)) Q E s:=by
 let j:=i.B;let#[o,items,n,b,k,l,_,t,p,m,hi]:=i;unfold Sz;apply B5 (Pf j F.slot_tuple_eq.q ?_);show i3 _ _ (x4 (.ref a) (.type "tuple") >>= _) _ _ s;apply B5 (Pk j vu ?_);simp only[V6,K8,if_false];apply B5 (N6 l t ?_);apply B5 ?_;show i3 _ _ (forIn items _ _) _ _ s;rw[<- Z4];apply Ti _ (λrest r f=>r.1=dv/\f=s/\(rest=F8 b::k\/∀v∈rest,carriedByValue v=dS)) _ ?_ ?_ _ _ #[rfl,rfl,.inl p]
 .rintro v rest r f ⟨g,rfl,e|r_⟩
  .cases e;apply B5 (uf4 (knd:=knd) m ?_);simp only[V6,K8,if_false];exact C8 #[rfl,rfl,.inr hi.byValue]
  .rw[eqIsQuiet_byValue _ (r_ v D0)];apply B5 (C8 ?_);simp only[V6,K8,if_false];exact C8 #[rfl,rfl,.inr λu x=>r_ u (C2 _ x)]
 .rintro⟨B,y⟩ f ⟨g,rfl,_⟩;simp only at g;subst g;exact C8 h
end
def CN{prog:hH}{w:hL}{K:Type}[DecidableEq K](knd:KeyKind prog w K):HeapKind prog w (bf K×bf K) where
 is:=cI knd
 hash:=Yd knd
 draws:=λq=>q.1.l+1+q.2.l+1
 room:=λA=>A.ga+1<cLine
 inj:=λi g=>i.inj g
 keeps:=λx n o m=>x.keeps n o m
 pyHash:=λj k h=>uf5 j k h
 eqBool:=λj i g h=>uf6 j i g h
 quiet:=λk h=>uh6 k h
inductive HO where
 | lst (xs:bf V)
 | tup (xs:bf V)
 | dK (kvs:bf (lR×V))|dT (kvs:bf (bf lR×V))
 | dN (K:eM) (kvs:bf ((bf lR×bf lR)×V))
 | set (S:bz->cg) (n:br)
 | ins (C i:fy) (g:bf (gq×V))
 | own (x:fy)
 | xd (g:bf (gq×V))
 | met (f x:fy)
 | FJ (lo hi:bz)
 | dR (o:jC) (u:HO)
 | AX (ps:dc fx)
 | ext (h:hR->ck)
abbrev Hp:=fy->b0 HO
def l6(H:Hp)(a:fy)(o:HO):Hp:=λb=>if b=a then du o else H b
def iL:l6 H a o a=du o:=by unfold l6;rw[cu rfl]
def dj(h:b≠a):l6 H a o b=H b:=by unfold l6;rw[cp h]
def UI{H:Hp}{a b:fy}{o u:HO}(h:H a=du o)(h':H b=du u)(d:o≠u):a≠b:=by intro e;subst e;rw[h] at h';exact d (E8 h')
def zj{H:Hp}{a b:fy}{o:HO}(h:H a=du o)(h':H b=dv):a≠b:=by intro e;subst e;rw[h] at h';cases h'
def yJ(K:eM)(H:Hp)(a:fy)(xs:bf V):ck:=H a=du (.tup xs)\/(∃o,H a=du (.dR o (.tup xs))) \/
 ∃(o:jC) (its:dc fx) (n:br),K.q a=du o/\o.cls=.type "tuple" /\ o.data=.seq its n/\its.v<=iZ/\Vals xs its.L/\o.dict=dv
def BE(K:eM)(H:Hp)(a:fy)(q:bf lR×bf lR):ck:=∃b,yJ K H a (.ref b::q.2.t kV)/\yJ K H b (q.1.t kV)
def yJ.gw{K:eM}{H f:Hp}{a:fy}{xs:bf V}(x:yJ K H a xs)(g:∀b xs,H b=du (.tup xs)->f b=du (.tup xs))(h:∀b o xs,H b=du (.dR o (.tup xs))->f b=du (.dR o (.tup xs))):yJ K f a xs:=by
 rcases x with x|⟨o,x⟩|x
 .exact .inl (g _ _ x)
 .exact .inr (.inl ⟨o,h _ _ _ x⟩)
 .exact .inr (.inr x)
section
variable(P:hH)(w:hL)
def qr(h:hR)(a:fy)(its:dc fx):ck:=∃o,h.r a=du o/\o.cls=.type "tuple" /\ (∃n,o.data=.seq its n)/\o.dict=dv
def qr.tup{h:hR}{a:fy}{its:dc fx}(x:qr h a its):IsTup h a its:=let ⟨o,e,c,d,_⟩:=x;#[o,e,c,d]
def qr.new(h:hR)(its:dc fx):qr (h.R { cls:=.type "tuple",data:=.seq its}) h.h.v its:=#[_,E7 _ rfl,rfl,#[_,rfl],rfl]
def bC(H:Hp)(h:hR)(a:fy):HO->ck
 | .lst xs=>xs.l<=iZ/\∃(its:bf fx) (n:br),Vals xs its/\h.r a=du { cls:=.type "list",data:=.seq its.e n}| .tup xs=>xs.l<=iZ/\∃its:bf fx,Vals xs its/\qr h a its.e| .dK kvs=>kvs.l<=iZ/\(a==R8)=eH/\∃y,KV kvs y/\h.DictOf (eW P w) a y| .dT kvs=>kvs.l<=iZ/\(a==R8)=eH/\∃xs:bf (bf lR×fy×fx),
   Paired (λ(p:bf lR×V) (q:bf lR×fy×fx)=>p.1=q.1/\H q.2.1=du (.tup (p.1.t kV))/\RelV p.2 q.2.2) kvs xs /\
   ∃o j r,h.r a=du o/\o.ExactDict/\o.data=.dict j r/\j.L=xs.t (entryOfKey (Gu (eW P w)))/\(xs.t (·.1)).Nodup
 | .dN K kvs=>kvs.l<=iZ/\(a==R8)=eH/\∃xs:bf ((bf lR×bf lR)×fy×fx),
   Paired (λ(p:(bf lR×bf lR)×V) (q:(bf lR×bf lR)×fy×fx)=>p.1=q.1/\BE K H q.2.1 p.1/\RelV p.2 q.2.2) kvs xs /\
   ∃o j r,h.r a=du o/\o.ExactDict/\o.data=.dict j r/\j.L=xs.t (entryOfKey (CN (eW P w)))/\(xs.t (·.1)).Nodup
 | .set S n=>h.SetOf (intKind P w) a S n| .ins C l i=>H l=du (.own a)/\i.l<=1000/\l≠a/\h.r a=du (W.instObj C l) /\
   ∃g,h.Ns1 l g/\(∀f,d8 (i.q f) (g f))/\xH g (i.t (·.1))
 | .own _=>∃o,h.r a=du o| .xd i=>∃g,h.Ns1 a g/\∀f,d8 (i.q f) (g f)| .FJ lo hi=>∃t u v,h.r a=du { cls:=.type "range",data:=.fields [.int lo t,.int hi u,.int 1 v].e}| .dR o u=>h.r a=du o/\bC H h a u| .AX E=>h.r a=du { cls:=.none,data:=.fields E}| .met f x=>h.r a=du (W.methodObj (.ref f) (.ref x))| .ext m=>m h/\(∃o,h.r a=du o)/\∀B A:hR,m B->(∀o,B.r a=du o->A.r a=du o)->m A
def gP(H:Hp)(h:hR):ck:=∀a o,H a=du o->bC P w H h a o
end
section
variable{P:hH}{w:hL}{H H':Hp}{h h':hR}{a:fy}{o:HO}
theorem bC.lt(x:bC P w H h a o):a<h.h.v:=by
 cases o with
 | lst xs=>let#[_,_,_,_,e]:=x;exact E4 e| tup xs=>let#[_,_,_,p]:=x;exact p.tup.lt| dK kvs=>let#[_,_,_,_,o,_,_,e,_]:=x;exact E4 e| dT kvs=>let#[_,_,_,_,o,_,_,e,_]:=x;exact E4 e| dN K kvs=>let#[_,_,_,_,o,_,_,e,_]:=x;exact E4 e| set S n=>let#[o,_,_,_,e,_]:=x;exact E4 e| ins C k fs=>let#[_,_,_,e,_]:=x;exact E4 e| own y=>let#[_,e]:=x;exact E4 e| xd fs=>let#[_,#[_,_,_,e,_],_]:=x;exact E4 e| FJ lo hi=>let#[_,_,_,e]:=x;exact E4 e| dR j u=>let#[e,_]:=x;exact E4 e| AX i=>exact E4 (show h.r a=du _ from x)| met f y=>exact E4 (show h.r a=du _ from x)| ext g=>let#[_,#[_,e],_]:=x;exact E4 e
theorem Paired.vP{j i:Type}{F G:j->i->ck}:∀{l₁:bf j} {g:bf i},Paired F l₁ g->(∀a b,F a b->G a b)->Paired G l₁ g
 | _,_,.nil,_=>.nil| _,_,.cons r t,f=>.cons (f _ _ r) (Paired.vP t f)
theorem bC.gw(x:bC P w H h a o)(k:∀b u,(b=a\/H b=du (.own a))->h.r b=du u->h'.r b=du u) (J:∀b,H b=du (.own a)->H' b=du (.own a)) (m:∀b xs,H b=du (.tup xs)->H' b=du (.tup xs)) (E:∀b o xs,H b=du (.dR o (.tup xs))->H' b=du (.dR o (.tup xs)):=by first|exact λ_ _ _ q=>q|exact λ_ _ _ q=>by rw[dj (zj q (by assumption))];exact q):bC P w H' h' a o:=by
 induction o with
 | lst xs=>let#[z,its,n,r,e]:=x;exact#[z,its,n,r,k _ _ (.inl rfl) e]| tup xs=>let#[z,its,r,g,e,c]:=x;exact#[z,its,r,g,k _ _ (.inl rfl) e,c]| dK kvs=>let#[z,y,G,r,g,i,j,e,c]:=x;exact#[z,y,G,r,g,i,j,k _ _ (.inl rfl) e,c]| dT kvs =>let#[z,y,xs,r,g,i,j,e,c]:=x;exact#[z,y,xs,Paired.vP r λp q z=>#[z.1,m _ _ z.2.1,z.2.2],g,i,j,k _ _ (.inl rfl) e,c]| dN K kvs =>let#[z,y,xs,r,g,i,j,e,c]:=x;exact#[z,y,xs,Paired.vP r λp q z=>#[z.1,let ⟨b,M,L⟩:=z.2.1;#[b,M.gw m E,L.gw m E],z.2.2],g,i,j,k _ _ (.inl rfl) e,c]| set S n=>let#[g,i,j,t,e,c]:=x;exact#[g,i,j,t,k _ _ (.inl rfl) e,c]| ins C Q fs =>let#[d,z,ne,e,l,#[od,i,j,N,c],r]:=x;exact#[J _ d,z,ne,k _ _ (.inl rfl) e,l,#[od,i,j,k _ _ (.inr d) N,c],r]| own y=>let#[g,e]:=x;exact#[g,k _ _ (.inl rfl) e]| xd fs=>let#[l,#[od,i,j,e,c],r]:=x;exact#[l,#[od,i,j,k _ _ (.inl rfl) e,c],r]| FJ lo hi=>let#[t,u,v,e]:=x;exact#[t,u,v,k _ _ (.inl rfl) e]| dR g u I=>let#[e,q]:=x;exact#[k _ _ (.inl rfl) e,I q]| AX B =>let e:h.r a=du { cls:=.none,data:=.fields B}:=x;show h'.r a=du { cls:=.none,data:=.fields B};exact k a _ (.inl rfl) e| met f y =>let e:h.r a=du (W.methodObj (.ref f) (.ref y)):=x;show h'.r a=du (W.methodObj (.ref f) (.ref y));exact k a _ (.inl rfl) e| ext O=>let#[p,#[o,e],st]:=x;exact#[st _ _ p λo q=>k _ _ (.inl rfl) q,#[o,k _ _ (.inl rfl) e],st]
theorem gP.lt(x:gP P w H h)(e:H a=du o):a<h.h.v:=(x a o e).lt
def gP.fresh(x:gP P w H h)(e:h.h.v<=a):H a=dv:=by
 cases q:H a with
 | none=>rfl| some u=>exact cz (C9 (x.lt q) e) (EO _)
def gP.kept(x:gP P w H h)(k:∀b u,h.r b=du u->h'.r b=du u):gP P w H h':=λa o e =>
 (x a o e).gw (λb u _ q=>k b u q) (λ_ q=>q) λ_ _ q=>q
def gP.laid(x:gP P w H h)(k:∀b u,h.r b=du u->h'.r b=du u)(i:h.h.v<=a)(new:bC P w (l6 H a o) h' a o):gP P w (l6 H a o) h':=λb u e=>by
 let f:=x.y i;by_cases g:b=a
 .subst g;rw[iL] at e;cases e;exact new
 .rw[dj g] at e;exact(x b u e).gw (λc v _ q=>k c v q) (λc q=>by rw[dj (zj q f)];exact q) λc xs q=>by rw[dj (zj q f)];exact q
end
def Rd(H:Hp)(a:fy)(u:HO):ck:=H a=du u\/∃o,H a=du (.dR o u)
def Rd.of{H:Hp}{a:fy}{u:HO}(h:H a=du u):Rd H a u:=.inl h
def Rd.ok{P:hH}{w:hL}(r:Rd H a u)(x:gP P w H h):bC P w H h a u:=by
 rcases r with r|⟨o,r⟩
 .exact x a u r
 .let#[_,q]:=x a _ r;exact q
def Mf:b0 HO->ck
 | some (.lst _)=>dm| some (.dK _)=>dm| some (.dT _)=>dm| some (.dN _ _)=>dm| some (.set _ _)=>dm| some (.ins _ _ _)=>dm| some (.ext _)=>dm| _=>b8
section
variable{P:hH}{w:hL}{H:Hp}{h h':hR}{x e:fy}{o':HO}
def gP.write(ok:gP P w H h)(f:Mf (H x))(l:e=x\/H e=du (.own x))(k:∀b u,b≠e->h.r b=du u->h'.r b=du u)(t:∃u,h'.r e=du u) (new:bC P w (l6 H x o') h' x o'):gP P w (l6 H x o') h':=λb u q=>by
 let m:∀c y,H c=du (.own y)->c≠x:=λc y r z=>by subst z;rw[r] at f;exact f
 let p:∀c xs,H c=du (.tup xs)->c≠x:=λc xs r z=>by subst z;rw[r] at f;exact f
 by_cases g:b=x
 .subst g;rw[iL] at q;cases q;exact new
 .rw[dj g] at q;by_cases i:b=e
  .have j:H b=du (.own x):=by
    rcases l with z|z
    .exact cz (i.u z) g
    .rw[i];exact z
   rw[q] at j;cases j;let#[v,n]:=t;exact#[v,by rw[i];exact n]
  .apply(ok b u q).gw (λc v hc r=>k c v ?_ r) (λc r=>by rw[dj (m c b r)];exact r) (λc xs r=>by rw[dj (p c xs r)];exact r) λc o xs r=>by rw[dj (λz=>by rw[z] at r;rw[r] at f;exact f)];exact r
   rcases hc with rfl|hc
   .exact i
   .rintro rfl;rcases l with z|z
    .exact m c b hc z
    .rw[hc] at z;cases z;exact g rfl
end
def NK:={ u:HO // ∀f,u≠.dK f}
structure Un(fs ex:bf fy)(H H':Hp)(h h':hR):Prop where
 keep:∀b o,h.r b=du o->H b=dv->b∉fs->b∉ex->h'.r b=du o
 slot:∀b o,h.r b=du o->H b=dv->b∈fs->b∉ex->∃sl,h'.r b=du { o with slots:=sl}
 free:∀b o,h.r b=du o->H b=dv->b∉ex->H' b=dv
 there:∀b o,h.r b=du o->b∉ex->∃o',h'.r b=du o'
 f_:∀b xs,H b=du (.tup xs)->H' b=du (.tup xs)
 eC:∀b o (u:NK),H b=du (.dR o u.1)->H' b=du (.dR o u.1)
 jw:∀b ps,H b=du (.AX ps)->∃more,H' b=du (.AX (ps++more))
section
variable{fs jV ex ex':bf fy}{H H1 H2:Hp}{h h1 h2 h':hR}{a x e:fy}{o:HO}
def Un.any(u:Un fs ex H H1 h h1){b:fy}{ob:jC}(q:h.r b=du ob)(n:H b=dv)(f:b∉ex):∃i,h1.r b=du { ob with slots:=i}:=by
 by_cases g:b∈fs
 .exact u.slot b ob q n g f
 .exact⟨ob.slots,u.keep b ob q n g f⟩
def Un.trans(a:Un fs ex H H1 h h1)(b:Un fs ex H1 H2 h1 h2):Un fs ex H H2 h h2 where
 keep:=λc f q n j g=>b.keep c f (a.keep c f q n j g) (a.free c f q n g) j g
 slot:=λc f q n j g=>by let#[u,i]:=a.slot c f q n j g;let#[t,l]:=b.slot c _ i (a.free c f q n g) j g;exact#[t,l]
 free:=λc f q n g=>by let#[k,i]:=a.there c f q g;exact b.free c k i (a.free c f q n g) g
 there:=λc f q g=>by let#[k,i]:=a.there c f q g;exact b.there c k i g
 f_:=λc xs q=>b.f_ c xs (a.f_ c xs q)
 eC:=λc f xs q=>b.eC c f xs (a.eC c f xs q)
 jw:=λc m q=>by let#[r,i]:=a.jw c m q;let#[p,l]:=b.jw c _ i;exact#[r++p,by rw[l,Dp]]
def Un.kept(k:∀b u,h.r b=du u->h'.r b=du u):Un fs ex H H h h':=#[λb f q _ _ _=>k b f q,λb f q _ _ _=>#[f.slots,k b f q],λ_ _ _ n _=>n,λb f q _=>#[f,k b f q],λ_ _ q=>q,λ_ _ _ q=>q,λ_ g q=>#[[].e,by rw[q];simp]]
def Un.refl:Un fs ex H H h h:=Un.kept λ_ _ q=>q
def Un.laid(k:∀b u,h.r b=du u->h'.r b=du u)(g:h.h.v<=a)(f:H a=dv):Un fs ex H (l6 H a o) h h' where
 keep:=λb u q _ _ _=>k b u q
 slot:=λb u q _ _ _=>#[u.slots,k b u q]
 free:=λb u q n _=>by rw[dj (J7 (C9 (E4 q) g))];exact n
 there:=λb u q _=>#[u,k b u q]
 f_:=λb xs q=>by rw[dj (zj q f)];exact q
 eC:=λb u xs q=>by rw[dj (zj q f)];exact q
 jw:=λb i q=>#[[].e,by rw[dj (zj q f),q];simp]
def Un.write(f:Mf (H x))(p:e=x\/H e=du (.own x))(k:∀b u,b≠e->h.r b=du u->h'.r b=du u)(t:∃u,h'.r e=du u):Un fs ex H (l6 H x o) h h':=by
 let i:∀b,H b=dv->b≠x:=λb n z=>by subst z;rw[n] at f;exact f
 let j:∀b,H b=dv->b≠e:=λb n z=>by
  subst z;rcases p with r|r
  .exact i b n r
  .rw[n] at r;cases r
 let g:∀b u,H b=du u->¬ Mf (du u)->b≠x:=λb u q m z=>by subst z;rw[q] at f;exact m f
 apply#[λb u q n _ _=>k b u (j b n) q,λb u q n _ _=>#[u.slots,k b u (j b n) q],λb u q n _=>by rw[dj (i b n)];exact n,λb u q _=>?_,
  λb xs q=>by rw[dj (g b _ q λz=>z)];exact q,λb u xs q=>by rw[dj (g b _ q λz=>z)];exact q,λb y q=>#[[].e,by rw[dj (g b _ q λz=>z),q];simp]]
 by_cases l:b=e
 .subst l;exact t
 .exact#[u,k b u l q]
def Un.mono(u:Un fs ex H H1 h h1)(j:∀b∈fs,b∈jV)(i:∀b∈ex,b∈ex'):Un jV ex' H H1 h h1:=#[λb g q n k f=>u.keep b g q n (λz=>k (j b z)) λz=>f (i b z),λ_ _ q n _ f=>u.any q n λz=>f (i _ z),λb g q n f=>u.free b g q n λz=>f (i b z),λb g q f=>u.there b g q λz=>f (i b z),u.f_,u.eC,u.jw]
end
def Rh(h:hR)(H:Hp):bf fy:=(D3 h.h.v).filter λa=>(H a).fg
def nB(h:hR)(H:Hp):hR:=W.hideAll h (Rh h H)
def vl5(h:hR)(H:Hp):(nB h H).h.v=h.h.v:=W.hideAll_size _ _
def vy0{h:hR}(e:h.r b=du o)(n:H b=dv):(nB h H).r b=du o:=W.hideAll_get _ e λf=>by let q:(H b).fg=dS:=(GG.mp f).2;rw[n] at q;simp at q
def wo6(e:(nB h H).r b=du o):h.r b=du o/\H b=dv:=by
 let f:h.r b=du o:=W.of_hideAll (Rh h H) e;apply#[f,?_];cases q:H b with
 | none=>rfl| some x =>let g:b∈Rh h H:=GG.mpr #[K0.mpr (E4 f),by simp[q]];let z:(nB h H).r b=dv:=W.hideAll_none (Rh h H) g;rw[z] at e;cases e
def wv6(g h:hR)(L:fy):bf (fy×jC):=(D3 h.h.v).filterMap λa=>if a=L\/(g.r a).fg=dS then dv else(h.r a).t λo=>(a,o)
def rest(g h:hR)(L d:fy):bf (fy×jC):=(wv6 g h L).filter λp=>decide (p.1≠d)
structure Mod(K:eM)(mg:gq->b0 fx)(base:hR):Prop where
 Kx:K.In base
 glob:base.Ns J5 mg
 blt:∃mb,base.Ns SE mb/\∀x:gq,x ≠ "__name__" -> mb x=R9 x
 nolimit:base.NoLimit
structure Cx where
 prog:hH
 w:hL
 K:eM
 mg:gq->b0 fx
 base:hR
 A:iC
 N:bf gq
 s₀:fC
 H₀:Hp
 env:Env
 outer:bf Env
 stack:bf Env
 ex:bf fy
 fn:gq->cg
 calm:cg
 pn:bf (fy×jC)
 xe:fx->fC->ck
def uA(l:bf Env):bf fy:=l.filterMap (·.frame)
abbrev Cx.fs(X:Cx):bf fy:=uA X.outer
def LZ(f:Scope)(x:gq):ck:=f.U.q x=du .local\/f.U.q x=du .cell\/f.U.q x=du .free
def n0(f:Scope)(x:gq):ck:=f.U.q x=du .local\/f.U.q x=du .cell
def Look(env:Env)(h:hR)(m:gq->b0 fx)(x:gq)(u:fx):ck:=(env.Z x=du .local/\m x=du u)\/((env.Z x=du .cell\/env.Z x=du .free)/\∃c,env.cells.q x=du c/\h.IsCell c (du u))
structure Cx.Ok(X:Cx):Prop where
 mod:Mod X.K X.mg X.Q
 kind:X.f.J.gb=.function
 glob:X.f.globals=J5
 blt:X.f.builtins=SE
 above:X.s₀.o.h.v<=X.f.gc
 inj:∀x y c,X.f.cells.q x=du c->X.f.cells.q y=du c->x=y
 has:∀x,(X.f.Z x=du .cell\/X.f.Z x=du .free)->∃c,X.f.cells.q x=du c
 LU:∀x c,X.fn x=dS->X.f.cells.q x=du c->X.s₀.o.h.v<=c
 hd:X.calm=dS->X.A.handled=dv
 frames:X.A.frames=du X.stack
 FE:X.stack=X.outer\/(X.stack=X.f::X.outer/\X.f.frame=du X.f.gc)
 exf:∀b∈X.ex,b≠X.f.gc/\∀x c,X.f.cells.q x=du c->c≠b
 bs:∀b o,X.Q.r b=du o->X.s₀.o.r b=du o/\X.H₀ b=dv
 wB:X.Q.h.v<=X.s₀.o.h.v
 vL:∀b o,X.Q.r b=du o->b∉X.ex
 wm:∀b∈X.ex,b∉X.fs
 i7:X.s₀.o.FunFrames X.Q X.outer
 Bw:∀b∈X.fs,X.H₀ b=dv
structure lp(X:Cx)(kI:bf (fy×jC))(σ:bf (b0 V))(H:Hp)(s:fC):Prop where
 ok:X.Ok
 os:s.os=X.s₀.os
 bare:Au s.gens
 base:Un X.fs X.ex X.H₀ H X.s₀.o s.o
 loc:∃m,s.o.Ns X.f.gc m/\∀(i:br) (x:gq) (v:V),X.N[i]?=du x->σ[i]?=du (du v)->LZ X.f.J x->∃u,RelV v u/\Look X.f s.o m x u
 cell:∀x c,X.f.cells.q x=du c->∃v,s.o.IsCell c v
 free:H X.f.gc=dv
 gi:∀x c,X.f.cells.q x=du c->H c=dv
 pin:∀p∈X.pn++kI,s.o.r p.1=du p.2/\H p.1=dv/\p.1≠X.f.gc/\p.1∉X.fs/\∀v,p.2.data≠.cell v
 aB:gP X.c X.w H s.o
 len:σ.length=X.N.l
section
variable{X:Cx}{kI:bf (fy×jC)}{σ:bf (b0 V)}{H H':Hp}{s:fC}{h':hR}
def Cx.Ok.Zv(ok:X.Ok)(e:X.Q.r b=du o):b∉X.fs:=λf=>by let:=(ok.i7.mem f).1;rw[e] at this;cases this
theorem lp.bs(I:lp X kI σ H s):∀b o,X.Q.r b=du o->s.o.r b=du o/\H b=dv:=λb o e =>
 #[I.Q.keep b o (I.ok.bs b o e).1 (I.ok.bs b o e).2 (I.ok.Zv e) (I.ok.vL b o e),I.Q.free b o (I.ok.bs b o e).1 (I.ok.bs b o e).2 (I.ok.vL b o e)]
def lp.bk(I:lp X kI σ H s):∀b o,X.Q.r b=du o->s.o.r b=du o:=λb o e=>(I.bs b o e).1
theorem lp.mod(I:lp X kI σ H s):Mod X.K X.mg X.base:=I.ok.mod
def lp.jf(I:lp X kI σ H s):X.K.In s.heap:=I.ok.mod.Kx.keeps I.bk
theorem lp.nolimit(I:lp X kI σ H s):s.o.NoLimit:=I.ok.mod.nolimit.keeps I.bk
def lp.fr(I:lp X kI σ H s):∃m,Fr X.Q X.f.gc s.o m:=
 let ⟨m,f,_⟩:=I.loc
 #[m,f,I.bk,D4 I.ok.wB I.ok.above]
theorem lp.lt(I:lp X kI σ H s):X.f.gc<s.o.h.v:=let ⟨_,f,_⟩:=I.loc;f.lt
def lp.sz(I:lp X kI σ H s):X.s₀.o.h.v<=s.o.h.v:=D4 I.ok.above (O4 I.lt)
def lp.Zu(I:lp X kI σ H s)(h:s.o.h.v<=a):a∉X.fs:=λg=>by let#[_,o,f,_]:=I.ok.i7.mem g;exact cz (C9 (E4 f) (D4 I.sz h)) (EO _)
def lp.Es(I:lp X kI σ H s):∀x c,X.f.cells.q x=du c->c≠X.f.gc:=λx c e z=>by let#[v,o,f,g]:=I.cell x c e;let#[m,#[j,k,l,i,h,_],_]:=I.loc;rw[z,i] at f;cases f;rw[h] at g;cases g
theorem lp.i7(I:lp X kI σ H s):s.o.FunFrames X.Q X.outer:=by
 let all:∀(l:bf Env),(∀b∈uA l,b∈X.fs)->X.s₀.o.FunFrames X.Q l->s.o.FunFrames X.Q l:=by
  intro l;induction l with
  | nil=>intro _ _;trivial| cons env r j =>intro i p;let#[q,#[L,o,f,n,m,t],k]:=p;let h:L∈X.fs:=i L (by unfold uA;rw[Tz,f];exact D0);let#[u,e]:=I.Q.slot L o m (I.ok.Bw L h) h λz=>I.ok.wm L z h;exact#[q,#[L,_,f,n,e,t],j (λb g=>i b (by unfold uA;rw[Tz,f];exact C2 _ g)) k]
 exact all X.outer (λ_ g=>g) I.ok.i7
theorem lp.stack(I:lp X kI σ H s):s.o.FunFrames X.Q X.stack:=by
 rcases I.ok.FE with e|⟨e,g⟩
 .rw[e];exact I.i7
 .rw[e];let#[m,f,_]:=I.loc;apply .cons (by rw[I.ok.gb];decide) g f ?_ I.i7;exact Heap.get?_none_of_le (D4 I.ok.wB I.ok.above)
def lp.qZ(I:lp X kI σ H s):∀b∈uA X.stack,b∈X.f.gc::X.fs:=λb f=>by
 rcases I.ok.FE with e|⟨e,g⟩
 .rw[e] at f;exact C2 _ f
 .rw[e] at f;unfold uA at f;rw[Tz,g] at f;exact f
def lp.sM(I:lp X kI σ H s):∀b∈uA X.stack,H b=dv:=λb hb=>by
 rcases D9.mp (I.qZ b hb) with e|hb
 .rw[e];exact I.free
 .let#[_,o,f,_]:=I.ok.i7.mem hb;exact I.Q.free b o f (I.ok.Bw b hb) λz=>I.ok.wm b z hb
def lp.step{g':dc GenState}{t':br}{d':Drawn}{ch:bf fy}(I:lp X kI σ H s) (C:∀b∈ch,(b∈X.ex\/X.s₀.o.h.v<=b)/\b≠X.f.gc/\(∀x c,X.f.cells.q x=du c->c≠b)/\∀p∈X.pn++kI,p.1≠b) (keep:∀b o,b≠X.f.gc->b∉X.fs->b∉ch->s.o.r b=du o->H b=dv->h'.r b=du o) (slot:∀b o,b≠X.f.gc->b∈X.fs->b∉ch->s.o.r b=du o->H b=dv->∃J,h'.r b=du { o with slots:=J}) (free:∀b o,b∉ch->s.o.r b=du o->H b=dv->H' b=dv) (there:∀b o,b∉ch->s.o.r b=du o->∃A,h'.r b=du A) (f_:∀b xs,H b=du (.tup xs)->H' b=du (.tup xs)) (eC:∀b o (u:NK),H b=du (.dR o u.1)->H' b=du (.dR o u.1)) (jw:∀b ps,H b=du (.AX ps)->∃more,H' b=du (.AX (ps++more))) (ns:∀m,s.o.Ns X.f.gc m->h'.Ns X.f.gc m) (aB:gP X.c X.w H' h') (Y:Au g'): lp X kI σ H' { s with heap:=h',gens:=g',drawn:=d',toks:=t'}:=by
 let B:∀b o,X.s₀.o.r b=du o->b≠X.f.gc:=λb o e=>J7 (C9 (E4 e) I.ok.above);let G:∀b o,X.s₀.o.r b=du o->b∉X.ex->b∉ch:=λb o e f j=>by
  rcases(C b j).1 with z|z
  .exact f z
  .exact cz (C9 (E4 e) z) (EO _)
 let g:∀x c,X.f.cells.q x=du c->∀v,s.o.IsCell c v->h'.IsCell c v:=λx c e v ⟨o,t,L⟩=>by
  let y:c∉ch:=λz=>(C c z).2.2.1 x c e rfl;by_cases O:c∈X.fs
  .let#[J,q]:=slot c o (I.Es x c e) O y t (I.gi x c e);exact#[_,q,L]
  .exact#[o,keep c o (I.Es x c e) O y t (I.gi x c e),L]
 apply#[I.ok,I.os,Y,#[λb o e n j f=>?_,λb o e n j f=>?_,λb o e n f=>?_,λb o e f=>?_,λb xs e=>f_ b xs (I.Q.f_ b xs e),λb o xs e=>eC b o xs (I.Q.eC b o xs e),λb ps e=>?_],?_,λx c e=>?_,?_,λx c e=>?_,λp N=>?_,aB,I.len]
 .exact keep b o (B b o e) j (G b o e f) (I.Q.keep b o e n j f) (I.Q.free b o e n f)
 .let#[J,h]:=I.Q.slot b o e n j f;let#[dr,E]:=slot b _ (B b o e) j (G b o e f) h (I.Q.free b o e n f);exact#[dr,E]
 .let#[A,h]:=I.Q.there b o e f;exact free b A (G b o e f) h (I.Q.free b o e n f)
 .let#[A,h]:=I.Q.there b o e f;exact there b A (G b o e f) h
 .let#[R,h]:=I.Q.jw b ps e;let#[Q,E]:=jw b _ h;exact#[R++Q,by rw[E,Dp]]
 .let#[m,S,U]:=I.loc;apply#[m,ns m S,λi x v h E Z=>?_];let#[u,r,l]:=U i x v h E Z;apply#[u,r,?_];rcases l with l|⟨k,c,e,z⟩
  .exact .inl l
  .exact .inr ⟨k,c,e,g x c e _ z⟩
 .let#[v,z]:=I.cell x c e;exact#[v,g x c e v z]
 .let#[m,#[o,_,_,t,_],_]:=I.loc;exact free _ o (λz=>(C _ z).2.1 rfl) t I.free
 .let#[v,o,t,L]:=I.cell x c e;exact free c o (λz=>(C c z).2.2.1 x c e rfl) t (I.gi x c e)
 .let#[e,n,ne,M,d]:=I.pin p N;let y:p.1∉ch:=λz=>(C p.1 z).2.2.2 p N rfl;exact#[keep p.1 p.2 ne M y e n,free p.1 p.2 y e n,ne,M,d]
def lp.un{t':br}(I:lp X kI σ H s)(u:Un X.fs [] H H' s.o h')(l:gP X.c X.w H' h'):lp X kI σ H' { s with heap:=h',toks:=t'}:=by let#[m,#[o,B,C,h,r],_]:=id I.loc;let#[t,k]:=u.any h I.free (by simp);exact I.step (g':=s.gens) (d':=s.drawn) (ch:=[]) (λ_ z=>nomatch z) (λb o _ f _ e n=>u.keep b o e n f (by simp)) (λb o _ f _ e n=>u.slot b o e n f (by simp)) (λb o _ e n=>u.free b o e n (by simp)) (λb o _ e=>u.there b o e (by simp)) u.f_ u.eC u.jw (λy j=>by let#[x,q,p,g,i]:=j;rw[h] at g;cases g;exact#[_,q,p,k,i]) l I.bare
def lp.call{g':dc GenState}{t':br}{d':Drawn}{ch:bf fy}(I:lp X kI σ H s)(u:Un (uA X.stack) ch H H' s.o h')(y:gP X.c X.w H' h')(q:Au g') (h:∀b∈ch,(b∈X.ex\/X.s₀.o.h.v<=b)/\b≠X.f.gc/\(∀x c,X.f.cells.q x=du c->c≠b)/\∀p∈X.pn++kI,p.1≠b): lp X kI σ H' { s with heap:=h',gens:=g',drawn:=d',toks:=t'}:=by
 let#[m,#[o,J,L,j,r],_]:=id I.loc;let#[C,g]:=u.any j I.free λz=>(h _ z).2.1 rfl;exact I.step (ch:=ch) h (λb o g t f e n=>u.keep b o e n (λz=>(D9.mp (I.qZ b z)).n g t) f) (λb o _ _ f e n=>u.any e n f) (λb o f e n=>u.free b o e n f) (λb o f e=>u.there b o e f) u.f_ u.eC u.jw (λG l=>by let#[E,B,A,i,k]:=l;rw[j] at i;cases i;exact#[_,B,A,g,k]) y q
def lp.turned{t':br}{it:fy}(I:lp X kI σ H s)(k:∀b o,b≠it->s.o.r b=du o->h'.r b=du o)(j:H it=dv)(g:it≠X.f.gc) (h1:it∈X.ex\/X.s₀.o.h.v<=it) (A:∀x c,X.f.cells.q x=du c->c≠it) (y:∀p∈X.pn++kI,p.1≠it):lp X kI σ H { s with heap:=h',toks:=t'}:=by
 let h:∀b u,H b=du u->b≠it:=λb u e z=>by rw[z,j] at e;cases e
 apply I.step (g':=s.gens) (d':=s.drawn) (ch:=[it]) (λb t=>?_) (λb o _ _ f e _=>k b o (λz=>f (by simp[z])) e) (λb o _ _ f e _=>#[o.slots,k b o (λz=>f (by simp[z])) e]) (λ_ _ _ _ n=>n)
  (λb o f e=>#[o,k b o (λz=>f (by simp[z])) e]) (λ_ _ e=>e) (λ_ _ _ e=>e) (λb E e=>#[[].e,by rw[e];simp]) (λm l=>?_) (λb u e=>?_) I.bare
 .have e:b=it:=by simpa using t
  subst e;exact#[h1,g,A,y]
 .let#[o,B,C,i,r]:=l;exact#[o,B,C,k _ o (E1 g) i,r]
 .apply(I.aB b u e).gw (λc v f q=>k c v ?_ q) (λ_ q=>q) λ_ _ q=>q;rcases f with z|z
  .rw[z];exact h b u e
  .exact h c _ z
def lp.tok(I:lp X kI σ H s)(t:br):lp X kI σ H { s with toks:=t}:=I.un (h':=s.o) (t':=t) Un.j I.aB
theorem lp.kept{t':br}(I:lp X kI σ H s)(k:∀b u,s.o.r b=du u->h'.r b=du u):lp X kI σ H { s with heap:=h',toks:=t'}:=I.un (Un.kept k) (I.aB.kept k)
theorem lp.laid{a:fy}{o:HO}{t':br}(I:lp X kI σ H s)(k:∀b u,s.o.r b=du u->h'.r b=du u)(f:s.o.h.v<=a)(new:bC X.c X.w (l6 H a o) h' a o): lp X kI σ (l6 H a o) { s with heap:=h',toks:=t'}:=I.un (Un.laid k f (I.aB.y f)) (I.aB.laid k f new)
theorem lp.write(I:lp X kI σ H s)(f:Mf (H x))(g:e=x\/H e=du (.own x))(k:∀b u,b≠e->s.o.r b=du u->h'.r b=du u)(h:∃u,h'.r e=du u) (new:bC X.c X.w (l6 H x o) h' x o):lp X kI σ (l6 H x o) { s with heap:=h',toks:=t'}:=I.un (Un.write f g k h) (I.aB.write f g k h new)
def lp.sP(I:lp X kI σ H s)(h:∀p∈g,s.o.r p.1=du p.2/\H p.1=dv/\p.1≠X.f.gc/\p.1∉X.fs/\∀v,p.2.data≠.cell v):lp X g σ H s:=⟨I.ok,I.os,I.bare,I.Q,I.loc,I.cell,I.free,I.gi,λp f=>(F7.mp f).n (λz=>I.pin p (sk _ z)) (h p),I.aB,I.len⟩
def v48{N:bf gq}(hN:N.Nodup){i j:br}{x:gq}(a:N[i]?=du x)(b:N[j]?=du x):i=j:=by let#[k,g]:=N1.mp a;let#[h,f]:=N1.mp b;exact(List.getElem_inj hN).mp (g.u f.M)
def uu2{M:Model}{A:iC}{E:fx->fC->ck}{i:br}{x:gq}{v:V}{u:fx}{Q:Unit->fC->ck}(I:lp X kI σ H s)(hN:X.N.Nodup)(hi:X.N[i]?=du x)(t:n0 X.f.J x)(r:RelV v u) (h:∀s',lp X kI (σ.set i (du v)) H s'->(∃a,V4 a s.o s'.o/\(a=X.f.gc\/X.f.cells.q x=du a))->Q #[] s') (hf:X.fn x=dS\/X.f.J.U.q x=du .local:=by first|exact .inl rfl|exact .inr rfl|assumption):i3 M A (yA X.f x u) Q E s:=by
 let#[m,hn,hl]:=id I.loc;let Z:(X.f.J.gb == .class||(X.f.J.gb == .module&&X.f.gc != X.f.globals))=eH:=by rw[I.ok.gb];rfl
 let C:i<σ.length:=by rw[I.len];exact(N1.mp hi).1
 let Es:=I.Es;let g:∀{a:fy} {h':hR},(∃o,s.o.r a=du o/\H a=dv)->V4 a s.o h'->gP X.c X.w H h':=λ{a h'} ha f b ob e=>by
  let#[_,_,h_]:=ha;apply(I.aB b ob e).gw (λc S hc q=>(f.2 c ?_).u q) (λ_ q=>q) λ_ _ q=>q;rintro rfl;rcases hc with rfl|hc
  .rw[h_] at e;cases e
  .rw[h_] at hc;cases hc
 rcases t with hk|hk
 .apply wpAny_storeName_local hk hn (λh' vW f=>?_) Z;let#[oL,_,_,DU,_]:=id hn;apply h _ #[I.ok,I.os,I.bare,#[λb o e n L t=>?_,λb o e n L t=>?_,I.Q.free,λb o e t=>?_,I.Q.f_,I.Q.eC,I.Q.jw],#[_,vW,λj y Y l B e3=>?_],λy c e=>?_,I.free,I.gi,λp hp=>?_,g #[oL,DU,I.free] f,by simpa using I.len] #[_,f,.inl rfl]
  .exact(f.2 b (J7 (C9 (E4 e) I.ok.above))).u (I.Q.keep b o e n L t)
  .let#[sl,l]:=I.Q.slot b o e n L t;exact#[sl,(f.2 b (J7 (C9 (E4 e) I.ok.above))).u l]
  .let#[o',l]:=I.Q.there b o e t;exact#[o',(f.2 b (J7 (C9 (E4 e) I.ok.above))).u l]
  .by_cases G:j=i
   .subst G;rw[hi] at l;cases l;rw[r9 C] at B;cases B;exact#[u,r,.inl #[hk,by simp]]
   .rw[sr (E1 G)] at B;let#[u',r',q]:=hl j y Y l B e3;apply#[u',r',?_];rcases q with⟨k,e⟩|⟨k,c,e,z⟩
    .apply .inl ⟨k,?_⟩;let:y≠x:=λe=>G (v48 hN l (e▸hi));simp[this,e]
    .exact .inr #[k,c,e,z.sameBut f (Es y c e)]
  .let#[S,z]:=I.cell y c e;exact#[S,z.sameBut f (Es y c e)]
  .let#[e,n,ne,nf,d]:=I.pin p hp;exact#[(f.2 p.1 ne).u e,n,ne,nf,d]
 .have J:X.fn x=dS:=by
   rcases hf with z|z
   .exact z
   .rw[z] at hk;cases hk
  let#[c,hc]:=I.ok.has x (.inl hk);let#[S,z]:=I.cell x c hc;apply wpAny_storeName_cell I.ok.gb hk hc z (λh' R f=>?_);let#[oc,FW,uA7]:=id z;apply h { s with heap:=h'} #[I.ok,I.os,I.bare,#[λb o e n L t=>?_,λb o e n L t=>?_,I.Q.free,λb o e t=>?_,I.Q.f_,I.Q.eC,I.Q.jw],#[m,hn.sameBut f (E1 (Es x c hc)),λj y Y l B e3=>?_],λy U e=>?_,I.free,I.gi,λp hp=>?_,g #[oc,FW,I.gi x c hc] f,by simpa using I.len] #[c,f,.inr hc]
  .exact(f.2 b (J7 (C9 (E4 e) (I.ok.LU x c J hc)))).u (I.Q.keep b o e n L t)
  .let#[sl,l]:=I.Q.slot b o e n L t;exact#[sl,(f.2 b (J7 (C9 (E4 e) (I.ok.LU x c J hc)))).u l]
  .let#[o',l]:=I.Q.there b o e t;exact#[o',(f.2 b (J7 (C9 (E4 e) (I.ok.LU x c J hc)))).u l]
  .by_cases G:j=i
   .subst G;rw[hi] at l;cases l;rw[r9 C] at B;cases B;exact#[u,r,.inr #[.inl hk,c,hc,R]]
   .rw[sr (E1 G)] at B;let#[u',r',q]:=hl j y Y l B e3;apply#[u',r',?_];rcases q with q|⟨k,U,e,z'⟩
    .exact .inl q
    .apply .inr ⟨k,U,e,z'.sameBut f ?_⟩;rintro rfl;exact G (v48 hN l (I.ok.inj _ _ _ e hc▸hi))
  .by_cases O:U=c
   .subst O;exact#[_,R]
   .let#[w2,z2]:=I.cell y U e;exact#[w2,z2.sameBut f O]
  .let#[e,n,ne,nf,d]:=I.pin p hp;apply#[(f.2 p.1 ?_).u e,n,ne,nf,d];intro q;rw[q,FW] at e;let q':oc=p.2:=E8 e;exact d S (by rw[<- q'];exact uA7)
def Yk{M:Model}{A:iC}{E:fx->fC->ck}{i:br}{x:gq}{v:V}{u:fx}{Q:Unit->fC->ck}(I:lp X kI σ H s)(hN:X.N.Nodup)(hi:X.N[i]?=du x)(f:n0 X.f.J x)(r:RelV v u) (h:∀s',lp X kI (σ.set i (du v)) H s'->Q #[] s') (g:X.fn x=dS\/X.f.J.U.q x=du .local:=by first|exact .inl rfl|exact .inr rfl|assumption):i3 M A (yA X.f x u) Q E s:=uu2 I hN hi f r (λs' j _=>h s' j) g
def lp.LS{s':fC}(I:lp X kI σ H s)(k:s'.os=s.os)(u:Un (uA X.stack) ch H H' s.o s'.o)(m:gP X.c X.w H' s'.o)(l:Au s'.gens) (j:∀b∈ch,(b∈X.ex\/X.s₀.o.h.v<=b)/\b≠X.f.gc/\(∀x c,X.f.cells.q x=du c->c≠b)/\∀p∈X.pn++kI,p.1≠b):lp X kI σ H' s':=by
 let#[h',g,h,f,i]:=s';let e:i=s.os:=k;subst e;exact I.call (g':=g) (t':=f) (d':=h) u m l j
end
abbrev XK:=fx->b0 fy->Hp->ck
abbrev St:=bf (b0 V)
abbrev VK:=V->Hp->ck
abbrev TE:=St->Hp->VK->ck
abbrev TT:=St->Hp->(cg->Hp->ck)->ck
abbrev TA:=St->Hp->(bf V->Hp->ck)->ck
structure Ends where
 nx:St->Hp->ck
 rt:VK
 bk:St->Hp->ck:=λ_ _=>b8
 ct:St->Hp->ck:=λ_ _=>b8
abbrev TS:=Ends->St->Hp->ck
inductive EP(X:Cx)(kI:bf (fy×jC))(f:St)(Q:VK)(u:fx)(s':fC):Prop
 | mk (v:V) (g:Hp) (_:lp X kI f g s') (_:RelV v u) (_:Q v g):EP X kI f Q u s'
inductive TP(X:Cx)(kI:bf (fy×jC))(f:St)(Q:cg->Hp->Prop)(b:cg)(s':fC):Prop
 | mk (g:Hp) (_:lp X kI f g s') (_:Q b g):TP X kI f Q b s'
inductive AP(X:Cx)(kI:bf (fy×jC))(f:St)(Q:bf V->Hp->Prop)(us:bf fx)(s':fC):Prop
 | mk (vs:bf V) (g:Hp) (_:lp X kI f g s') (_:Vals vs us) (_:Q vs g):AP X kI f Q us s'
inductive NP(X:Cx)(kI:bf (fy×jC))(Q:St->Hp->Prop)(s':fC):Prop
 | mk (f:St) (g:Hp) (_:lp X kI f g s') (_:Q f g):NP X kI Q s'
def SP(X:Cx)(kI:bf (fy×jC))(D:Ends)(f:Flow)(s':fC):ck:=
 match f with
 | .next=>NP X kI D.nx s'| .brk=>NP X kI D.bk s'| .cont=>NP X kI D.ct s'| .ret u=>∃v g h,lp X kI g h s'/\RelV v u/\D.rt v h
def PE(X:Cx)(e:gI)(t:TE):ck:=∀(kI:bf (fy×jC)) (s:fC) (f:St) (H:Hp) (Q:VK),lp X kI f H s->t f H Q->i3 (model X.c X.w) X.A (eval e X.f) (EP X kI f Q) X.xe s
def PT(X:Cx)(e:gI)(t:TT):ck:=∀(kI:bf (fy×jC)) (s:fC) (f:St) (H:Hp) (Q:cg->Hp->ck),lp X kI f H s->t f H Q->i3 (model X.c X.w) X.A (isTrue e X.f (eval e X.f)) (TP X kI f Q) X.xe s
def PW(X:Cx)(e:gI)(t:TT):ck:=∀(f:Sem fx) (kI:bf (fy×jC)) (s:fC) (g:St) (H:Hp) (Q:cg->Hp->ck),lp X kI g H s->t g H Q->i3 (model X.c X.w) X.A (isTrue e X.f f) (TP X kI g Q) X.xe s
def PW.pt{X:Cx}{e:gI}{t:TT}(h:PW X e t):PT X e t:=h _
def PA(X:Cx)(g:bf gI)(t:TA):ck:=∀(pos:jU) (kI:bf (fy×jC)) (s:fC) (f:St) (H:Hp) (Q:bf V->Hp->ck),lp X kI f H s->t f H Q->i3 (model X.c X.w) X.A (spliced (backTo pos (D2 g X.f))) (AP X kI f Q) X.xe s
def PS(X:Cx)(st:hC)(t:TS):ck:=∀(kI:bf (fy×jC)) (s:fC) (f:St) (H:Hp) (D:Ends),lp X kI f H s->t D f H->i3 (model X.c X.w) X.A (exec st X.f) (SP X kI D) X.xe s
def qQ(X:Cx)(st:bf hC)(t:TS):ck:=∀(kI:bf (fy×jC)) (s:fC) (f:St) (H:Hp) (D:Ends),lp X kI f H s->t D f H->i3 (model X.c X.w) X.A (execs st X.f) (SP X kI D) X.xe s
def bu{f:Type}{t:Sem f}{Q g:f->fC->ck}{M:Model}{A:iC}{E:fx->fC->ck}{s:fC}(h:i3 M A t Q E s)(i:∀a s,Q a s->g a s):i3 M A t g E s:=S8 h i λ_ _ x=>x
section
variable{X:Cx}
def CV(i:br):TE:=λf H Q=>∃v,f[i]?=du (du v)/\Q v H
def tC(v:V):TE:=λ_ H Q=>Q v H
def w66(hN:X.N[i]?=du x)(o:LZ X.f.J x)(f:(x==("__debug__" :gq))=eH:=by decide)(n:(x==("__classdict__" :gq))=eH:=by decide):PE X (.Name x pos) (CV i):=by
 intro kI s k H Q I h;let#[v,e,h]:=h;let#[m,p,t]:=I.loc;let#[u,r,l]:=t i x v hN e o;let l':EP X kI k Q u s:=#[v,H,I,r,h];rcases l with⟨hk,q⟩|⟨hk,c,j,g⟩
 .exact x6 (wpAny_loadName_local I.ok.gb hk p q l') f
 .rcases hk with hk|hk
  .exact x6 (wpAny_loadName_cell I.ok.gb hk j g l') f
  .exact x6 (wpAny_loadName_free I.ok.gb hk j g l' n) f
def x24{i j pos}:PE X (.Constant (.int i) j pos) (tC (.int i)):=λ_ _ _ H _ I h=>wpAny_Constant_int #[.int i,H,I.tok _,#[_,rfl],h]
def xq2{b j pos}:PE X (.Constant (.bool b) j pos) (tC (.bl b)):=λ_ _ _ H _ I h=>Constant_bool #[.bl b,H,I,rfl,h]
def x22{j pos}:PE X (.Constant .none j pos) (tC .non):=λ_ _ _ H _ I h=>Constant_none #[.non,H,I,rfl,h]
def x19{x j pos}:PE X (.Constant (.str x) j pos) (tC (.str x)):=λ_ _ _ H _ I h=>Calls.Constant_str #[.str x,H,I.tok _,#[_,rfl],h]
def Gl(X:Cx)(x:gq):ck:=X.f.Z x=du .globalImplicit
def XF{E:fx->fC->ck}{kI:bf (fy×jC)}{s:fC}{f:St}{H:Hp}{x:gq}{u:fx}{pos:jU}{Q:fx->fC->ck}(I:lp X kI f H s)(i:Gl X x)(g:X.mg x=du u)(h:Q u s) (j:(x==("__debug__" :gq))=eH:=by decide):i3 (model X.c X.w) X.A (eval (.Name x pos) X.f) Q E s:=RU I.ok.gb i (Calls.loadGlobal_global (by rw[I.ok.glob];exact I.mod.glob.keeps I.bk) g h) j
def sI{E:fx->fC->ck}{kI:bf (fy×jC)}{s:fC}{f:St}{H:Hp}{x:gq}{u:fx}{pos:jU}{Q:fx->fC->ck}(I:lp X kI f H s)(k:Gl X x)(j:X.mg x=dv)(g:R9 x=du u)(h:Q u s) (i:x ≠ "__name__" := by decide) (l:(x==("__debug__" :gq))=eH:=by decide):i3 (model X.c X.w) X.A (eval (.Name x pos) X.f) Q E s:=by
 let#[o,n,m]:=I.mod.blt;exact RU I.ok.gb k (Calls.loadGlobal_builtin (by rw[I.ok.glob];exact I.mod.glob.keeps I.bk) j (by rw[I.ok.blt];exact n.keeps I.bk) ((m x i).u g) h) l
def wn3(g:Gl X x)(f:X.mg x=du u)(r:RelV v u)(i:(x==("__debug__" :gq))=eH:=by decide):PE X (.Name x pos) (tC v):=λ_ _ _ H _ I h=>XF I g f #[v,H,I,r,h] i
def wn9(j:Gl X x)(i:X.mg x=dv)(f:R9 x=du u)(r:RelV v u)(g:x ≠ "__name__" := by decide)(k:(x==("__debug__" :gq))=eH:=by decide):PE X (.Name x pos) (tC v):=λ_ _ _ H _ I h=>sI I j i f #[v,H,I,r,h] g k
variable{a b:gI}{ta tb:TE}{pos:jU}
def PC(X:Cx)(op:CmpOp)(a b:gI)(t:TE):ck:=
 ∀(kI:bf (fy×jC)) (s:fC) (h:St) (H:Hp) (Q:VK),lp X kI h H s->t h H Q ->
  i3 (model X.c X.w) X.A (eval a X.f) (λv g=>i3 (model X.c X.w) X.A (eval b X.f) (λu f=>i3 (model X.c X.w) X.A (L8 op v u) (EP X kI h Q) X.xe f) X.xe g) X.xe s
def tB(t:TE):TT:=λf H Q=>t f H λx g=>∃c,x=.bl c/\Q c g
def x05{e:gI}{t:TE}(h:PE X e t)(k:∀f,isTrue e X.f f=(do let v <- f;yM e.pos;holding [v] (truthy v)):=by intro _;rfl):PT X e (tB t):=by
 intro kI s g H Q I hw
 (apply isTrue_plain (bu (h kI s g H _ I hw) ?_) (k _);intro v n #[x,m,l,i,j])
 let#[d,rfl,q]:=j;cases i;exact U9 #[m,l,q]
variable{tA Ri:TT}{rest:bf gI}
def Ia(t u:TT):TT:=λf H Q=>t f H λc g=>if c=dS then u f g Q else Q eH g
def tOr(t u:TT):TT:=λf H Q=>t f H λc g=>if c=dS then Q dS g else u f g Q
def HU(t:TT):TT:=λf H Q=>t f H λc g=>Q (!c) g
def wl5(g:PT X a tA):PW X (.BoolOp .And [a] pos) tA:=by
 intro i kI s f H Q I h;apply isTrue_and (bu (g kI s f H Q I h) λc j e=>?_);cases c with
 | true=>exact isTrue_and_nil e| false=>exact e
def x03(g:PT X a tA):PW X (.BoolOp .Or [a] pos) tA:=by
 intro i kI s f H Q I h;apply isTrue_or (bu (g kI s f H Q I h) λc j e=>?_);cases c with
 | false=>exact isTrue_or_nil e| true=>exact e
def x04(n:PT X a tA)(m:PW X (.BoolOp .And (b::rest) pos) Ri):PW X (.BoolOp .And (a::b::rest) pos) (Ia tA Ri):=by
 intro k kI s f H Q I h
 (apply isTrue_and (bu (n kI s f H _ I h) ?_);intro c l #[j,i,g])
 cases c with
 | true=>exact m k kI l f j Q i g| false=>exact#[j,i,g]
def xp5(n:PT X a tA)(m:PW X (.BoolOp .Or (b::rest) pos) Ri):PW X (.BoolOp .Or (a::b::rest) pos) (tOr tA Ri):=by
 intro k kI s f H Q I h
 (apply isTrue_or (bu (n kI s f H _ I h) ?_);intro c l #[j,i,g])
 cases c with
 | true=>exact#[j,i,g]| false=>exact m k kI l f j Q i g
def x06(g:PT X a tA):PT X (.UnaryOp .Not a pos) (HU tA):=by intro kI s f H Q I h;apply isTrue_not (bu (g kI s f H (λc k=>Q (!c) k) I h) ?_);intro c l #[j,i,q];exact#[j,i,q]
def wz0(ta tb:TE):TE:=λf H Q=>ta f H λx g=>∃c,x=.bl c/\if c=dS then tb f g Q else Q (.bl eH) g
def HR(ta tb:TE):TE:=λf H Q=>ta f H λx g=>∃c,x=.bl c/\if c=dS then Q (.bl dS) g else tb f g Q
def wx8(ta:TE):TE:=λf H Q=>ta f H λx g=>∃c,x=.bl c/\Q (.bl (!c)) g
def x20{op}(h:PE X a t):PE X (.BoolOp op [a] pos) t:=λkI s f H Q I hw=>BoolOp_one (h kI s f H Q I hw)
def x27(n:PE X a ta)(m:PE X (.BoolOp .And (b::rest) pos) tb):PE X (.BoolOp .And (a::b::rest) pos) (wz0 ta tb):=by
 intro kI s g H Q I h
 (apply BoolOp_and (bu (n kI s g H _ I h) ?_);intro v k #[x,j,i,l,f])
 let#[c,rfl,f]:=f;cases l;apply U9 ?_;cases c with
 | true=>exact m kI k g j Q i f| false=>exact#[.bl eH,j,i,rfl,f]
def xp9(n:PE X a ta)(m:PE X (.BoolOp .Or (b::rest) pos) tb):PE X (.BoolOp .Or (a::b::rest) pos) (HR ta tb):=by
 intro kI s g H Q I h
 (apply BoolOp_or (bu (n kI s g H _ I h) ?_);intro v k #[x,j,i,l,f])
 let#[c,rfl,f]:=f;cases l;apply U9 ?_;cases c with
 | false=>exact m kI k g j Q i f| true=>exact#[.bl dS,j,i,rfl,f]
def x21(j:PE X a ta):PE X (.UnaryOp .Not a pos) (wx8 ta):=by
 intro kI s g H Q I h
 (apply UnaryOp_ (bu (j kI s g H _ I h) ?_);intro v m #[x,l,k,i,f])
 let#[c,rfl,f]:=f;cases i;exact not_of (U9 #[.bl (!c),l,k,rfl,f])
def tIf(t:TT)(ta tb:TE):TE:=λf H Q=>t f H λc g=>if c=dS then ta f g Q else tb f g Q
def vu3{c:gI}(l:PT X c tA)(n:PE X a ta)(m:PE X b tb):PE X (.IfExp c a b pos) (tIf tA ta tb):=by
 intro kI s f H Q I h
 (apply wpAny_IfExp (bu (l kI s f H _ I h) ?_);intro d g #[k,j,i])
 cases d with
 | true=>exact n kI g f k Q j i| false=>exact m kI g f k Q j i
end
def fb(K:eM)(H:Hp)(a:fy)(xs:bf V):ck:=
 Rd H a (.lst xs) \/
  ∃(o:jC) (its:dc fx) (n:br),K.q a=du o/\o.cls=.type "list" /\ o.dict=dv/\o.data=.seq its n/\its.v<=iZ/\Vals xs its.L
def eR(K:eM)(H:Hp)(a:fy)(xs:bf V):ck:=
 Rd H a (.tup xs) \/
  ∃(o:jC) (its:dc fx) (n:br),K.q a=du o/\o.cls=.type "tuple" /\ o.data=.seq its n/\its.v<=iZ/\Vals xs its.L/\o.dict=dv
def uD1:fx->b0 V
 | .none=>du .non| .bool b=>du (.bl b)| .int i _=>du (.int i)| .str x _=>du (.str x)| .bytes b _=>du (.vm b)| .float b _=>du (.yG b)| .ref a=>du (.ref a)| .type n=>du (.ty n)| _=>dv
def RelV.abs(r:RelV x u):uD1 u=du x:=by
 cases x with
 | non=>cases r;rfl
 | bl _=>cases r;rfl
 | int _=>let#[t,rfl]:=r;rfl| str _=>let#[t,rfl]:=r;rfl| vm _=>let#[t,rfl]:=r;rfl| yG _=>let#[t,rfl]:=r;rfl| ref _=>cases r;rfl
 | ty _=>cases r;rfl
def RelV.inj{x y:V}{u:fx}(r:RelV x u)(q:RelV y u):x=y:=E8 (r.abs.M.u q.abs)
theorem Vals.inj:∀{xs ys:bf V} {us:bf fx},Vals xs us->Vals ys us->xs=ys
 | _,_,_,.nil,.nil=>rfl| _,_,_,.cons r t,.cons g f=>by rw[r.inj g,Vals.inj t f]
section
variable{X:Cx}{kI:bf (fy×jC)}{σ:St}{H:Hp}{s:fC}{a:fy}{xs ys:bf V}
def fb.of{K:eM}(h:H a=du (.lst xs)):fb K H a xs:=.inl (.inl h)
def eR.of{K:eM}(h:H a=du (.tup xs)):eR K H a xs:=.inl (.inl h)
def lp.list(I:lp X kI σ H s)(h:fb X.K H a xs):∃its:bf fx,Vals xs its/\PlainL s.o a its.e/\xs.l<=iZ:=by
 rcases h with h|⟨o,its,n,g,j,i,f,k,r⟩
 .let#[z,its,n,r,e]:=h.ok I.aB;exact#[its,r,#[_,n,e,rfl,rfl,rfl],z]
 .apply#[its.L,r,#[o,n,I.jf a o g,j,i,by simpa using f],?_];let e:=r.l;simp only[L4] at e;omega
def lp.tuple(I:lp X kI σ H s)(h:eR X.K H a xs):∃its:bf fx,Vals xs its/\IsTup s.o a its.e/\xs.l<=iZ:=by
 rcases h with h|⟨o,its,n,g,i,f,j,r,_⟩
 .let#[z,its,r,p]:=h.ok I.aB;exact#[its,r,p.tup,z]
 .apply#[its.L,r,#[o,I.jf a o g,i,n,by simpa using f],?_];let e:=r.l;simp only[L4] at e;omega
def lp.kz(I:lp X kI σ H s)(h:fb X.K H a xs)(h':fb X.K H a ys):xs=ys:=by
 let#[its,r,#[o,n,e,_,_,d],_]:=I.list h;let#[j,i,#[l,m,f,_,_,g],_]:=I.list h';rw[e] at f;cases f;rw[d] at g;injection g with k _;let:its=j:=by simpa using cv oD k
 subst this;exact r.inj i
def lp.lQ(I:lp X kI σ H s)(h:eR X.K H a xs)(h':eR X.K H a ys):xs=ys:=by
 let#[its,r,#[o,e,_,n,d],_]:=I.tuple h;let#[j,i,#[l,f,_,m,g],_]:=I.tuple h';rw[e] at f;cases f;rw[d] at g;injection g with k _;let:its=j:=by simpa using cv oD k
 subst this;exact r.inj i
end
abbrev Cx.ju(X:Cx)(E:fx->fC->ck):Cx:={ X with xe:=E}
abbrev Cx.zF(X:Cx):Cx:=X.ju λ_ _=>b8
theorem Cx.Ok.ju{X:Cx}(ok:X.Ok)(E:fx->fC->ck):(X.ju E).Ok:=#[ok.mod,ok.gb,ok.glob,ok.blt,ok.above,ok.inj,ok.has,ok.LU,ok.hd,ok.frames,ok.FE,ok.exf,ok.bs,ok.wB,ok.vL,ok.wm,ok.i7,ok.Bw]
def Cx.Ok.dU{X:Cx}(ok:(X.ju E).Ok):X.Ok:=#[ok.mod,ok.gb,ok.glob,ok.blt,ok.above,ok.inj,ok.has,ok.LU,ok.hd,ok.frames,ok.FE,ok.exf,ok.bs,ok.wB,ok.vL,ok.wm,ok.i7,ok.Bw]
section
variable{X:Cx}{kI:bf (fy×jC)}{σ:St}{H:Hp}{s:fC}{E:fx->fC->ck}
theorem lp.ju(I:lp X kI σ H s)(E:fx->fC->ck):lp (X.ju E) kI σ H s:=#[I.ok.ju E,I.os,I.bare,I.Q,I.loc,I.cell,I.free,I.gi,I.pin,I.aB,I.len]
theorem lp.dU(I:lp (X.ju E) kI σ H s):lp X kI σ H s:=#[I.ok.dU,I.os,I.bare,I.Q,I.loc,I.cell,I.free,I.gi,I.pin,I.aB,I.len]
theorem SP.dU(h:SP (X.ju E) kI D f s'):SP X kI D f s':=by
 cases f with
 | next=>let#[g,i,I,q]:=h;exact#[g,i,I.dU,q]| brk=>let#[g,i,I,q]:=h;exact#[g,i,I.dU,q]| cont=>let#[g,i,I,q]:=h;exact#[g,i,I.dU,q]| ret u=>let#[v,g,i,I,r,q]:=h;exact#[v,g,i,I.dU,r,q]
theorem PE.zF(h:PE X.zF e t):PE X e t:=λkI s σ H Q I hw =>
 S8 (h kI s σ H Q (I.ju _) hw) (λ_ _ ⟨v,g,f,r,q⟩=>#[v,g,f.dU,r,q]) λ_ _ z=>Q9 z
theorem PT.zF(h:PT X.zF e t):PT X e t:=λkI s σ H Q I hw =>
 S8 (h kI s σ H Q (I.ju _) hw) (λ_ _ ⟨g,f,q⟩=>#[g,f.dU,q]) λ_ _ z=>Q9 z
theorem qQ.zF{st:bf hC}{t:TS}(h:qQ X.zF st t):qQ X st t:=λkI s σ H D I hw =>
 S8 (h kI s σ H D (I.ju _) hw) (λ_ _ q=>q.dU) λ_ _ z=>Q9 z
end
section
variable{X:Cx}{st:hC}{rest:bf hC}{t u:TS}{e:gI}{te:TE}{pos:jU}
def wx9:TS:=λD f H=>D.nx f H
def HP(t u:TS):TS:=λD f H=>t { D with nx:=u D} f H
def wl9:qQ X [] wx9:=λ_ _ f H _ I h=>Td #[f,H,I,h]
def vt1(h1:PS X st t)(k:qQ X rest u):qQ X (st::rest) (HP t u):=by
 intro kI s i H D I h;apply wpAny_execs_cons (bu (h1 kI s i H { D with nx:=u D} I h) λf j q=>?_);cases f with
 | next =>let#[g,m,l,q]:=q;exact k kI j g m D l q| ret v=>exact q| brk=>exact q| cont=>exact q
def wl8(h1:PS X st t):qQ X [st] t:=by
 intro kI s g H D I h;apply wpAny_execs_cons (bu (h1 kI s g H D I h) λf i q=>?_);cases f with
 | next=>exact Td q| ret v=>exact q| brk=>exact q| cont=>exact q
def lp.quiet{kI:bf (fy×jC)}{f:St}{H:Hp}{s:fC}(I:lp X kI f H s):interactive X.f=eH:=by simp[interactive,I.ok.gb]
def wy3(te:TE):TS:=λD f H=>te f H λ_ g=>D.nx f g
def wm2(j:PE X e te)(i:X4 e dv pos.line X.f=pure eH:=by rfl):PS X (.Expr e pos) (wy3 te):=by
 intro kI s f H D I h
 (apply wpAny_Expr_any (bu (j kI s f H _ I h) ?_) I.quiet i;intro v m #[x,l,k,n,g];exact#[f,l,k,g])
def HQ(te:TE):TS:=λD f H=>te f H D.rt
def x09(j:PE X e te):PS X (.Return (du e) pos) (HQ te):=by
 intro kI s f H D I h
 (apply wpAny_Return_some (bu (j kI s f H _ I h) ?_);intro v m #[x,l,k,g,i];exact#[x,f,l,k,g,i])
def wx6:TS:=λD _ H=>D.rt .non H
def wm1:PS X (.Return dv pos) wx6:=λ_ _ f H _ I h=>wpAny_Return_none #[.non,f,H,I,rfl,h]
def HW(c:TT)(t u:TS):TS:=λD f H=>c f H λb g=>if b=dS then t D f g else u D f g
def xp6{c:gI}{a b:bf hC}{tc:TT}(l:PT X c tc)(n:qQ X a t)(m:qQ X b u):PS X (.If c a b pos) (HW tc t u):=by
 intro kI s f H D I h
 (apply wpAny_If (bu (l kI s f H _ I h) ?_);intro d g #[k,j,i])
 cases d with
 | true=>exact n kI g f k D j i| false=>exact m kI g f k D j i
def wy0:TS:=λ_ _ _=>b8
def vt3:PS X st wy0:=λ_ _ _ _ _ _ h=>h.n
end
abbrev TG:=V->St->Hp->(St->Hp->ck)->ck
abbrev EB:=bf V->St->Hp->(St->Hp->ck)->ck
def PG(X:Cx)(target:gI)(t:TG):ck:=
 ∀(kI:bf (fy×jC)) (s:fC) (f:St) (H:Hp) (v:V) (u:fx) (Q:St->Hp->ck),lp X kI f H s->RelV v u->t v f H Q ->
  i3 (model X.c X.w) X.A (assign target X.f u) (λ_ g=>NP X kI Q g) X.xe s
def BD(X:Cx)(i:bf gI)(t:EB):ck:=
 ∀(kI:bf (fy×jC)) (s:fC) (f:St) (H:Hp) (g:bf V) (h:bf fx) (Q:St->Hp->ck),lp X kI f H s->Vals g h->t g f H Q ->
  i3 (model X.c X.w) X.A (assignInOrder ((U1 i X.f).t (·.2)) h) (λ_ j=>NP X kI Q j) X.xe s
abbrev EA:=V->V->V->Hp->(Hp->ck)->ck
def uK(X:Cx)(t:EA):ck:=
 ∀(kI:bf (fy×jC)) (s:fC) (f:St) (H:Hp) (o i v:V) (g h u:fx) (Q:Hp->ck),lp X kI f H s->RelV o g->RelV i h->RelV v u->t o i v H Q ->
  i3 (model X.c X.w) X.A (So g h u) (λ_ k=>∃j,lp X kI f j k/\Q j) X.xe s
abbrev BM:=V->V->Hp->VK->ck
def PIp(X:Cx)(op:Operator)(t:BM):ck:=
 ∀(kI:bf (fy×jC)) (s:fC) (f:St) (H:Hp) (x y:V) (v u:fx) (Q:VK),lp X kI f H s->RelV x v->RelV y u->t x y H Q ->
  i3 (model X.c X.w) X.A (EJ op v u) (EP X kI f Q) X.xe s
section
variable{X:Cx}{pos:jU}
def UG(i:br):TG:=λv f H Q=>Q (f.I i (du v)) H
def wm9(hN:X.N.Nodup)(hi:X.N[i]?=du x)(f:n0 X.f.J x)(g:X.fn x=dS\/X.f.J.U.q x=du .local:=by first|exact .inl rfl|exact .inr rfl|assumption):PG X (.Name x pos) (UG i):=by intro kI s k H v u Q I r h;exact wpAny_assign_Name (Yk I hN hi f r (λl j=>#[_,H,j,h]) g)
def LG:EB:=λg f H Q=>g=[]/\Q f H
def xh2(t:TG)(u:EB):EB:=λh g H Q=>∃v r,h=v::r/\t v g H λf i=>u r f i Q
def wm8:BD X [] LG:=by intro kI s f H g i Q I r h;let#[e,h]:=h;subst e;cases r;exact assignInOrder_nil #[f,H,I,h]
def vu0{e:gI}{f:bf gI}{t:TG}{u:EB}(h1:PG X e t)(n:BD X f u) (m:(U1 (e::f) X.f).t (·.2)=assign e X.f::(U1 f X.f).t (·.2):=by rfl):BD X (e::f) (xh2 t u):=by
 intro kI s i H x A Q I r h;let#[v,y,o,h]:=h;subst o;cases r with
 | cons r k =>
  rw[m]
  (apply assignInOrder_cons (bu (h1 kI s i H _ _ _ I r h) ?_);intro _ j #[g,q,p,l])
  exact n kI j g q _ _ Q p k l
def uB8(K:eM)(n:br)(t:EB):TG:=λv f H Q=>∃a xs,v=.ref a/\eR K H a xs/\xs.l=n/\t xs f H Q
def x16(y:X.calm=dS)(h:BD X f t) (q:(U1 f X.f).l=n:=by rfl) (j:(U1 f X.f).findIdx? (·.1)=dv:=by rfl):PG X (.Tuple f k pos) (uB8 X.K n t):=by
 intro kI s g H v u Q I r hw;let#[a,xs,B,p,x,hw]:=hw;subst B;cases r;let#[its,i,m,G]:=I.tuple p;apply assign_Tuple_tuple (I.ok.hd y) m (by simp[q,<- x,i.l]) j λA l=>?_;let C:lp X kI g H { s with heap:=A}:=I.kept (t':=s.H) λb o e=>l b o (J7 (E4 e)) e;exact h kI _ g H xs _ Q C (by simpa using i) hw
def LF(to g:TE)(t:EA):TG:=λv f H Q=>to f H λo k=>g f k λi j=>t o i v j λh=>Q f h
def x17{o i:gI}{to k:TE}{t:EA}(E:PE X o to)(hi:PE X i k)(C:uK X t)
  (G:∀v,assign (.Subscript o i pos) X.f v=(do
   let f <- holding [v] (eval o X.f);let g <- holding [v,f] (eval i X.f)
   yM pos
   holding [v,f,g] (So f g v)
   release [v,f,g] []):=by intro _;rfl):PG X (.Subscript o i pos) (LF to k t):=by
 intro kI s j H v u Q I r h;rw[G]
 (apply B5 (O0 (bu (E kI s j H _ I h) ?_));intro f m #[x,O,L,p,B])
 (apply B5 (O0 (bu (hi kI m j O _ L B) ?_));intro g l #[y,N,J,n,A])
 (apply B5 (SV (B5 (O0 (bu (C kI l j N x y v f g u _ J p n r A) ?_))));intro _ R #[M,I3,q])
 exact wpAny_release #[j,M,I3,q]
def CW(te:TE)(g:TG):TS:=λD f H=>te f H λx h=>g x f h D.nx
def x13{tg e:gI}{te:TE}{g:TG}(n:PE X e te)(m:PG X tg g)(l:swapsWithSole [tg] e pos.line X.f=pure eH:=by rfl)(hw:swappedStores [tg] e X.f=pure dv:=by rfl)
  (h1:(U1 [tg] X.f).t (·.2)=[assign tg X.f]:=by rfl):PS X (.Assign [tg] e pos) (CW te g):=by
 intro kI s f H D I h
 (apply wpAny_Assign_stores (bu (n kI s f H _ I h) ?_) l hw;intro v i #[x,p,o,j,k])
 rw[h1];exact bu (m kI i f p x v _ o j k) λ_ r q=>q
def x08{i:br}{x:gq}{e:gI}{te:TE}{f:jU}(hN:X.N.Nodup)(hi:X.N[i]?=du x)(l:n0 X.f.J x)(o:PE X e te)(m:X4 e (du (.Name x f)) pos.line X.f=pure eH:=by rfl)(n:X.fn x=dS\/X.f.J.U.q x=du .local:=by first|exact .inl rfl|exact .inr rfl|assumption):
  PS X (.Assign [.Name x f] e pos) (CW te (UG i)):=by
 intro kI s g H D I h
 (apply wpAny_Assign_Name (bu (o kI s g H _ I h) ?_) m;intro v u #[y,r,q,j,k])
 exact Yk q hN hi l j (λt p=>#[_,r,p,k]) n
def H_(i:br)(te:TE)(g:BM):TS:=λD f H=>∃x,f[i]?=du (du x)/\te f H λy j=>g x y j λz h=>D.nx (f.I i (du z)) h
def x12{i:br}{x:gq}{e:gI}{te:TE}{op:Operator}{q:BM}{j:jU}(hN:X.N.Nodup)(hi:X.N[i]?=du x)(o:n0 X.f.J x)(S:PE X e te)(L:PIp X op q)(R:X.fn x=dS\/X.f.J.U.q x=du .local:=by first|exact .inl rfl|exact .inr rfl|assumption):
  PS X (.AugAssign (.Name x j) op e pos) (H_ i te q):=by
 intro kI s p H D I h;let#[v,Y,h]:=h;let#[m,M,Q]:=I.loc;let n:LZ X.f.J x:=by rcases o with k|k;exact .inl k;exact .inr (.inl k)
 let#[u,r,l]:=Q i x v hi Y n;apply wpAny_AugAssign_Name ?_;let go:i3 (model X.c X.w) X.A (eval e X.f) (λw g=>i3 (model X.c X.w) X.A (EJ op u w) (λr f=>i3 (model X.c X.w) X.A (yA X.f x r) (λ_=>SP X kI D .next) X.xe f) X.xe g) X.xe s:=by
  (apply bu (S kI s p H _ I h) ?_;intro w B #[y,H1,I1,E,J])
  (apply bu (L kI B p H1 v y u w _ I1 r E J) ?_;intro z s2 #[zv,H2,Z,C,G])
  exact Yk Z hN hi o C (λs3 I3=>#[_,H2,I3,G]) R
 rcases l with⟨hk,O⟩|⟨hk,c,U,t⟩
 .exact wpAny_loadName_local I.ok.gb hk M O go
 .rcases hk with hk|hk
  .exact wpAny_loadName_cell I.ok.gb hk U t go
  .rcases o with k|k
   .have:X.f.J.U.q x=du .free:=hk;rw[k] at this;cases this
   .have:X.f.J.U.q x=du .free:=hk;rw[k] at this;cases this
end
section
variable{X:Cx}{pos:jU}
def w18(c:TT)(tb:TS):TS:=λD f H=>∃W:br->St->Hp->ck,(∃m,W m f H)/\∀m f H,W m f H ->
 c f H λb i=>if b=dS then∃N:St->Hp->ck,(∀g j,N g j->∃h,h<m/\W h g j)/\tb { D with nx:=N,ct:=N,bk:=D.nx} f i else D.nx f i
def vt2{c:gI}{body:bf hC}{tc:TT}{tb:TS}(r:SO (model X.c X.w) X.A X.f X.xe)(M:PT X c tc)(O:qQ X body tb):PS X (.While c body [] pos) (w18 tc tb):=by
 intro kI s y H D I h;let#[W,#[L,C],turn]:=h;apply wpAny_While (codeAny_whileLoop (λn J=>NP X kI (W n) J) ?_ L #[y,H,I,C]);intro n G #[i,x,Q,B]
 (apply X5 r (bu (M kI G i x _ Q (turn n i x B)) ?_);intro b E #[u,t,l])
 cases b with
 | true =>
  let#[N,hN,l]:=l;rw[cu rfl];apply X5 r (bu (O kI E i u _ t l) λf R k=>?_);cases f with
  | next =>let#[g,j,I3,o]:=k;let#[p,q,m]:=hN g j o;exact#[p,q,g,j,I3,m]| cont =>let#[g,j,I3,o]:=k;let#[p,q,m]:=hN g j o;exact#[p,q,g,j,I3,m]| brk=>exact k| ret v=>exact k
 | false =>rw[cp D1];exact Td #[i,u,t,l]
end
structure It where
 go:br->Hp->ck
 qS:br->Hp->V->Hp->ck
 stop:br->Hp->ck
def ja(X:Cx)(kI:bf (fy×jC))(H:Hp)(b:fy):ck:=H b=dv/\b≠X.f.gc/\b∉X.fs/\(b∈X.ex\/X.s₀.o.h.v<=b)/\(∀x c,X.f.cells.q x=du c->c≠b)/\∀p∈X.pn++kI,p.1≠b
def lp.oM{X:Cx}{kI:bf (fy×jC)}{h:St}{H g:Hp}{s:fC}{b:fy}(I:lp X kI h H s)(f:s.o.h.v<=b)(j:g b=dv):ja X kI g b:=by
 apply#[j,Z5 (C9 I.lt f),I.Zu f,.inr (D4 I.sz f),λx c e z=>?_,λp i z=>?_]
 .let#[v,q]:=I.cell x c e;exact cz (C9 q.lt (by rw[z];exact f)) (EO _)
 .exact cz (C9 (E4 (I.pin p i).1) (by rw[z];exact f)) (EO _)
structure Turn(P:hH)(w:hL)(K:eM)(tg:gI)(J:It)(fp:bf fy)(it:fy)(tn:br->hR->Prop):Prop where
 mem:it∈fp
 obj:∀i h,tn i h->∀b∈fp,∃o,h.r b=du o/\∀v,o.data≠.cell v
 keep:∀i h h',tn i h->(∀b∈fp,∀o,h.r b=du o->h'.r b=du o)->tn i h'
 item:∀(X:Cx),X.c=P->X.w=w->X.K=K->X.calm=dS->∀(i:br) (kI:bf (fy×jC)) (s:fC) (σ:St) (H:Hp) (E:fx->fC->ck),lp X kI σ H s->(∀b∈fp,ja X kI H b)->tn i s.o->J.go i H ->
  i3 (model P w) X.A (pyNext (.ref it)) (λr s1=>∃u,r=du u /\
   i3 (model P w) X.A (Tc tg (.ref it) u) (λ_ s2=>∃x H',lp X kI σ H' s2/\RelV x u/\J.qS i H x H'/\tn (i+1) s2.o/\∀b∈fp,H' b=dv) E s1) E s
 done:∀(X:Cx),X.c=P->X.w=w->X.K=K->X.calm=dS->∀(i:br) (kI:bf (fy×jC)) (s:fC) (σ:St) (H:Hp) (E:fx->fC->ck),lp X kI σ H s->(∀b∈fp,ja X kI H b)->tn i s.o->J.stop i H ->
  i3 (model P w) X.A (pyNext (.ref it)) (λr s1=>r=dv/\lp X kI σ H s1) E s
 self:∀(A:iC) (i:br) (s:fC) (Q:fx->fC->ck) (E:fx->fC->ck),tn i s.o->Q (.ref it) s->i3 (model P w) A (pyIter (.ref it)) Q E s
abbrev TI:=St->Hp->(It->Hp->ck)->ck
def BN(X:Cx)(kI:bf (fy×jC))(j:St)(tg:gI)(R:It->Hp->ck)(k:fx)(h:fC):ck:=∃(it:fy) (i:bf fy) (g:br->hR->ck) (J:It) (f:Hp),k=.ref it/\lp X kI j f h/\Turn X.c X.w X.K tg J i it g/\g 0 h.o/\(∀b∈i,ja X kI f b)/\R J f
def PI(X:Cx)(tg iter:gI)(g:TI):ck:=
 ∀(kI:bf (fy×jC)) (s:fC) (f:St) (H:Hp) (R:It->Hp->ck),lp X kI f H s->g f H R ->
  i3 (model X.c X.w) X.A (eval iter X.f) (λv h=>i3 (model X.c X.w) X.A (pyIter v) (BN X kI f tg R) X.xe h) X.xe s
def ES {s: fC} (ho: s.o.r it = du o) (hc: o.cls = .type n) (hd: o.data = .fields vs) (hn:["enumerate", "zip", "dict_itemiterator", "dict_reverseitemiterator", "odict_iterator", "itertools.zip_longest", "itertools.pairwise"].contains n=eH) (hQ:Q #[] s):i3 M A (Tc tg (.ref it) u) Q E s:=by
  unfold Tc;cases tg <;> first
    | exact C8 hQ
    | (cases u <;> first
        | exact C8 hQ
        | (refine wpAny_bind (wpAny_load ho ?_)
           rw[hc,hd];show i3 M A (if(["enumerate", "zip", "dict_itemiterator", "dict_reverseitemiterator", "odict_iterator", "itertools.zip_longest", "itertools.pairwise"].contains n&&vs[0]?==du (rawInt _))=dS then _ else _) Q E s;rw[cp (by intro h;rw[hn,Bool.false_and] at h;cases h)];exact C8 hQ))
def BO(K:eM)(a:fy):It:=⟨λi H=>∃xs x,fb K H a xs/\xs[i]?=du x,λi H x f=>f=H/\∀xs,fb K H a xs->xs[i]?=du x,λi H=>∃xs,fb K H a xs/\xs.l<=i⟩
def BP(K:eM)(a:fy):It:=⟨λi H=>∃xs x,eR K H a xs/\xs[i]?=du x,λi H x f=>f=H/\∀xs,eR K H a xs->xs[i]?=du x,λi H=>∃xs,eR K H a xs/\xs.l<=i⟩
def Mh(lo:bz)(n:br):It:=⟨λi _=>i<n,λi H x f=>f=H/\x=.int (lo+i),λi _=>n<=i⟩
def vc8{P:hH}{w:hL}{K:eM}{tg:gI}(a it:fy):Turn P w K tg (BO K a) [it] it (λi h=>h.IsListIter it a i) where
 mem:=by simp
 obj:=λi h st b f=>by
  let e:b=it:=by simpa using f
  subst e;let#[o,e,c,d]:=st;exact#[o,e,λv z=>by rw[d] at z;cases z]
 keep:=λi h l st k=>st.at λo e=>k it (by simp) o e
 item:=by intro X r hw t L i kI s G H E I j st q;subst r hw t;let#[xs,x,g,n]:=q;let#[its,m,p,R]:=I.list g;let#[u,U,O]:=m.get n;let#[C,f1,f2,B,A,y]:=j it (by simp);apply wpAny_pyNext_list_item st p.Y (x:=u) (by simpa using U) λl J N=>?_;let Z:lp X kI G H { s with heap:=l}:=I.turned (t':=s.H) (λb o f e=>(N.2 b f).u e) C f1 B A y;let#[o,e,c,d]:=id J;exact#[u,rfl,ES (s:={ s with heap:=l}) e c d ∅ #[x,H,Z,O,#[rfl,λys S=>by rw[I.kz S g];exact n],J,λb f=>(j b f).1]]
 done:=by intro X r hw t L i kI s G H E I j st q;subst r hw t;let#[xs,g,n]:=q;let#[its,m,p,R]:=I.list g;let#[C,f1,f2,B,A,y]:=j it (by simp);let hl:=m.l;exact wpAny_pyNext_list_end (I.ok.hd L) st p.Y (by simp;omega) λl Y=>#[rfl,I.turned (t':=s.H) (λb o f e=>Y b o f e) C f1 B A y]
 self:=λ_ _ _ _ _ st h=>wpAny_pyIter_listiter st h
def v82{P:hH}{w:hL}{K:eM}{tg:gI}(a it:fy):Turn P w K tg (BP K a) [it] it (λi h=>h.IsTupleIter it a i) where
 mem:=by simp
 obj:=λi h st b f=>by
  let e:b=it:=by simpa using f
  subst e;let#[o,e,c,d]:=st;exact#[o,e,λv z=>by rw[d] at z;cases z]
 keep:=λi h l st k=>st.at λo e=>k it (by simp) o e
 item:=by intro X r hw t L i kI s G H E I j st q;subst r hw t;let#[xs,x,g,n]:=q;let#[its,m,p,R]:=I.tuple g;let#[u,U,O]:=m.get n;let#[C,f1,f2,B,A,y]:=j it (by simp);apply wpAny_pyNext_tuple_item st (show s.o.IsTuple a its.e from p) (x:=u) (by simpa using U) λl J N=>?_;let Z:lp X kI G H { s with heap:=l}:=I.turned (t':=s.H) (λb o f e=>(N.2 b f).u e) C f1 B A y;let#[o,e,c,d]:=id J;exact#[u,rfl,ES (s:={ s with heap:=l}) e c d ∅ #[x,H,Z,O,#[rfl,λys S=>by rw[I.lQ S g];exact n],J,λb f=>(j b f).1]]
 done:=by intro X r hw t L i kI s G H E I j st q;subst r hw t;let#[xs,g,n]:=q;let#[its,m,p,R]:=I.tuple g;let#[C,f1,f2,B,A,y]:=j it (by simp);let hl:=m.l;exact wpAny_pyNext_tuple_end (I.ok.hd L) st (show s.o.IsTuple a its.e from p) (by simp;omega) λl Y=>#[rfl,I.turned (t':=s.H) (λb o f e=>Y b o f e) C f1 B A y]
 self:=λ_ _ _ _ _ st h=>wpAny_pyIter_tupleiter st h
def v83{P:hH}{w:hL}{K:D17}{tg:gI}(it:fy)(lo:bz)(n:br):Turn P w K tg (Mh lo n) [it] it (λi h=>SH h it (lo+(i:br)*1) ((n:bz)-(i:br)) 1) where
 mem:=by simp
 obj:=λi h st b f=>by
  let e:b=it:=by simpa using f
  subst e;exact#[_,st,λv z=>by let L:z3 _=z4 v:=z;cases L]
 keep:=λi h l st k=>k it (by simp) _ st
 item:=by intro X q hw r p i kI s B H E I j st m;subst q hw r;let#[A,f1,f2,y,x,u]:=j it (by simp);let W:=D33 (prog:=X.c) (w:=X.w) (I.ok.hd p) it lo 1 n;apply W.item i s _ _ m st λv l C O J N=>?_;let#[t,rfl]:=O;let R:lp X kI B H { s with heap:=l,toks:=C}:=I.turned (λb o f e=>N b o (by simpa using f) e) A f1 y x u;apply#[_,rfl,ES (s:={ s with heap:=l,toks:=C}) (n:= "range_iterator") J rfl rfl ∅ #[.int (lo+i),H,R,#[t,?_],#[rfl,rfl],J,λb f=>(j b f).1]];rw[SK]
 done:=by intro X q hw r p i kI s B H E I j st m;subst q hw r;let#[A,f1,f2,y,x,u]:=j it (by simp);exact wpAny_pyNext_range_end (I.ok.hd p) st (by let:n<=i:=m;omega) λl Q=>#[rfl,I.turned (t':=s.H) (λb o f e=>Q b o f e) A f1 y x u]
 self:=λ_ _ _ _ _ st h=>wpAny_pyIter_rangeiter st h
section
variable{X:Cx}{tg:gI}
def v42{kI:bf (fy×jC)}{f:St}{H:Hp}{s:fC}{R:It->Hp->ck}{E:fx->fC->ck}{lo hi:bz}{t u v:Tok}{tk:br}(I:lp X kI f H s)(h1:-(2^62)<=lo)(k:lo<2^62)(j:-(2^62)<=hi)(i:hi<2^62) (q:R (Mh lo (hi-lo).i) H):i3 (model X.c X.w) X.A (pyIter (.ref s.o.h.v)) (BN X kI f tg R) E { s with heap:=s.o.R { cls:=.type "range",data:=.fields [.int lo t,.int hi u,.int 1 v].e},toks:=tk}:=by
 apply wpAny_pyIter_range (SJ ..) (yB h1 k j i) ?_;let g:lp X kI f H { s with heap:=s.o.R { cls:=.type "range",data:=.fields [.int lo t,.int hi u,.int 1 v].e},toks:=tk}:=I.kept λb o e=>B8 _ e;apply#[(s.o.R { cls:=.type "range",data:=.fields [.int lo t,.int hi u,.int 1 v].e}).h.v,[(s.o.R { cls:=.type "range",data:=.fields [.int lo t,.int hi u,.int 1 v].e}).h.v],_,_,H,rfl,
  g.kept (t':=tk) λb o e=>B8 _ e,v83 _ lo (hi-lo).i,?_,λb h=>?_,q]
 .have m:lo+((0:br):bz)*1=lo:=by simp
  let l:(((hi-lo).i:br):bz)-((0:br):bz)=P3 lo hi 1:=by rw[xf];split <;> omega
  show SH _ _ (lo+((0:br):bz)*1) ((((hi-lo).i:br):bz)-((0:br):bz)) 1;rw[m,l];exact E7 _ rfl
 .have e:b=(s.o.R { cls:=.type "range",data:=.fields [.int lo t,.int hi u,.int 1 v].e}).h.v:=by simpa using h
  subst e;exact g.oM (B9 _) (g.aB.y (B9 _))
def xg9(h:TA):TI:=λf H R=>h f H λg i=>∃j:bz,g=[.int j]/\-(2^62)<=j/\j<2^62/\R (Mh 0 j.i) i
def xg8(h:TA):TI:=λf H R=>h f H λg k=>∃i j:bz,g=[.int i,.int j]/\(-(2^62)<=i/\i<2^62/\-(2^62)<=j/\j<2^62)/\R (Mh i (j-i).i) k
def vg4{a:gI}{g:TA}{p pos:jU}(u:Gl X "range")(o:X.mg "range" = dv)(x:PA X [a] g)(n:D2 [a] X.f=[(eH,eval a X.f)]:=by rfl):PI X tg (.Call (.Name "range" p) [a] [] pos) (xg9 g):=by
 intro kI s i H R I h
 (apply Call_ (sI I u o OR (J9 (bu (x pos kI s i H _ I h) ?_) n rfl));intro B C #[A,E,y,l,f])
 let#[j,e,f,m,q]:=f;subst e;cases l with
 | cons r k =>cases k;let#[t,rfl]:=r;exact call_range_1 (v42 y () () f m (by simpa using q))
def vg3{a b:gI}{k:TA}{p pos:jU}(C:Gl X "range")(B:X.mg "range" = dv)(E:PA X [a,b] k)(A:D2 [a,b] X.f=[(eH,eval a X.f),(eH,eval b X.f)]:=by rfl)(l:D2 [b] X.f=[(eH,eval b X.f)]:=by rfl):
  PI X tg (.Call (.Name "range" p) [a,b] [] pos) (xg8 k):=by
 intro kI s m H R I h;apply Call_ (sI I C B OR (J9 (bu (E pos kI s m H _ I h) λL N ⟨J,O,G,n,g⟩=>?_) (by rw[A,l]) (by rw[l];rfl)));let#[i,j,e,#[g,y,x,u],q]:=g;subst e;cases n with
 | cons r f =>
  cases f with
  | cons o f =>cases f;let#[t,rfl]:=r;let#[M,rfl]:=o;exact call_range_2 (v42 G g y x u q)
def HX(n:TI)(g:TG)(tb:TS):TS:=λD f H=>n f H λJ p=>∃W:br->br->St->Hp->ck,(∃m,W 0 m f p)/\∀i m f H,W i m f H ->
 (J.stop i H/\D.nx f H)\/(J.go i H/\∃N:St->Hp->ck,(∀h j,N h j->∃l,l<m/\W (i+1) l h j)/\∀x j,J.qS i H x j->g x f j λk o=>tb { D with nx:=N,ct:=N,bk:=D.nx} k o)
def Hf(f:bf fy)(h:hR):bf (fy×jC):=f.filterMap λb=>(h.r b).t λo=>(b,o)
def Rc{f:bf fy}{h:hR}{b:fy}{o:jC}(g:b∈f)(e:h.r b=du o):(b,o)∈Hf f h:=KJ.mpr #[b,g,by rw[e];rfl]
def vh3(f:p∈Hf i h):p.1∈i/\h.r p.1=du p.2:=by
 let#[b,g,e]:=KJ.mp f;cases q:h.r b with
 | none=>rw[q] at e;cases e
 | some o =>rw[q] at e;let j:(b,o)=p:=E8 e;subst j;exact#[g,q]
def lp.pinned{kI:bf (fy×jC)}{g:St}{H:Hp}{s:fC}{f:bf fy}(I:lp X kI g H s)(l:∀b∈f,ja X kI H b)(k:∀b∈f,∃o,s.o.r b=du o/\∀v,o.data≠.cell v):lp X (kI++Hf f s.o) g H s:=I.sP λp j=>(F7.mp j).n (λz=>I.pin p (M8 _ z)) λz=>by let#[h,e]:=vh3 z;let#[m,f1,f2,_]:=l p.1 h;let#[o,i,d]:=k p.1 h;rw[e] at i;cases i;exact#[e,m,f1,f2,d]
def lp.gW{kI pl:bf (fy×jC)}{f:St}{H:Hp}{s:fC}(I:lp X (kI++pl) f H s):lp X kI f H s:=I.sP λp g=>I.pin p (M8 _ (sk _ g))
def x10{iter:gI}{body:bf hC}{wi:TI}{g:TG}{tb:TS}{pos:jU}(E:SO (model X.c X.w) X.A X.f X.xe)(hc:X.calm=dS)(hi:PI X tg iter wi)(hg:PG X tg g)(p:qQ X body tb) (hs:∀x,X9 iter X.f x=pure x:=by intro _;rfl):PS X (.For tg iter body [] pos) (HX wi g tb):=by
 intro kI s Z H D I h;apply wpAny_For (bu (hi kI s Z H _ I h) λv s1 h1=>bu h1 λRz s2 h2=>?_) hs;let#[it,L,tn,J,H2,e,I2,T,nS,f2,W,#[m0,w0],turn]:=h2;subst e;let R:∀{y:Hp},(∀b∈L,y b=dv)->∀b∈L,ja X kI y b:=λhn b p=>#[hn b p,(f2 b p).2];apply codeAny_forLoop_any (λn s'=>∃i l y,lp X kI l y s'/\tn i s'.o/\(∀b∈L,y b=dv)/\W i n l y) ?_ m0 #[0,Z,H2,I2,nS,λb p=>(f2 b p).1,w0];intro n s3 #[i,k,M,I3,Rj,G,w3];rcases turn i n k M w3 with⟨stop,qn⟩|⟨go,N,hN,step⟩
 ·(apply X5 E (bu (T.done X rfl rfl rfl hc i kI s3 k M X.xe I3 (R G) Rj stop) ?_);rintro r s4 ⟨S,I4⟩)
  subst S;exact Td ⟨k,M,I4,qn⟩
 ·(apply X5 E (bu (T.item X rfl rfl rfl hc i kI s3 k M X.xe I3 (R G) Rj go) ?_);intro r s4 #[u,S,h4])
  subst S
  (apply X5 E (bu h4 ?_);intro _ s5 #[x,H5,I5,r5,y5,Y,RX])
  let U:=I5.pinned (R RX) (T.obj _ _ Y)
  (apply X5 E (bu (hg _ s5 k H5 x u _ U r5 (step x H5 y5)) ?_);intro _ s6 #[O,H6,I6,q6])
  apply X5 E (bu (p _ s6 O H6 _ I6 q6) λf Q B=>?_);let again:∀{j:St} {t:Hp},lp X (kI++Hf L s5.o) j t Q->N j t->∃m,m<n/\∃i l y,lp X kI l y Q/\tn i Q.o/\(∀b∈L,y b=dv)/\W i m l y:=λ{j t} q C=>by let#[m',hm,w7]:=hN j t C;apply#[m',hm,i+1,j,t,q.gW,T.keep _ _ _ Y λb p o e=>(q.pin (b,o) (M8 _ (M8 _ (Rc p e)))).1,λb p=>?_,w7];let#[o,e,d]:=T.obj _ _ Y b p;exact(q.pin (b,o) (M8 _ (M8 _ (Rc p e)))).2.1
  cases f with
  | next=>let#[j,t,q,C]:=B;exact again q C| cont=>let#[j,t,q,C]:=B;exact again q C| brk=>let#[j,t,q,B]:=B;exact#[j,t,q.gW,B]| ret v=>let#[x7,j,t,q,r7,B]:=B;exact#[x7,j,t,q.gW,r7,B]
end
abbrev R2:=V->V->Hp->VK->ck
def dM(X:Cx)(f:fx->fx->Sem fx)(r:R2):ck:=
 ∀(kI:bf (fy×jC)) (s:fC) (g:St) (H:Hp) (x y:V) (v u:fx) (Q:VK),lp X kI g H s->RelV x v->RelV y u->r x y H Q ->
  i3 (model X.c X.w) X.A (f v u) (EP X kI g Q) X.xe s
def Ag(X:Cx)(f:fx->Sem fx)(r:V->Hp->VK->ck):ck:=
 ∀(kI:bf (fy×jC)) (s:fC) (g:St) (H:Hp) (x:V) (v:fx) (Q:VK),lp X kI g H s->RelV x v->r x H Q ->
  i3 (model X.c X.w) X.A (f v) (EP X kI g Q) X.xe s
def bK(X:Cx)(f:fx)(r:bf V->Hp->VK->ck):ck:=
 ∀(kI:bf (fy×jC)) (s:fC) (g:St) (H:Hp) (xs:bf V) (h:bf fx) (Q:VK),lp X kI g H s->Vals xs h->r xs H Q ->
  i3 (model X.c X.w) X.A (call f h) (EP X kI g Q) X.xe s
def HS(r:R2)(g tb:TE):TE:=λf H Q=>g f H λx i=>tb f i λy h=>r x y h Q
def tUn(r:V->Hp->VK->ck)(g:TE):TE:=λf H Q=>g f H λx h=>r x h Q
def rI(C:bz->bz->ck)(g:bz->bz->V):R2:=λx y H Q=>∃i j,x=.int i/\y=.int j/\C i j/\Q (g i j) H
def sO(g:bz->bz->V):R2:=λx y H Q=>∃i j,x=.int i/\y=.int j/\Q (g i j) H
def rU(g:bz->V):V->Hp->VK->ck:=λx H Q=>∃i,x=.int i/\Q (g i) H
section
variable{X:Cx}{a b c:gI}{ta tb tc:TE}{pos:jU}
def Ex(C:PE X a ta)(B:PE X b tb){kI:bf (fy×jC)}{s:fC}{g:St}{H:Hp}{R:V->V->Hp->ck}(I:lp X kI g H s) (h:ta g H λx m=>tb g m λy i=>R x y i) {Q:fx->fC->ck} {f:fx->fx->Sem fx} (t:∀v u l x y i,lp X kI g i l->RelV x v->RelV y u->R x y i->i3 (model X.c X.w) X.A (f v u) Q X.xe l): i3 (model X.c X.w) X.A (eval a X.f) (λv k=>i3 (model X.c X.w) X.A (eval b X.f) (λu j=>i3 (model X.c X.w) X.A (f v u) Q X.xe j) X.xe k) X.xe s:=by
 (apply bu (C kI s g H _ I h) ?_;intro v n #[x,m,G,p,r])
 (apply bu (B kI n g m _ G r) ?_;intro u l #[y,i,E,o,q])
 exact t v u l x y i E p o q
def xq0{op:Operator}{r:R2}(k:dM X (N0 op) r)(m:PE X a ta)(l:PE X b tb):PE X (.BinOp a op b pos) (HS r ta tb):=by intro kI s f H Q I h;exact wpAny_BinOp (Ex m l I h λv u g x y o n j i q=>k kI g f o x y v u Q n j i q)
def xp8{op:UnaryOp}{r:V->Hp->VK->ck}(k:Ag X (Gr op) r)(l:PE X a ta):PE X (.UnaryOp op a pos) (tUn r ta):=by
 intro kI s f H Q I h
 (apply UnaryOp_ (bu (l kI s f H _ I h) ?_);intro v g #[x,n,m,i,j];exact k kI g f n x v Q m i j)
def FK{f:fx->fx->Sem fx}{C:bz->bz->ck}{g:bz->bz->bz} (rule:∀(i j:bz) (t u:Tok) (s:fC) (Q:fx->fC->ck) (E:fx->fC->ck),C i j->Q (.int (g i j) s.H) { s with toks:=s.H+1}->i3 (model X.c X.w) X.A (f (.int i t) (.int j u)) Q E s): dM X f (rI C λi j=>.int (g i j)):=by
 intro kI s o H x y v u Q I m l h;let#[i,j,rfl,rfl,n,q]:=h;let#[t,rfl]:=m;let#[k,rfl]:=l;exact rule i j t k s _ _ n #[.int (g i j),H,I.tok _,#[_,rfl],q]
def uj{f:fx->fx->Sem fx}{g:bz->bz->bz} (rule:∀(i j:bz) (t u:Tok) (s:fC) (Q:fx->fC->ck) (E:fx->fC->ck),Q (.int (g i j) s.H) { s with toks:=s.H+1}->i3 (model X.c X.w) X.A (f (.int i t) (.int j u)) Q E s): dM X f (sO λi j=>.int (g i j)):=by
 intro kI s n H x y v u Q I m l h;let#[i,j,rfl,rfl,q]:=h;let#[t,rfl]:=m;let#[k,rfl]:=l;exact rule i j t k s _ _ #[.int (g i j),H,I.tok _,#[_,rfl],q]
def zE{f:fx->fx->Sem fx}{g:bz->bz->cg} (rule:∀(i j:bz) (t u:Tok) (s:fC) (Q:fx->fC->ck) (E:fx->fC->ck),Q (.bool (g i j)) s->i3 (model X.c X.w) X.A (f (.int i t) (.int j u)) Q E s): dM X f (sO λi j=>.bl (g i j)):=by
 intro kI s n H x y v u Q I m l h;let#[i,j,rfl,rfl,q]:=h;let#[t,rfl]:=m;let#[k,rfl]:=l;exact rule i j t k s _ _ #[.bl (g i j),H,I,rfl,q]
def Ar(i j:bz):ck:=0<j/\j<1073741824
def lL(i j:bz):ck:=0<=j/\j<=1000000/\i.natAbs<2^64
def kR(i j:bz):ck:=(-(2^64)<i/\i<2^64)\/(-(2^64)<j/\j<2^64)
def kR.ok(h:kR i j):IntMulOk i j:=by
 rcases h with⟨g,f⟩|⟨g,f⟩
 .exact .of_left (intBits_le_64 g f)
 .exact .of_right (intBits_le_64 g f)
def v81(k:br):(0:bz)<=2^k:=by rw[two_pow_cast];exact P5 _
def Di:dM X (N0 .Add) (sO λi j=>.int (i+j)):=uj λ_ _ _ _ _ _ _ q=>add_int q
def x32:dM X (N0 .Sub) (sO λi j=>.int (i-j)):=uj λ_ _ _ _ _ _ _ q=>sub_int q
def Dh:dM X (N0 .Mult) (rI kR λi j=>.int (i*j)):=FK λ_ _ _ _ _ _ _ f q=>mul_int q f.ok
def x38:dM X (N0 .Mod) (rI (λ_ j=>0<j) λi j=>.int (i%j)):=FK λi j _ _ _ _ _ f q=>by let g:(0:bz)<j:=f;exact mod_int' () (by rw[DY i ()];exact q)
def x36:dM X (N0 .Pow) (rI lL λi j=>.int (i^j.i)):=FK λ_ _ _ _ _ _ _ f q=>pow_int_small f.1 f.2.1 f.2.2 q
def x34:dM X (N0 .LShift) (rI lL λi j=>.int (i*2^j.i)):=FK λ_ _ _ _ _ _ _ f q=>lshift_int_small f.1 f.2.1 f.2.2 q
def x33:dM X (N0 .RShift) (rI (λ_ j=>0<=j) λi j=>.int (i / 2^j.i)):=FK λi j _ _ _ _ _ f q =>
 rshift_int f (by rw[p0 i (v81 _)];exact q)
def x41:dM X (N0 .BitAnd) (sO λi j=>.int (Q6 i j)):=uj λ_ _ _ _ _ _ _ q=>and_int q
def xq4:dM X (N0 .BitOr) (sO λi j=>.int (Pc i j)):=uj λ_ _ _ _ _ _ _ q=>or_int q
def x31:dM X (N0 .BitXor) (sO λi j=>.int (Pe i j)):=uj λ_ _ _ _ _ _ _ q=>xor_int q
def wr4:dM X (EJ .Add) (sO λi j=>.int (i+j)):=uj λ_ _ _ _ _ _ _ q=>iadd_int q
def unI{f:fx->Sem fx}{g:bz->bz} (rule:∀(i:bz) (t:Tok) (s:fC) (Q:fx->fC->ck) (E:fx->fC->ck),Q (.int (g i) s.H) { s with toks:=s.H+1}->i3 (model X.c X.w) X.A (f (.int i t)) Q E s): Ag X f (rU λi=>.int (g i)):=by
 intro kI s k H x v Q I j h;let#[i,rfl,q]:=h;let#[t,rfl]:=j;exact rule i t s _ _ #[.int (g i),H,I.tok _,#[_,rfl],q]
def wx3:Ag X (Gr .USub) (rU λi=>.int (-i)):=unI λ_ _ _ _ _ q=>neg_int q
def wx4:Ag X (Gr .Invert) (rU λi=>.int (O9 i)):=unI λ_ _ _ _ _ q=>invert_int q
end
def De:V->V->cg
 | .non,.non=>dS|.non,.int _=>dS|.int _,.non=>dS|.non,.bl _=>dS|.bl _,.non=>dS|.non,.str _=>dS|.str _,.non=>dS| .int _,.int _=>dS|.bl _,.bl _=>dS|.str _,.str _=>dS|.vm _,.vm _=>dS| .int _,.str _=>dS|.str _,.int _=>dS|.bl _,.str _=>dS|.str _,.bl _=>dS| _,_=>eH
def rEq:R2:=λx y H Q=>De x y=dS/\Q (.bl (decide (x=y))) H
def rNe:R2:=λx y H Q=>De x y=dS/\Q (.bl (!decide (x=y))) H
def vn1:decide (V.int i=V.int j)=(i==j):=by rw[T8];simp
def w85:decide (V.bl i=V.bl j)=(i==j):=by rw[T8];simp
def vn0:decide (V.str i=V.str j)=(i==j):=by rw[T8];simp
def vn2:decide (V.vm i=V.vm j)=(i.L==j.L):=by rw[T8];cases i;cases j;simp
section
variable{X:Cx}{a b c:gI}{ta tb tc:TE}{pos:jU}
def fZ(I:lp X kI f H s)(q:Q (.bl k) H)(e:k=g):EP X kI f Q (.bool g) s:=by subst e;exact#[.bl k,H,I,rfl,q]
def Kh:dM X (L8 .Eq) rEq:=by
 intro kI s m H x y v u Q I l f h;let#[k,q]:=h;cases x with
 | non =>
  cases l;cases y with
  | non=>cases f;exact C82 (fZ I q (by simp))
  | bl j=>cases f;exact C83 (fZ I q (by simp))
  | int j=>let#[g,rfl]:=f;exact C96 (fZ I q (by simp))| str j=>let#[g,rfl]:=f;exact C97 (fZ I q (by simp))| _=>exact cz (show eH=dS from k) D1
 | bl i =>
  cases l;cases y with
  | non=>cases f;exact C84 (fZ I q (by simp))
  | bl j=>cases f;exact eq_bool (fZ I q w85)
  | str j=>let#[g,rfl]:=f;exact C85 (fZ I q (by simp))| _=>exact cz (show eH=dS from k) D1
 | int i =>
  let#[t,rfl]:=l;cases y with
  | non=>cases f;exact C98 (fZ I q (by simp))
  | int j=>let#[g,rfl]:=f;exact eq_int (fZ I q vn1)| str j=>let#[g,rfl]:=f;exact C99 (fZ I q (by simp))| _=>exact cz (show eH=dS from k) D1
 | str i =>
  let#[t,rfl]:=l;cases y with
  | non=>cases f;exact D00 (fZ I q (by simp))
  | bl j=>cases f;exact C86 (fZ I q (by simp))
  | int j=>let#[g,rfl]:=f;exact D01 (fZ I q (by simp))| str j=>let#[g,rfl]:=f;exact eq_str (fZ I q vn0)| _=>exact cz (show eH=dS from k) D1
 | vm i =>
  let#[t,rfl]:=l;cases y with
  | vm j=>let#[g,rfl]:=f;exact W.eq_bytes (fZ I q vn2)| _=>exact cz (show eH=dS from k) D1
 | _=>cases y <;> exact cz (show eH=dS from k) D1
def Kf:dM X (L8 .NotEq) rNe:=by
 intro kI s m H x y v u Q I l f h;let#[k,q]:=h;cases x with
 | non =>
  cases l;cases y with
  | non=>cases f;exact C87 (fZ I q (by simp))
  | bl j=>cases f;exact C88 (fZ I q (by simp))
  | int j=>let#[g,rfl]:=f;exact D02 (fZ I q (by simp))| str j=>let#[g,rfl]:=f;exact D03 (fZ I q (by simp))| _=>exact cz (show eH=dS from k) D1
 | bl i =>
  cases l;cases y with
  | non=>cases f;exact C89 (fZ I q (by simp))
  | bl j=>cases f;exact ne_bool (fZ I q (cv not w85))
  | str j=>let#[g,rfl]:=f;exact C90 (fZ I q (by simp))| _=>exact cz (show eH=dS from k) D1
 | int i =>
  let#[t,rfl]:=l;cases y with
  | non=>cases f;exact D04 (fZ I q (by simp))
  | int j=>let#[g,rfl]:=f;exact ne_int (fZ I q (cv not vn1))| str j=>let#[g,rfl]:=f;exact D05 (fZ I q (by simp))| _=>exact cz (show eH=dS from k) D1
 | str i =>
  let#[t,rfl]:=l;cases y with
  | non=>cases f;exact D06 (fZ I q (by simp))
  | bl j=>cases f;exact C91 (fZ I q (by simp))
  | int j=>let#[g,rfl]:=f;exact D07 (fZ I q (by simp))| str j=>let#[g,rfl]:=f;exact ne_str (fZ I q (cv not vn0))| _=>exact cz (show eH=dS from k) D1
 | vm i =>
  let#[t,rfl]:=l;cases y with
  | vm j=>let#[g,rfl]:=f;exact W.ne_bytes (fZ I q (cv not vn2))| _=>exact cz (show eH=dS from k) D1
 | _=>cases y <;> exact cz (show eH=dS from k) D1
def Kg:dM X (L8 .Lt) (sO λi j=>.bl (decide (i<j))):=zE λ_ _ _ _ _ _ _ q=>lt_int q
def xq5:dM X (L8 .LtE) (sO λi j=>.bl (decide (i<=j))):=zE λ_ _ _ _ _ _ _ q=>le_int q
def xq6:dM X (L8 .Gt) (sO λi j=>.bl (decide (j<i))):=zE λ_ _ _ _ _ _ _ q=>gt_int q
def xq7:dM X (L8 .GtE) (sO λi j=>.bl (decide (j<=i))):=zE λ_ _ _ _ _ _ _ q=>ge_int q
def vg9:dM X (L8 .Lt) (λx y H Q=>∃i j,x=.str i/\y=.str j/\Q (.bl (decide (i.cps.L<j.cps.L))) H):=by intro kI s k H x y v u Q I g f h;let#[i,j,rfl,rfl,q]:=h;let#[t,rfl]:=g;let#[l,rfl]:=f;exact lt_str (fZ I q rfl)
def zD:dM X (L8 .IsNot) (λx y H Q=>y=.non/\Q (.bl (!decide (x=.non))) H):=by
 intro kI s i H x y v u Q I f g h;let#[rfl,q]:=h;cases g;apply isnot_none_gen (fZ I q ?_);cases x <;> first
  | (cases f;rfl)
  | (let#[t,rfl]:=f;rfl)
def dM.or{f:fx->fx->Sem fx}{r r':R2}(h:dM X f r)(h':dM X f r'):dM X f (λx y H Q=>r x y H Q\/r' x y H Q):=by
 intro kI s g H x y v u Q I j i q;rcases q with q|q
 .exact h kI s g H x y v u Q I j i q
 .exact h' kI s g H x y v u Q I j i q
def ag(b:gI)(h:op≠.In:=by decide)(f:op≠.NotIn:=by decide):GC op b=eH:=by
 let i:(op==CmpOp.In)=eH:=by cases op <;> first|rfl|exact cz rfl h
 let g:(op==CmpOp.NotIn)=eH:=by cases op <;> first|rfl|exact cz rfl f
 cases b <;> simp[GC,i,g]
def wn6(k:dM X (L8 op) r)(n:PE X a ta)(m:PE X b tb)(l:GC op b=eH):PE X (.Compare a [op] [b] pos) (HS r ta tb):=by intro kI s f H Q I h;exact wpAny_Compare1 (Ex n m I h λv u g x y p o j i q=>k kI g f p x y v u Q o j i q) l
def xo7(t:TE):TT:=λf H Q=>t f H λx g=>∃k,x=.bl k/\Q k g
def wl6{op:CmpOp}{r:R2}(q:dM X (L8 op) r)(B:PE X a ta)(A:PE X b tb)(t:GC op b=eH):PT X (.Compare a [op] [b] pos) (xo7 (HS r ta tb)):=by
 intro kI s f H Q I h;apply wpAny_isTrue_Compare1 (bu (B kI s f H _ I h) λv i ⟨x,L,E,m,p⟩=>bu (A kI i f L _ E p) λu g ⟨y,J,C,l,o⟩ =>
  bu (q kI g f J x y v u _ C m l o) λc M ⟨z,G,I3,j,k,e,n⟩=>?_) t
 subst e;cases j;exact U9 #[G,I3,n]
def iU:(iZ:br)<2^63:=by rw[xN];decide
def rM:dM X (N0 .Add) (λx y H Q=>∃i j,x=.str i/\y=.str j/\i.l+j.l<=iZ/\Q (.str (i++j)) H):=by intro kI s m H x y v u Q I k g h;let#[i,j,rfl,rfl,l,q]:=h;let#[t,rfl]:=k;let#[f,rfl]:=g;exact add_str (λf n=>#[.str (i++j),H,I.tok _,#[_,rfl],q]) l
def vals1(r:Vals [x] us):∃u,us=[u]/\RelV x u:=by
 cases r with
 | cons g f=>cases f;exact#[_,rfl,g]
def vals2(r:Vals [x,y] us):∃u f,us=[u,f]/\RelV x u/\RelV y f:=by
 cases r with
 | cons j i =>
  cases i with
  | cons h g=>cases g;exact#[_,_,rfl,j,h]
def vz8:bK X (.builtin "abs") (λxs H Q=>∃i,xs=[.int i]/\Q (.int (if i<0 then -i else i)) H):=by intro kI s f H xs g Q I r h;let#[i,rfl,q]:=h;let#[u,rfl,t,rfl]:=vals1 r;exact call_abs_int λu j=>#[.int (if i<0 then -i else i),H,I.tok _,#[_,rfl],q]
def vp1(g:X.calm=dS):bK X (.builtin "max") (λxs H Q=>∃i j,xs=[.int i,.int j]/\Q (.int (if j>i then j else i)) H):=by
 intro kI s l H xs n Q I r h;let#[i,j,rfl,q]:=h;let#[u,m,rfl,#[t,rfl],#[p,rfl]]:=vals2 r;apply max_two_ints (I.ok.hd g) λx o k=>#[_,H,I.kept k,?_,q];by_cases f:j>i
 .rw[cu f,cu f];exact#[_,rfl]
 .rw[cp f,cp f];exact#[_,rfl]
def vo9(g:X.calm=dS):bK X (.builtin "min") (λxs H Q=>∃i j,xs=[.int i,.int j]/\Q (.int (if j<i then j else i)) H):=by
 intro kI s l H xs n Q I r h;let#[i,j,rfl,q]:=h;let#[u,m,rfl,#[t,rfl],#[p,rfl]]:=vals2 r;apply min_two_ints (I.ok.hd g) λx o k=>#[_,H,I.kept k,?_,q];by_cases f:j<i
 .rw[cu f,cu f];exact#[_,rfl]
 .rw[cp f,cp f];exact#[_,rfl]
def vp3:bK X (.type "int") (λxs H Q=>(∃i,xs=[.int i]/\Q (.int i) H)\/∃k,xs=[.bl k]/\Q (.int (if k then 1 else 0)) H):=by
 intro kI s g H xs j Q I r h;rcases h with⟨i,rfl,q⟩|⟨k,rfl,q⟩
 .let#[u,rfl,t,rfl]:=vals1 r;exact call_int_int #[.int i,H,I,#[_,rfl],q]
 .let#[u,rfl,f]:=vals1 r;cases f;exact call_int_bool #[.int (if k then 1 else 0),H,I.tok _,#[_,rfl],q]
def v12:bK X (.builtin "divmod") (λxs H Q=>∃i j,xs=[.int i,.int j]/\Ar i j/\∀p,H p=dv->Q (.ref p) (l6 H p (.tup [.int (i / j),.int (i%j)]))):=by intro kI s g H xs l Q I r h;let#[i,j,rfl,#[x,n],q]:=h;let#[u,k,rfl,#[t,rfl],#[m,rfl]]:=vals2 r;apply divmod_int () ?_ (.inl (PyProof.noPylong_small ()));rw[p0 i (),DY i ()];let f:H s.o.h.v=dv:=I.aB.y (B9 _);apply#[.ref s.o.h.v,_,?_,rfl,q _ f];apply I.laid (λb o e=>B8 _ e) (B9 _) #[by simp only[C0,W7];rw[xN];decide,[.int (i / j) s.H,.int (i%j) (s.H+1)],.cons #[_,rfl] (.cons #[_,rfl] .nil),?_];exact#[_,E7 s.o rfl,rfl,#[0,rfl],rfl]
end
structure sD(h:hR)(x dx C:fy)(mA:gq->b0 fx):Prop where
 obj:h.r x=du (W.instObj C dx)
 ns:h.Ns1 dx mA
 ne:dx≠x
def vj9{h:hR}(n:h.Ns1 p g):∃od,h.r p=du od/\∀name,W.lookIn name od=du (g name):=by
 let#[o,f,x,j,m,l,_,k]:=n;apply#[o,j,λname=>?_];let e:=k name;unfold nsFind findBy at e;rw[<- Array.find?_toList] at e;unfold W.lookIn;rw[m];dsimp only;split
 .rename_i y q;rw[q] at e;exact cv du e
 .rename_i q;rw[q] at e;let a:f.L.any (·.refKey)=eH:=by rw[Tt];intro y i;let#[z,t,u]:=l y (Array.mem_toList_iff.mp i);simp[D70,u]
  let r:¬ f.L.any (·.refKey)=dS:=by rw[a];exact D1
  rw[cp r];exact cv du e
def sD.look(I:sD h x j C f):∃od,W.InstAt h x (W.instObj C j) C (du od)/\∀name,W.lookIn name od=du (f name):=
 let ⟨od,g,i⟩:=vj9 I.ns
 #[od,#[I.obj,rfl,rfl,g],i]
section
variable{prog:hH}{w:hL}{A:iC}{E:fx->fC->ck}{s:fC}{K:eM}{x dx C f:fy}{mA:gq->b0 fx}{name:gq}{v:fx}
def wr6(X:K.In s.o)(I:sD s.o x dx C mA)(k:W.plainGet K C name=dS)(hh:W.hasDictIn K C=dS) (l:ff K (.ref C) name=du dv) (i:mA name=du v) (g:W.handedIn v=dS) (h:Q v { s with toks:=s.H+1}): i3 (model prog w) A (getAttr (.ref x) name expr) Q E s:=by
 let#[od,J,j]:=I.look;exact W.get_value X J (W.plainGet_of k).1 (W.findObj_own hh l rfl (by rw[j,i])) g h
def vy2(X:K.In s.o)(I:sD s.o x dx C mA)(g:W.plainGet K C name=dS) (l:ff K (.ref C) name=du (du (.ref f))) (j:W.isFn K (.ref f)=dS) (i:mA name=dv) (h:Q (.ref f,[.ref x]) s): i3 (model prog w) A (Ci (.ref x) name pl) Q E s:=by
 let#[od,J,k]:=I.look;exact W.method_fn X J (W.plainGet_of g).1 (W.plainGet_of g).2 l (beq_iff_eq.mp j) (by show(W.lookIn name od).t (·.fg)=du eH;rw[k,i];rfl) h
def wb9(X:K.In s.o)(I:sD s.o x dx C mA) (o:ff K (.ref C) "__setattr__" = du (du (.builtin "object.__setattr__"))) (p:W.plainOver K C=dS) (n:W.takerIn K C name=du dv) (hh:W.hasDictIn K C=dS) (hw:xH mA ns) (hsz:ns.l<=iZ) (h:∀h',sD h' x dx C (λy=>if y=name then du v else mA y)->V4 dx s.o h'->Q #[] { s with heap:=h',toks:=s.H+2}): i3 (model prog w) A (setAttr (.ref x) name v) Q E s:=by
 let#[od,J,G]:=I.look;apply W.set_plain X J o (W.osa_open (s:={ s with toks:=s.H+1}) (r:=dv) X J p n λb=>?_);let#[cd,q,l]:=W.any_some hh;let m:s.o.r x=du #[.ref C,du dx,.plain,[].e]:=I.obj;apply B5 (C8 (B5 (B5 (wpAny_loadPart m (B5 (W.Looks.here (s:={ s with toks:=s.H+1}) (W.looks_clsIn X q) ?_))))));rw[l];apply C8 (a:=du dx) (B5 (C8 (B5 ?_)));apply wpAny_nsSet1 (s:={ s with toks:=s.H+1}) I.ns λh' j k=>?_;let#[B,t,u,g,hdD,i]:=j.count (D64 name v hw);apply B5 (wpAny_lookBehind g (by rw[hdD];exact pastItsLine_dict (D4 i (by rw[C0];omega))) ?_);exact C8 (h _ #[(k.2 _ (E1 I.ne)).u I.obj,j,I.ne] k)
def vv6(X:K.In s.o)(i:W.makesIn K C=dS) (hi:ff K (.ref C) "__init__" = du (du (.ref f))) (j:W.typeIn K (.ref f)=du (.type "function")) (h:uO (model prog w) (A.under (.builtin "type.__call__" #[.ref C::vs,kw])) (.call (.ref f) #[.ref (s.o.h.v+1)::vs,kw]) (W.InitBack (s.o.h.v+1) R) { s with heap:=(s.o.R W.emptyDict).R (W.instObj C s.o.h.v)}): uO (model prog w) A (.call (.ref C) #[vs,kw]) R s:=by
 let#[k,g,d,t,os]:=s;exact W.make_core (W.makes_of X i) (W.looks_findIn X hi) (λself=>W.bind_fn X self j) (.inl rfl) h
end
def dg(f:gq)(v:V):bf (gq×V)->bf (gq×V)
 | []=>[(f,v)]| (g,x)::r=>if g=f then(g,v)::r else(g,x)::dg f v r
theorem uk5(f g:gq)(v:V):∀l:bf (gq×V),(dg f v l).q g=if g=f then du v else l.q g
 | []=>by
  show K1 g [(f,v)]=_;by_cases h:g=f
  .have i:(g==f)=dS:=beq_iff_eq.mpr h;simp only[K1,i,cu h]
  .have i:(g==f)=eH:=beq_eq_false_iff_ne.mpr h;simp only[K1,i,cp h]
 | (k,x)::r=>by
  let m:=uk5 f g v r;rw[show dg f v ((k,x)::r)=(if k=f then(k,v)::r else(k,x)::dg f v r) from rfl];by_cases j:k=f
  .rw[cu j];by_cases h:g=k
   .have i:(g==k)=dS:=beq_iff_eq.mpr h;simp only[K1,i,cu (h.u j)]
   .have i:(g==k)=eH:=beq_eq_false_iff_ne.mpr h;simp only[K1,i,cp (λe:g=f=>h (e.u j.M))]
  .rw[cp j];by_cases h:g=k
   .have i:(g==k)=dS:=beq_iff_eq.mpr h;simp only[K1,i,cp (λe:g=f=>j (h.M.u e))]
   .have i:(g==k)=eH:=beq_eq_false_iff_ne.mpr h;simp only[K1,i];exact m
theorem Yv(f:gq)(v:V):∀j:bf (gq×V),f∈(dg f v j).t (·.1)/\∀g,g∈j.t (·.1)->g∈(dg f v j).t (·.1)
 | []=>#[by simp[dg],λg h=>by simp at h]| (k,x)::r=>by
  let#[m,l]:=Yv f v r;rw[show dg f v ((k,x)::r)=(if k=f then(k,v)::r else(k,x)::dg f v r) from rfl];by_cases i:k=f
  .rw[cu i];subst i;exact#[by simp,λg h=>by simpa using h]
  .rw[cp i];apply#[?_,λg h=>?_]
   .rw[C1];exact C2 _ m
   .rw[C1] at h⊢;rcases D9.mp h with e|e
    .exact D9.mpr (.inl e)
    .exact C2 _ (l g e)
theorem uk8(f:gq)(v:V):∀h:bf (gq×V),(dg f v h).l<=h.l+1
 | []=>by simp[dg]| (k,x)::r=>by
  let i:=uk8 f v r;rw[show dg f v ((k,x)::r)=(if k=f then(k,v)::r else(k,x)::dg f v r) from rfl];by_cases g:k=f
  .rw[cu g,C0,C0];omega
  .rw[cp g,C0,C0];omega
def d8.some_of(r:d8 (du v) o):∃u,o=du u/\RelV v u:=by
 cases o with
 | none=>exact(show b8 from r).n| some u=>exact#[u,rfl,r]
def d8.none_of(r:d8 dv o):o=dv:=by
 cases o with
 | none=>rfl| some u=>exact(show b8 from r).n
def vl6(r:RelV v u):W.handedIn u=dS:=by
 cases v with
 | non=>cases(show u=Y1 from r);rfl
 | bl b=>cases(show u=Aw b from r);rfl
 | int i=>let#[t,e]:=(show∃t,u=Gw i t from r);cases e;rfl
 | str x=>let#[t,e]:=(show∃t,u=Gv x t from r);cases e;rfl
 | vm b=>let#[t,e]:=(show∃t,u=D32 b t from r);cases e;rfl
 | yG b=>let#[t,e]:=(show∃t,u=BL b t from r);cases e;rfl
 | ref a=>cases(show u=F8 a from r);rfl
 | ty n=>cases(show u=D58 n from r);rfl
section
variable{P:hH}{w:hL}{H H':Hp}{h h':hR}{a C dx:fy}{fs jV:bf (gq×V)}
def Qt(j:gP P w H h)(e:H a=du (.ins C dx fs)):∃g,sD h a dx C g/\(∀f,d8 (fs.q f) (g f))/\xH g (fs.t (·.1))/\fs.l<=1000/\H dx=du (.own a):=by let#[d,z,ne,i,g,n,r,q]:=(show bC P w H h a (.ins C dx fs) from j a _ e);exact#[g,#[i,n,ne],r,q,z,d]
end
structure kP(K:eM)(C:fy):Prop where
 pg:W.plainGet K C yb=dS
 hd:W.hasDictIn K C=dS
 po:W.plainOver K C=dS
 sa:ff K (.ref C) "__setattr__" = du (du (.builtin "object.__setattr__"))
def kP.get{K:eM}{C:fy}(c:kP K C)(f:gq):W.plainGet K C f=dS:=c.pg
def bO(K:eM)(C:fy)(f:gq):ck:=ff K (.ref C) f=du dv
def bO.HM{K:eM}{C:fy}{f:gq}(n:bO K C f):W.takerIn K C f=du dv:=by unfold W.takerIn;rw[show ff K (.ref C) f=du dv from n];rfl
structure Meth(K:eM)(C:fy)(m:gq)(f:fy):Prop where
 at_:ff K (.ref C) m=du (du (.ref f))
 fn:W.isFn K (.ref f)=dS
 kp:W.keepIn K (.ref f)=dS
section
variable{X:Cx}{kI:bf (fy×jC)}{σ:St}{H:Hp}{s:fC}{a C dx:fy}{fs:bf (gq×V)}{f:gq}{v:V}{A:iC}{E:fx->fC->ck}
def uo2{b:cg}{Q:fx->fC->ck}(I:lp X kI σ H s)(e:H a=du (.ins C dx fs))(c:kP X.K C)(n:bO X.K C f)(l:fs.q f=du v) (h:∀u s',lp X kI σ H s'->RelV v u->Q u s'):i3 (model X.c X.w) A (getAttr (.ref a) f b) Q E s:=by
 let#[i,O,r,_,_,_]:=Qt I.aB e;let#[u,j,g]:=d8.some_of (v:=v) (o:=i f) (by rw[<- l];exact r f);exact wr6 I.jf O (c.get f) c.hd n j (vl6 g) (h u _ (I.tok _) g)
def uo1{m:gq}{g:fy}{pl:Sem cg}{Q:fx×bf fx->fC->ck}(I:lp X kI σ H s)(e:H a=du (.ins C dx fs))(c:kP X.K C)(k:Meth X.K C m g)(l:fs.q m=dv) (h:Q (.ref g,[.ref a]) s):i3 (model X.c X.w) A (Ci (.ref a) m pl) Q E s:=by
 let#[i,O,r,_,_,_]:=Qt I.aB e;let j:i m=dv:=d8.none_of (by rw[<- l];exact r m);exact vy2 I.jf O (c.get m) k.at_ k.fn j h
def un3{y:V}{u:fx}{Q:Unit->fC->ck}(I:lp X kI σ H s)(e:H a=du (.ins C dx fs))(c:kP X.K C)(n:bO X.K C f)(N:fs.l<1000)(p:RelV y u) (h:∀s',lp X kI σ (l6 H a (.ins C dx (dg f y fs))) s'->Q #[] s'):i3 (model X.c X.w) A (setAttr (.ref a) f u) Q E s:=by
 let#[k,O,r,j,_,l]:=Qt I.aB e;let t:(fs.t (·.1)).l<=iZ:=by rw[B0,xN];omega
 apply wb9 I.jf O c.sa c.po n.HM c.hd j t λL i m=>h _ ?_;let G:∃o,L.r dx=du o:=let ⟨o,_,_,M,_⟩:=i.ns;#[o,M];apply I.write (x:=a) (e:=dx) (by rw[e];exact R0) (.inr l) (λb q J z=>(m.2 b J).u z) G ?_;apply#[by rw[dj O.ne];exact l,?_,O.ne,i.obj,_,i.ns,λg=>?_,λg B=>?_]
 .have:=uk8 f y fs;omega
 .show d8 ((dg f y fs).q g) (if g=f then du u else k g);rw[uk5];by_cases q:g=f
  .rw[cu q,cu q];exact p
  .rw[cp q,cp q];exact r g
 .by_cases q:g=f
  .rw[q];exact(Yv f y fs).1
  .apply(Yv f y fs).2 g (j g λz=>B ?_);show(if g=f then du u else k g)=dv;rw[cp q];exact z
def lp.made(I:lp X kI σ H s):lp X kI σ (l6 (l6 H s.o.h.v (.own (s.o.h.v+1))) (s.o.h.v+1) (.ins C s.o.h.v [])) { s with heap:=(s.o.R W.emptyDict).R (W.instObj C s.o.h.v)}:=by
 let g:(s.o.R W.emptyDict).r s.o.h.v=du W.emptyDict:=E7 s.o rfl;let l:((s.o.R W.emptyDict).R (W.instObj C s.o.h.v)).r (s.o.h.v+1)=du (W.instObj C s.o.h.v):=by let:=E7 (s.o.R W.emptyDict) (o:=W.instObj C s.o.h.v) rfl;rwa[U2] at this
 let k:(s.o.R W.emptyDict).Ns s.o.h.v (λ_=>dv):=#[W.emptyDict,[].e,_,g,rfl,(λe j=>cz j (by simp)),λ_=>rfl];let m:=I.laid (a:=s.o.h.v) (o:=.own (s.o.h.v+1)) (h':=s.o.R W.emptyDict) (t':=s.H) (λb u q=>B8 _ q) (B9 _) #[_,g];apply m.laid (a:=s.o.h.v+1) (o:=.ins C s.o.h.v []) (t':=s.H) (λb u q=>B8 _ q) (NS (U2 _ _)) ?_;let ne:s.o.h.v≠s.o.h.v+1:=J7 (T9 _);apply#[by rw[dj ne,iL],J8 _,ne,l,λ_=>dv,(Heap.Ns1.of_empty k).at λo q=>B8 _ q,λ_=>R0,λy i=>cz rfl i]
def wv3{prog:hH}{w:hL}{env:Env}{e:gI}{f:gq}{pos:jU}{s:fC}{Q:fx->fC->ck}(i:O1 e f env (eval e env)=eval e env) (h:i3 (model prog w) A (eval e env) (λo g=>i3 (model prog w) A (getAttr o f dS) Q E g) E s):i3 (model prog w) A (eval (.Attribute e f pos) env) Q E s:=Attribute_any_ h (by rw[arm_eval_Attribute,i])
end
def HY(K:eM)(j:TE)(f:gq):TE:=λi H Q=>j i H λx h=>∃a C k g v,x=.ref a/\h a=du (.ins C k g)/\kP K C/\bO K C f/\g.q f=du v/\Q v h
def Ii(K:eM)(l k:TE)(f:gq):TS:=λD g H=>k g H λy m=>l g m λx j=>∃a C i h,x=.ref a/\j a=du (.ins C i h)/\kP K C/\bO K C f/\h.l<1000 /\
 D.nx g (l6 j a (.ins C i (dg f y h)))
def uD5(X:Cx)(op:Operator)(rd:V->V->Hp->VK->ck):ck:=∀(kI:bf (fy×jC)) (s:fC) (f:St) (H:Hp) (x y:V) (u v:fx) (Q:VK),lp X kI f H s->RelV x u->RelV y v->rd x y H Q->i3 (model X.c X.w) X.A (EJ op u v) (EP X kI f Q) X.xe s
def ve5(K:eM)(n m:TE)(rd:V->V->Hp->VK->ck)(f:gq):TS:=λD g H=>n g H λx l=>∃a C o j v,x=.ref a/\l a=du (.ins C o j)/\kP K C/\bO K C f/\j.q f=du v /\
 m g l λy p=>rd v y p λz k=>∃i h,k a=du (.ins C i h)/\h.l<1000/\D.nx g (l6 k a (.ins C i (dg f z h)))
section
variable{X:Cx}{o e value:gI}{f:gq}{pos pos' qX:jU}{ta tv:TE}
def x25(k:PE X e ta)(m:O1 e f X.f (eval e X.f)=eval e X.f):PE X (.Attribute e f pos) (HY X.K ta f):=by
 intro kI s g H Q I h
 (apply wv3 m (bu (k kI s g H _ I h) ?_);intro u E #[x,y,t,i,a,C,J,G,v,ex,p,c,n,l,q])
 subst ex;obtain rfl:u=F8 a:=i;exact uo2 t p c n l λA B r j=>#[v,y,r,j,q]
def x11(A:PE X o ta)(r:PE X value tv)(t:X4 value (du (.Attribute o f pos')) pos.line X.f=pure eH):PS X (.Assign [.Attribute o f pos'] value pos) (Ii X.K ta tv f):=by
 intro kI s g H D I h
 (apply plainObj_wpAny_Assign_Attribute (bu (r kI s g H _ I h) ?_) t;intro u i #[y,J,G,j,q];apply bu (A kI i g J _ G q) ?_;intro p M #[x,Q,E,k,a,C,O,N,ex,B,c,n,l,m])
 subst ex;obtain rfl:p=F8 a:=k;exact un3 E B c n l j λL I3=>#[g,_,I3,m]
def vf6{op:Operator}{rd:V->V->Hp->VK->ck}(N:PE X o ta)(M:PE X value tv)(B:uD5 X op rd):PS X (.AugAssign (.Attribute o f qX) op value pos) (ve5 X.K ta tv rd f):=by
 intro kI s g H D I h
 (apply wpAny_AugAssign_AttributeAny (bu (N kI s g H _ I h) ?_);intro J s1 #[x,Z,U,t,a,C,dx,fs,v,ex,O,c,n,l,q])
 subst ex;obtain rfl:J=F8 a:=t;apply uo2 U O c n l λu m S A=>bu (M kI m g Z _ S q) λj k ⟨y,Y,I3,r,G⟩=>bu (B kI k g Y v y u j _ I3 A r G) λw4 s4 ⟨z,H3,R,p,wq,jV,i,L,E⟩=>?_;exact un3 R i c n L p λs5 Q=>#[g,_,Q,E]
end
section
variable{X:Cx}{kI:bf (fy×jC)}{σ:St}{H:Hp}{s:fC}{A:iC}{E:fx->fC->ck}{Q:fx->fC->ck}{c:fx}{b:cg}
inductive jF(K:eM)(H:Hp):V->fx->Prop where
 | non:jF K H .non (.type "NoneType")
 | bl (x:cg):jF K H (.bl x) (.type "bool")
 | int (i:bz):jF K H (.int i) (.type "int")
 | str (x:gq):jF K H (.str x) (.type "str")
 | yG (x:UInt64):jF K H (.yG x) (.type "float")
 | lst {a:fy} {xs:bf V} (e:H a=du (.lst xs)):jF K H (.ref a) (.type "list")
 | dR {a:fy} {o:jC} {xs:bf V} (e:H a=du (.dR o (.lst xs))):jF K H (.ref a) (.type "list")
 | tup {a:fy} {xs:bf V} (e:H a=du (.tup xs)):jF K H (.ref a) (.type "tuple")
 | dK {a:fy} {kvs:bf (lR×V)} (e:H a=du (.dK kvs)):jF K H (.ref a) (.type "dict")
 | dT {a:fy} {kvs:bf (bf lR×V)} (e:H a=du (.dT kvs)):jF K H (.ref a) (.type "dict")
 | ins {a C h:fy} {g:bf (gq×V)} (e:H a=du (.ins C h g)) (m:kP K C) (l:ff K (.ref C) "__class__" = du (du (.builtin "object.__class__")))
   (j:W.specialIn K (.builtin "object.__class__") "__get__" = du (du (.builtin "getset_descriptor.__get__"))) (f:W.takesIn K (.builtin "object.__class__")=du dS)
   (k:W.mroIn K C (.type "object")=du dS):jF K H (.ref a) (.ref C)
def AW(I:lp X kI σ H s)(f:RelV x u)(ty:jF X.K H x t)(e:W.kitOne X.K t c=du b)(h:∀tk,Q (.bool b) { s with toks:=tk}): i3 (model X.c X.w) A (call (.builtin "isinstance") [u,c]) Q E s:=by
 cases ty with
 | non=>cases(show u=Y1 from f);exact W.kia_one W.kitx_none I.jf R0 e (λz=>nomatch z) h
 | bl y=>cases(show u=Aw y from f);exact W.kia_one W.kitx_bool I.jf R0 e (λz=>nomatch z) h
 | int i=>let#[t,q]:=(show∃t,u=Gw i t from f);cases q;exact W.kia_one W.kitx_int I.jf R0 e (λz=>nomatch z) h
 | str y=>let#[t,q]:=(show∃t,u=Gv y t from f);cases q;exact W.kia_one W.kitx_str I.jf R0 e (λz=>nomatch z) h
 | yG y=>let#[t,q]:=(show∃t,u=BL y t from f);cases q;exact W.kia_one W.kitx_float I.jf R0 e (λz=>nomatch z) h
 | @lst a xs g =>cases(show u=F8 a from f);let#[_,_,n,_,j]:=(show bC X.c X.w H s.o a (.lst xs) from I.aB a _ g);exact W.kia_one W.kitx_list I.jf #[_,j,rfl] e (λz=>nomatch z) h
 | @dR a r xs g =>cases(show u=F8 a from f);let#[_,_,_,n,_,j]:=(show bC X.c X.w H s.o a (.dR r (.lst xs)) from I.aB a _ g);exact W.kia_one W.kitx_list I.jf #[_,j,rfl] e (λz=>nomatch z) h
 | @tup a xs g =>cases(show u=F8 a from f);let#[_,_,_,p]:=(show bC X.c X.w H s.o a (.tup xs) from I.aB a _ g);let#[o,j,k,_]:=p;exact W.kia_one W.kitx_tuple I.jf #[o,j,k] e (λz=>nomatch z) h
 | @dK a kvs g =>cases(show u=F8 a from f);let#[_,_,R,_,p]:=(show bC X.c X.w H s.o a (.dK kvs) from I.aB a _ g);let#[o,M,N,j,k,_]:=p;exact W.kia_one W.kitx_dict I.jf #[o,j,k.1] e (λz=>nomatch z) h
 | @dT a kvs g =>cases(show u=F8 a from f);let#[_,_,xs,_,o,M,N,j,k,_]:=(show bC X.c X.w H s.o a (.dT kvs) from I.aB a _ g);exact W.kia_one W.kitx_dict I.jf #[o,j,k.1] e (λz=>nomatch z) h
 | @ins a C Y U g m L B l G =>cases(show u=F8 a from f);let#[S,O,_]:=Qt I.aB g;let#[od,J,_]:=O.look;exact W.kia_one (W.kitx_own (m.get _) m.hd L B l G) I.jf J e (λz=>nomatch z) h
end
structure aZ(k:br)(A:iC):Prop where
 hd:A.handled=dv
 dp:A.depth+3*k+5<recursionLimit
 un:A.ga+16*k+200<cLine
def aZ.mono(r:aZ k A)(h:j<=k):aZ j A:=#[r.hd,by let:=r.dp;omega,by let:=r.un;omega]
theorem aZ.deeper(r:aZ (k+1) A)(env:Env):aZ k (A.deeper env):=#[r.hd,by let:=r.dp;show A.depth+1+3*k+5<_;omega,by let:=r.un;show A.ga+3+16*k+200<_;omega]
theorem aZ.in1(r:aZ (k+1) A):aZ k A.in1:=#[r.hd,by let:=r.dp;show A.depth+3*k+5<_;omega,by let:=r.un;show A.ga+1+16*k+200<_;omega]
def v94{A:iC}:(A.under (.builtin "type.__call__" #[.ref C::us,kw])).depth=A.depth+1:=by first|rfl|simp[zO,Code.weight,Code.isCreation,Code.isGuard,Code.isCaller,RV,zW,guardIds]
def v93{A:iC}:(A.under (.builtin "type.__call__" ⟨.ref C::us,kw⟩)).ga=A.ga+1:=by first|rfl|simp[zO,Code.cUnits,RV,zW]
def aZ.make(r:aZ (k+1) A)(C:fy)(us:bf fx)(kw:bf (gq×fx)):aZ k (A.under (.builtin "type.__call__" ⟨.ref C::us,kw⟩)):=⟨r.hd,by let:=r.dp;rw[v94];omega,by let:=r.un;rw[v93];omega⟩
theorem aZ.depth(r:aZ k A):A.depth<recursionLimit:=by let:=r.dp;omega
theorem aZ.units(r:aZ k A):A.ga+64<cLine:=by let:=r.un;omega
def zo:TA:=λ_ H Q=>Q [] H
def WC(h:TE)(g:TA):TA:=λf H Q=>h f H λx j=>g f j λxs i=>Q (x::xs) i
section
variable{X:Cx}{e:gI}{es:bf gI}{te:TE}{t:TA}{pos:jU}
def w68:PA X [] zo:=λ_ _ _ _ H Q I h=>U6 #[[],H,I,.nil,h]
def vg6(o:PE X e te)(n:PA X es t)(m:D2 (e::es) X.f=(eH,eval e X.f)::D2 es X.env:=by rfl):PA X (e::es) (WC te t):=by
 intro pos kI s f H Q I h;rw[m];show i3 _ _ (spliced ((eH,eval e X.f)::backTo pos (D2 es X.f))) _ _ s
 (apply R4 (bu (o kI s f H _ I h) ?_);intro u g #[x,y,q,j,l])
 (apply bu (n pos kI g f y _ q l) ?_;intro A B #[xs,r,p,i,k];exact#[x::xs,r,p,.cons j i,k])
def HN(t:TA):TE:=λg H Q=>t g H λxs f=>xs.l<=iZ/\∀p,f p=dv->Q (.ref p) (l6 f p (.tup xs))
def HV(t:TA):TE:=λg H Q=>t g H λxs f=>xs.l<=iZ/\∀p,f p=dv->Q (.ref p) (l6 f p (.lst xs))
def x18{k}(h:PA X es t):PE X (.Tuple es k pos) (HN t):=by intro kI s j H Q I m;apply wpAny_Tuple_spliced (bu (h pos kI s j H _ I m) λl f ⟨xs,i,g,r,z,q⟩=>#[by rw[<- r.l];exact z,?_]);let n:i f.o.h.v=dv:=g.aB.y (B9 _);apply#[.ref f.o.h.v,l6 i f.o.h.v (.tup xs),g.laid (t':=f.H) (λb u e=>B8 _ e) (B9 _) ?_,rfl,q _ n];exact#[z,l,r,#[_,E7 _ rfl,rfl,#[_,rfl],rfl]]
def x23(h:PA X es t):PE X (.List es pos) (HV t):=by intro kI s j H Q I l;apply wpAny_List_spliced (bu (h pos kI s j H _ I l) λk f ⟨xs,i,g,r,z,q⟩=>#[by rw[<- r.l];exact z,?_]);let m:i f.o.h.v=dv:=g.aB.y (B9 _);apply#[.ref f.o.h.v,l6 i f.o.h.v (.lst xs),g.laid (t':=f.H) (λb u e=>B8 _ e) (B9 _) ?_,rfl,q _ m];exact#[z,k,0,r,E7 _ rfl]
end
abbrev Sp:=bf V->Hp->VK->XK->ck
abbrev xZ:=bf Env->Hp->fC->XK->fx->fC->ck
structure lK(P:hH)(w:hL)(K:eM)(mg:gq->b0 fx)(base:hR)(A:iC)(outer:bf Env)(s:fC)(H:Hp):Prop where
 frames:A.frames=du outer
 mod:Mod K mg base
 bs:∀b o,base.r b=du o->s.o.r b=du o/\H b=dv
 wB:base.h.v<=s.o.h.v
 i7:s.o.FunFrames base outer
 Bw:∀b∈uA outer,H b=dv
 aB:gP P w H s.o
 bare:Au s.gens
def CE(outer:bf Env)(P:hH)(w:hL)(H:Hp)(s:fC)(Q:VK)(u:fx)(s':fC):ck:=∃v f,s'.os=s.os/\Au s'.gens/\Un (uA outer) [] H f s.o s'.o/\gP P w f s'.o/\RelV v u/\Q v f
def CR(CX:xZ)(outer:bf Env)(P:hH)(w:hL)(H:Hp)(s:fC)(Q:VK)(E:XK)(r:Result)(s':fC):ck:=
 match r with
 | .ok (.ret u)=>CE outer P w H s Q u s'| .ok _=>b8| .error e=>CX outer H s E e s'
structure bJ(P:hH)(w:hL)(K:eM)(mg:gq->b0 fx)(base:hR)(CX:xZ)(k:br)(f:fy)(fd:yO)(ps:bf gq)(sp:Sp):Prop where
 len:∀vs H Q E,sp vs H Q E->vs.l=ps.l
 run:∀(A:iC) (outer:bf Env) (s:fC) (H:Hp) (args:Args) (us:bf fx) (vs:bf V) (Q:VK) (E:XK),aZ k A->lK P w K mg base A outer s H->EH s fd args (ps.zip us)->Vals vs us->sp vs H Q E ->
  uO (model P w) A (.call (.ref f) args) (CR CX outer P w H s Q E) s
theorem bJ.mono{P:hH}{w:hL}{K:eM}{mg:gq->b0 fx}{base:hR}{CX:xZ}{j k:br}{f:fy}{i:yO}{ps:bf gq}{sp:Sp}(F:bJ P w K mg base CX j f i ps sp)(h:j<=k): bJ P w K mg base CX k f i ps sp:=#[F.len,λA g s H args m l Q E n=>F.run A g s H args m l Q E (n.mono h)]
def bJ.imp{P:hH}{w:hL}{K:eM}{mg:gq->b0 fx}{base:hR}{CX:xZ}{k:br}{f:fy}{j:yO}{ps:bf gq}{sp i:Sp}(F:bJ P w K mg base CX k f j ps sp) (h:∀vs H Q E,i vs H Q E->sp vs H Q E):bJ P w K mg base CX k f j ps i:=#[λvs H Q E q=>F.len vs H Q E (h _ _ _ _ q),λA g s H args l vs Q E o p r m n=>F.run A g s H args l vs Q E o p r m (h _ _ _ _ n)]
def lK.make{P:hH}{w:hL}{K:eM}{mg:gq->b0 fx}{base:hR}{A:iC}{outer:bf Env}{s:fC}{H:Hp}(e:lK P w K mg base A outer s H)(C:fy)(us:bf fx)(kw:bf (gq×fx)): lK P w K mg base (A.under (.builtin "type.__call__" #[.ref C::us,kw])) outer s H:=#[by first|exact e.frames|(simpa[zO,Code.envs,zW,pushEnvs] using e.frames),e.mod,e.bs,e.wB,e.i7,e.Bw,e.aB,e.bare]
theorem lK.in1{P:hH}{w:hL}{K:eM}{mg:gq->b0 fx}{base:hR}{A:iC}{outer:bf Env}{s:fC}{H:Hp}(e:lK P w K mg base A outer s H): lK P w K mg base A.in1 outer s H:=#[e.frames,e.mod,e.bs,e.wB,e.i7,e.Bw,e.aB,e.bare]
section
variable{X:Cx}{kI:bf (fy×jC)}{σ:St}{H:Hp}{s s':fC}
def lp.LJ(I:lp X kI σ H s):lK X.c X.w X.K X.mg X.Q X.A X.stack s H:=#[I.ok.frames,I.ok.mod,I.bs,D4 I.ok.wB I.sz,I.stack,I.sM,I.aB,I.bare]
def lp.after(I:lp X kI σ H s)(h:CE X.stack X.c X.w H s Q u s'):EP X kI σ Q u s':=by let#[v,l,os,f,un,k,r,q]:=h;let#[j,g,d,t,i]:=s';obtain rfl:i=s.os:=os;exact#[v,l,I.call (h':=j) (g':=g) (d':=d) (t':=t) (ch:=[]) un k f (λb z=>cz z (by simp)),r,q]
end
def wy8(sp:Sp)(fk:bf V)(E:XK)(t:TA):TE:=λf H Q=>t f H λg h=>sp (g++fk) h Q E
def WE(C:fy)(m:gq)(sp:Sp)(fk:bf V)(E:XK)(j:TE)(t:TA):TE:=λf H Q=>j f H λx h=>∃a k g,x=.ref a/\h a=du (.ins C k g)/\g.q m=dv /\
 t f h λi l=>sp (x::(i++fk)) l Q E
def wy1(C:fy)(sp:Sp)(fk:bf V)(E:XK)(t:TA):TE:=λh H Q=>t h H λi g=>∀x f,g x=dv->g f=dv->f≠x ->
 sp (.ref x::(i++fk)) (l6 (l6 g f (.own x)) x (.ins C f [])) (λv j=>v=.non/\Q (.ref x) j) E
def Binds(K:eM)(g:yO)(ps:bf gq)(ds:bf fx):ck:=∀(s:fC) (f:bf fx),K.In s.o->(f++ds).l=ps.l->EH s g #[f,[]] (ps.zip (f++ds))
def Binds.all{K:eM}{g:yO}{ps:bf gq}(h:∀us:bf fx,us.l=ps.l->Sw g #[us,[]]=pure (ps.zip us)):Binds K g ps []:=λs us _ f=>by rw[D7] at f⊢;exact .of_eq (h us f)
def Passes(CX:xZ)(X:Cx)(E:XK):ck:=∀(kI:bf (fy×jC)) (g:St) (H:Hp) (s:fC) (e:fx) (f:fC),lp X kI g H s->CX X.stack H s E e f->X.xe e f
section
variable{X:Cx}{CX:xZ}{k:br}{f C:fy}{fd:yO}{ps:bf gq}{sp:Sp}{fk:bf V}{ds:bf fx}{E:XK}{x m:gq}{p pos apos:jU}{e o:gI}{es:bf gI}{ta:TE}{t:TA}
def Xk{kI:bf (fy×jC)}{i:St}{H:Hp}{s:fC}{Q:VK}{us:bf fx}{vs:bf V}(F:bJ X.c X.w X.K X.mg X.Q CX k f fd ps sp)(q:aZ k X.A)(G:Binds X.K fd ps ds)(B:Vals fk ds)(n:Passes CX X E) (I:lp X kI i H s) (r:Vals vs us) (h:sp (vs++fk) H Q E):i3 (model X.c X.w) X.A (call (.ref f) us) (EP X kI i Q) X.xe s:=by
 let j:Vals (vs++fk) (us++ds):=r.fj B;let y:(us++ds).l=ps.l:=by rw[<- j.l];exact F.len _ _ _ _ h
 apply wpAny_call (SM (F.run X.A X.stack s H #[us,[]] (us++ds) (vs++fk) Q E q I.LJ (G s us I.jf y) j h) λr l g=>?_);cases r with
 | error e=>exact n kI i H s e l I g| ok J =>
  cases J with
  | ret u=>exact I.after g| next=>exact Q9 g| brk=>exact Q9 g| cont=>exact Q9 g
def wn7(F:bJ X.c X.w X.K X.mg X.Q CX k f fd ps sp)(u:aZ k X.A)(G:Gl X x)(y:X.mg x=du (.ref f))(B:W.keepIn X.K (.ref f)=dS)(M:Binds X.K fd ps ds)(L:Vals fk ds)(n:Passes CX X E) (N:PA X (e::es) t) (l:(x==("__debug__" :gq))=eH:=by decide) (J:D2 (e::es) X.f=(eH,eval e X.f)::D2 es X.env:=by rfl) (O:(backTo pos (D2 es X.f)).any (·.1)=eH:=by rfl):
  PE X (.Call (.Name x p) (e::es) [] pos) (wy8 sp fk E t):=by
 intro kI s j H Q I h;apply O8 (XF I G y ?_ l)
 (apply W.callWith_K (h₀:=X.Q) I.ok.mod.Kx B (bu (N pos kI s j H _ I h) ?_) J O;intro S U #[R,Y,i,r,q];apply#[i.jf,?_])
 exact Xk F u M L n i r q
def wn1{pl:Sem cg}(Y:PE X o ta)(c:kP X.K C)(B:Meth X.K C m f)(F:bJ X.c X.w X.K X.mg X.Q CX k f fd ps sp)(U:aZ k X.A)(hb:Binds X.K fd ps ds)(Z:Vals fk ds)(R:Passes CX X E)(ha:PA X (e::es) t) (O:D2 (e::es) X.f=(eH,eval e X.f)::D2 es X.env:=by rfl) (cG:(backTo pos (D2 es X.f)).any (·.1)=eH:=by rfl)
  (S:eval (.Call (.Attribute o m apos) (e::es) [] pos) X.f=(do
   let n <- eval o X.f
   yM apos.atName
   let (f,first) <- holding [n] (Ci n m pl)
   Gs pos f first (backTo pos (D2 (e::es) X.f)) (Y0 pos (Q4 [] X.f))):=by rfl):
  PE X (.Call (.Attribute o m apos) (e::es) [] pos) (WE C m sp fk E ta t):=by
 intro kI s g H Q I h
 (apply W.methodCall_KW (pl:=pl) (bu (Y kI s g H _ I h) ?_) S;intro u L #[x,H1,J,M,a,dx,fs,ex,ea,l,q])
 subst ex;obtain rfl:u=F8 a:=M;apply uo1 J ea c B l ?_
 (apply W.callWith_K (first:=[.ref a]) (h₀:=X.Q) I.ok.mod.Kx B.kp (bu (ha pos kI L g H1 _ J q) ?_) O cG;intro j s2 #[i,H2,G,r,N];apply#[G.jf,?_])
 exact Xk (us:=.ref a::j) (vs:=.ref a::i) F U hb Z R G (.cons rfl r) N
def vu2(J:PE X o ta)(c:kP X.K C)(j:Meth X.K C m f)(F:bJ X.c X.w X.K X.mg X.Q CX k f fd ps sp)(G:aZ k X.A)(M:Binds X.K fd ps ds)(L:Vals fk ds)(y:Passes CX X E)
  (B:eval (.Call (.Attribute o m apos) [] [] pos) X.f=(do
   let i <- eval o X.f
   yM apos.atName
   let (f,first) <- holding [i] (Ci i m pl)
   Gs pos f first (backTo pos (D2 [] X.f)) (Y0 pos (Q4 [] X.f))):=by rfl):
  PE X (.Call (.Attribute o m apos) [] [] pos) (WE C m sp fk E ta zo):=by
 intro kI s n H Q I h
 (apply W.methodCall_KW (pl:=pl) (bu (J kI s n H _ I h) ?_) B;intro u S #[x,Z,g,r,a,Y,U,ex,N,l,q])
 subst ex;obtain rfl:u=F8 a:=r;apply uo1 g N c j l ?_;exact W.callWith_K0 (first:=[.ref a]) g.jf j.kp (Xk (us:=[.ref a]) (vs:=[.ref a]) F G M L y g (.cons rfl .nil) q)
structure Mk(K:eM)(C f:fy):Prop where
 makes:W.makesIn K C=dS
 init:ff K (.ref C) "__init__" = du (du (.ref f))
 fn:W.isFn K (.ref f)=dS
 kp:W.keepIn K (.ref C)=dS
def vs9(M:Mk X.K C f)(F:bJ X.c X.w X.K X.mg X.Q CX k f fd ps sp)(L:aZ (k+1) X.A)(R:Binds X.K fd ps ds)(O:Vals fk ds) (J:Passes CX X E) (I:lp X kI l H s) (r:Vals vs us) (h:∀x i,H x=dv->H i=dv->i≠x->sp (.ref x::(vs++fk)) (l6 (l6 H i (.own x)) x (.ins C i [])) (λv U=>v=.non/\Q (.ref x) U) E): i3 (model X.c X.w) X.A (call (.ref C) us) (EP X kI l Q) X.xe s:=by
 let q:=h (s.o.h.v+1) s.o.h.v (I.aB.y (U4 _)) (I.aB.y (B9 _)) (J7 (T9 _));let j:=lp.made (C:=C) I;let n:Vals (V.ref (s.o.h.v+1)::(vs++fk)) (F8 (s.o.h.v+1)::(us++ds)):=.cons rfl (r.fj O);let N:(F8 (s.o.h.v+1)::us++ds).l=ps.l:=by let e:=n.l;rw[F.len _ _ _ _ q] at e;exact e.M
 apply wpAny_call (vv6 (f:=f) I.jf M.makes M.init (beq_iff_eq.mp M.fn) (SM (F.run _ X.stack _ _ #[F8 (s.o.h.v+1)::us,[]] (F8 (s.o.h.v+1)::(us++ds)) _ _ E (L.make C us [])
  (j.LJ.make C us []) (R _ (F8 (s.o.h.v+1)::us) j.jf N) n q) λr y g=>?_))
 cases r with
 | error e=>exact J kI l _ _ e y j g| ok S =>
  cases S with
  | ret u =>let#[v,Y,I3,B,ev,G]:=j.after g;subst ev;exact#[B,#[V.ref (s.o.h.v+1),Y,I3,rfl,G]]| next=>exact Q9 g| brk=>exact Q9 g| cont=>exact Q9 g
def wn2(M:Mk X.K C f)(F:bJ X.c X.w X.K X.mg X.Q CX k f fd ps sp)(u:aZ (k+1) X.A)(B:Gl X x)(y:X.mg x=du (.ref C))(L:Binds X.K fd ps ds)(J:Vals fk ds)(n:Passes CX X E) (N:PA X (e::es) t) (l:(x==("__debug__" :gq))=eH:=by decide) (G:D2 (e::es) X.f=(eH,eval e X.f)::D2 es X.env:=by rfl) (O:(backTo pos (D2 es X.f)).any (·.1)=eH:=by rfl):
  PE X (.Call (.Name x p) (e::es) [] pos) (wy1 C sp fk E t):=by
 intro kI s j H Q I h;apply O8 (XF I B y ?_ l)
 (apply W.callWith_K (h₀:=X.Q) I.ok.mod.Kx M.kp (bu (N pos kI s j H _ I h) ?_) G O;intro S U #[R,Y,i,r,q];apply#[i.jf,?_])
 exact vs9 M F u L J n i r q
end
structure ae(N P:bf gq)(sc:Scope):Prop where
 kind:sc.gb=.function
 co:sc.isCoroutine=eH
 gen:sc.isGenerator=eH
 nd:N.Nodup
 pre:N.fh P.l=P
 par:∀x∈P,sc.U.q x=du .local\/sc.U.q x=du .cell
 Dl:∀y∈sc.U,y.2≠.free
theorem uw9{kindOf:gq->b0 J2}{x:gq}:∀{binds:bf (gq×fx)} {m:gq->b0 fx},(∀v,(x,v)∉binds)->bindL kindOf binds m x=m x
 | [],_,_=>rfl| (n,v)::r,m,h=>by
  unfold bindL;rw[uw9 λw hw=>h w (C2 _ hw)];split
  .have:x≠n:=by rintro rfl;exact h v D0
   simp[this]
  .rfl
theorem ux1{kindOf:gq->b0 J2}{x:gq}:∀{binds:bf (gq×fx)} {m:gq->b0 fx},(∀v,(x,v)∉binds)->bindC kindOf binds m x=m x
 | [],_,_=>rfl| (n,v)::r,m,h=>by
  unfold bindC;rw[ux1 λw hw=>h w (C2 _ hw)];split
  .rfl
  .have:x≠n:=by rintro rfl;exact h v D0
   simp[this]
theorem ux0{kindOf:gq->b0 J2}{x:gq}{v:fx}:∀{P:bf gq} {vs:bf fx} {i:br} {m:gq->b0 fx},P.Nodup->P[i]?=du x->vs[i]?=du v->kindOf x=du .local -> bindL kindOf (P.zip vs) m x=du v
 | [],_,_,_,_,h,_,_=>by simp at h| _::_,[],_,_,_,_,h,_=>by simp at h| p::P,w::vs,0,m,j,g,f,k=>by simp at g f;subst g;subst f;show bindL kindOf ((p,w)::P.zip vs) m p=_;unfold bindL;rw[uw9 λv l=>(M5.mp j).1 (tf l).1,cu k];simp| p::P,w::vs,i+1,m,j,g,f,k=>by show bindL kindOf ((p,w)::P.zip vs) m x=_;unfold bindL;exact ux0 (i:=i) (M5.mp j).2 (by simpa using g) (by simpa using f) k
theorem ux2{kindOf:gq->b0 J2}{x:gq}{v:fx}:∀{P:bf gq} {vs:bf fx} {i:br} {m:gq->b0 fx},P.Nodup->P[i]?=du x->vs[i]?=du v->kindOf x≠du .local -> bindC kindOf (P.zip vs) m x=du v
 | [],_,_,_,_,h,_,_=>by simp at h| _::_,[],_,_,_,_,h,_=>by simp at h| p::P,w::vs,0,m,j,g,f,k=>by simp at g f;subst g;subst f;show bindC kindOf ((p,w)::P.zip vs) m p=_;unfold bindC;rw[ux1 λv l=>(M5.mp j).1 (tf l).1,cp k];simp| p::P,w::vs,i+1,m,j,g,f,k=>by show bindC kindOf ((p,w)::P.zip vs) m x=_;unfold bindC;exact ux2 (i:=i) (M5.mp j).2 (by simpa using g) (by simpa using f) k
def start(N:bf gq)(vs:bf V):St:=vs.t du++C7 (N.l-vs.l) dv
def sy(CX:xZ)(P:hH)(w:hL)(K:eM)(mg:gq->b0 fx)(base:hR)(N:bf gq)(g:gq)(scope:Scope)(f:fy)(cd:fx)(A:iC)(outer:bf Env)(s:fC)(H:Hp)(E:XK):Cx where
 prog:=P
 w:=w
 K:=K
 mg:=mg
 base:=base
 A:=A.deeper (envOfC g scope s.o.h.v f cd)
 N:=N
 s₀:=s
 H₀:=H
 env:=envOfC g scope s.o.h.v f cd
 outer:=outer
 stack:=envOfC g scope s.o.h.v f cd::outer
 ex:=[]
 calm:=dS
 fn:=λ_=>dS
 pn:=[]
 xe:=λe m=>i3 (model P w) (A.deeper (envOfC g scope s.o.h.v f cd)) (leaving (envOfC g scope s.o.h.v f cd) e) (λ_ h=>CX outer H s E e h) (λn h=>CX outer H s E n h) m
def v68{f:Scope}(h:f.U.q x=du .cell):∃c,(zp n f.U []).q x=du c:=by let q:=W.cellsFrom_some f.U n [] (.inl h);exact Option.isSome_iff_exists.mp q
def vl0{CX:xZ}{P:hH}{w:hL}{K:eM}{mg:gq->b0 fx}{base:hR}{N ps:bf gq}{g:gq}{scope:Scope}{f:fy}{cd:fx}{A:iC}{outer:bf Env}{s C:fC}{H:Hp}{E:XK}{us:bf fx}{vs:bf V} (S:ae N ps scope) (L:A.handled=dv) (l:lK P w K mg base A outer s H) (Q:vs.l=ps.l) (r:Vals vs us) (x:InCallC s s.o.h.v (bindL (envOfC g scope s.o.h.v f cd).Z (ps.zip us) λ_=>dv) (zp (s.o.h.v+1) scope.U []) (bindC (envOfC g scope s.o.h.v f cd).Z (ps.zip us) λ_=>dv) C): lp (sy CX P w K mg base N g scope f cd A outer s H E) [] (start N vs) H C:=by
 let U:ps.l<=N.l:=by let:=cv J1 S.pre;rw[Tr] at this;omega
 let#[t,O,rfl,I]:=x.done;let B:∀b:fy,b∉(sy CX P w K mg base N g scope f cd A outer s H E).ex:=λb z=>cz (show b∈([]:bf fy) from z) (by simp);apply#[#[l.mod,S.gb,rfl,rfl,B9 _,λy z c t j=>?_,λy hy=>?_,λy c _ h=>?_,λ_=>L,Around.frames_deeper l.frames,.inr #[rfl,rfl],λb z=>cz z (B b),l.bs,l.wB,λb _ _=>B b,λb z=>cz z (B b),l.i7,l.Bw],
  rfl,l.bare,Un.kept I,#[_,x.toInCall.ns,λi y v t j R=>?_],λy c h=>#[_,x.cell y c h],l.aB.y (B9 _),λy c h=>?_,λp o=>cz (show p∈([]:bf (fy×jC)) from o) (by simp),l.aB.kept I,?_]
 .exact name_of_addr x.apart (S9 t) (S9 j)
 .have hy:scope.U.q y=du .cell\/scope.U.q y=du .free:=hy;rcases hy with hy|hy
  .exact v68 hy
  .exact cz rfl (S.Dl _ (S9 hy))
 .exact O4 (x.above y c (S9 h))
 .have hi:i<vs.l:=by
   unfold start at j;by_cases hi:i<vs.l
   .exact hi
   .rw[F9 (by simpa using hi)] at j;rw[rz] at j;split at j <;> cases j
  let M:vs[i]?=du v:=by
   unfold start at j;rw[J4 (by simpa using hi),F5] at j;cases e:vs[i]? with
   | none=>rw[e] at j;cases j
   | some a=>rw[e] at j;cases j;rfl
  let#[u,G,J]:=r.get M;let o:ps[i]?=du y:=by rw[<- S.pre,List.getElem?_take_of_lt ()];exact t
  let m:ps.Nodup:=by rw[<- S.pre];exact S.nd.sublist (List.take_sublist _ _)
  apply#[u,J,?_];rcases S.par y (K5 o) with k|k
  .exact .inl ⟨k,ux0 m o G k⟩
  .let#[c,e]:=v68 (n:=s.o.h.v+1) k;apply .inr #[.inl k,c,e,?_];let q:=x.cell y c e;rw[ux2 m o G (by show scope.U.q y≠_;rw[k];decide)] at q;exact q
 .exact l.aB.y (O4 (x.above y c (S9 h)))
 .unfold start;show _=N.l;rw[B4,B0,O2];omega
def xr1{CX:xZ}{P:hH}{w:hL}{K:eM}{mg:gq->b0 fx}{base:hR}{k:br}{f:fy}{name g:gq}{params:Arguments}{body:bf hC}{scope:Scope}{R kV doc O j ct Z:fx}{an od:b0 fy} {Bf:dc (b0 fx)} {N ps:bf gq} {sp:Sp} (lk:K.q f=du #[Z,od,.func (fv name g params body scope R kV doc O an j ct),Bf]) (X:W.codeIn K j g=dS) (S:ae N ps scope) (len:∀vs H Q E,sp vs H Q E->vs.l=ps.l) (Lz:∀(A:iC) (outer:bf Env) (s:fC) (H:Hp) (vs:bf V) (Q:VK) (E:XK),aZ k (A.deeper (envOfC g scope s.o.h.v f j))->sp vs H Q E -> ∃t,qQ (sy CX P w K mg base N g scope f j A outer s H E) body t/\t { nx:=λ_ i=>Q .non i,rt:=Q} (start N vs) H): bJ P w K mg base CX (k+1) f (fv name g params body scope R kV doc O an j ct) ps sp:=by
 apply#[len,λA outer s H args Y vs Q E G m hb r L=>?_];let hl:=len _ _ _ _ L;let U:K.In s.heap:=m.mod.Kx.keeps λb o e=>(m.bs b o e).1;let C:s.o.NoLimit:=m.mod.nolimit.keeps λb o e=>(m.bs b o e).1;let Ln:∀y∈ps.zip Y,scope.U.q y.1=du .local\/(scope.U.q y.1=du .cell/\((zp (s.o.h.v+1) scope.U []).q y.1).fg=dS):=λ⟨n,v⟩ hy=>by
  rcases S.par n (tf hy).1 with q|q
  .exact .inl q
  .exact .inr ⟨q,W.cellsFrom_some _ _ _ (.inl q)⟩
 apply codeAny_call_function G.depth (U _ _ lk) rfl S.co S.gen rfl (W.codeRec_of U X) (hb _ _ _ _ ?_);apply wpAny_newFunctionEnv_cells S.gb Ln λenv he M x=>?_;subst he;apply#[C.keeps x.toInCall.keep,codeAny_func ?_];let#[t,ht,hq]:=Lz A outer s H vs Q E (G.deeper _) L;let I:lp (sy CX P w K mg base N g scope f j A outer s H E) [] (start N vs) H M:=vl0 S G.hd m hl r x;apply S8 (ht [] M (start N vs) H _ I hq) (λfl p l=>?_) λe p l=>l;let l':∀{h:St} {i:Hp} {v:V} {u:fx},lp (sy CX P w K mg base N g scope f j A outer s H E) [] h i p->RelV v u->Q v i->CE outer P w H s Q u p:=
  λ{h i v u} J B q=>#[v,i,J.os,J.bare,J.Q,J.aB,B,q]
 cases fl with
 | ret u =>let#[v,h,i,J,B,q]:=l;exact l' J B q| next =>let#[h,i,J,q]:=l;exact l' (v:=V.non) (u:=Y1) J rfl q| brk =>let#[_,_,_,q]:=l;exact Q9 q| cont =>let#[_,_,_,q]:=l;exact Q9 q
section
variable{X:Cx}{x:gq}{p pos:jU}{e:gI}{es:bf gI}{t:TA}{id T:String}{r:bf V->Hp->VK->ck}
def YI(r:bf V->Hp->VK->ck)(t:TA):TE:=λf H Q=>t f H λg h=>r g h Q
def vv0(A:bK X (.builtin id) r)(u:Gl X x)(q:X.mg x=dv)(n:R9 x=du (.builtin id))(B:PA X (e::es) t)(o:x ≠ "__name__" := by decide)(m:(x==("__debug__" :gq))=eH:=by decide)
  (y:D2 (e::es) X.f=(eH,eval e X.f)::D2 es X.env:=by rfl) (C:(backTo pos (D2 es X.f)).any (·.1)=eH:=by rfl):PE X (.Call (.Name x p) (e::es) [] pos) (YI r t):=by
 intro kI s f H Q I h;apply O8 (sI I u q n ?_ o m)
 (apply C37 (bu (B pos kI s f H _ I h) ?_) y C;intro i j #[g,G,E,k,l];exact A kI j f G g i Q E k l)
def uu8(A:bK X (.type T) r)(u:Gl X x)(q:X.mg x=dv)(n:R9 x=du (.type T))(B:PA X (e::es) t)(o:x ≠ "__name__" := by decide)(m:(x==("__debug__" :gq))=eH:=by decide)
  (y:D2 (e::es) X.f=(eH,eval e X.f)::D2 es X.env:=by rfl) (C:(backTo pos (D2 es X.f)).any (·.1)=eH:=by rfl):PE X (.Call (.Name x p) (e::es) [] pos) (YI r t):=by
 intro kI s f H Q I h;apply O8 (sI I u q n ?_ o m)
 (apply J9 (bu (B pos kI s f H _ I h) ?_) y C;intro i j #[g,G,E,k,l];exact A kI j f G g i Q E k l)
end
section
variable{κ:Type}[DecidableEq κ]
def dA(kvs:bf (κ×V))(k:κ):b0 V:=(kvs.find? λf=>decide (f.1=k)).t (·.2)
def putK(kvs:bf (κ×V))(k:κ)(v:V):bf (κ×V):=if(kvs.any λf=>decide (f.1=k))=dS then kvs.t (λf=>if f.1=k then(f.1,v) else f) else kvs++[(k,v)]
def Az(kvs:bf (κ×V))(k:κ):bf (κ×V):=kvs.filter λf=>decide (f.1≠k)
def Fz{p:κ×V}{r:bf (κ×V)}{k:κ}(e:p.1=k):dA (p::r) k=du p.2:=by simp[dA,M6,e]
def Fx{p:κ×V}{r:bf (κ×V)}{k:κ}(e:¬ p.1=k):dA (p::r) k=dA r k:=by simp[dA,M6,e]
theorem Yn(k:κ):∀kvs:bf (κ×V),(kvs.any λf=>decide (f.1=k))=(dA kvs k).fg
 | []=>rfl| p::r=>by
  rw[P7];by_cases e:p.1=k
  .simp only[Fz e,cA e,P9,Option.isSome_some]
  .rw[Fx e,c7 e,N7];exact Yn k r
def CQ(kvs:bf (κ×V))(k:κ)(v:V):(putK kvs k v).l<=kvs.l+1:=by
 unfold putK;split
 .rw[B0];omega
 .rw[B4,C0,W7];omega
def d8.iX(r:d8 o u):o.fg=u.fg:=by
 cases o with
 | none=>cases u with
  | none=>rfl| some _=>exact(show b8 from r).n
 | some _=>cases u with
  | none=>exact(show b8 from r).n| some _=>rfl
theorem d8.getD(r:d8 o u)(rd:RelV d d'):RelV (o.E d) (u.E d'):=by
 cases o with
 | none=>cases u with
  | none=>exact rd| some _=>exact(show b8 from r).n
 | some _=>cases u with
  | none=>exact(show b8 from r).n| some _=>exact r
def KV.val{kvs:bf (κ×V)}{vs:bf (κ×fx)}(r:KV kvs vs)(k:κ):d8 (dA kvs k) (Cg vs k):=by
 unfold KV at r;induction r with
 | nil=>exact R0| @cons p q m f h t j =>
  let#[i,l]:=h;by_cases e:p.1=k
  .have g:q.1=k:=i.M.u e;let b:Cg (q::f) k=du q.2:=by simp[Cg,M6,g]
   rw[Fz e,b];exact l
  .have g:¬ q.1=k:=λz=>e (i.u z);let b:Cg (q::f) k=Cg f k:=by simp[Cg,M6,g]
   rw[Fx e,b];exact j
theorem KV.any{kvs:bf (κ×V)}{vs:bf (κ×fx)}(r:KV kvs vs)(k:κ):(kvs.any λf=>decide (f.1=k))=vs.any λf=>decide (f.1=k):=by
 unfold KV at r;induction r with
 | nil=>rfl| cons h t g=>rw[P7,P7,g,h.1]
def KV.vI(r:KV kvs vs)(k:κ)(i:RelV y u): KV (kvs.t λf=>if f.1=k then(f.1,y) else f) (vs.t λf=>if f.1=k then(f.1,u) else f):=by
 unfold KV at r⊢;induction r with
 | nil=>exact .nil| @cons p q n m h t j =>
  rw[C1,C1];apply .cons ?_ j;let#[g,l]:=h;by_cases e:p.1=k
  .rw[cu e,cu (g.M.u e)];exact#[g,i]
  .rw[cp e,cp (λz=>e (g.u z))];exact#[g,l]
def KV.put(r:KV kvs vs)(k:κ)(f:RelV y u):KV (putK kvs k y) (stored vs k u):=by
 unfold putK stored;rw[r.any k];by_cases e:(vs.any λg=>decide (g.1=k))=dS
 .rw[cu e,cu e];exact r.vI k f
 .rw[cp e,cp e];exact BH r #[rfl,f]
def KV.drop(r:KV kvs vs)(k:κ):KV (Az kvs k) (without vs k):=by
 unfold KV at r⊢;unfold Az without;induction r with
 | nil=>exact .nil| @cons p q m l h t g =>
  let#[f,i]:=h;rw[Tq,Tq];by_cases e:p.1=k
  .have a:¬ decide (p.1≠k)=dS:=by simp[e]
   let b:¬ decide (q.1≠k)=dS:=by simp[f.M.u e]
   rw[cp a,cp b];exact g
  .have j:¬ q.1=k:=λz=>e (f.u z);let a:decide (p.1≠k)=dS:=by simp[e]
   let b:decide (q.1≠k)=dS:=by simp[j]
   rw[cu a,cu b];exact .cons #[f,i] g
def KV.keys{kvs:bf (κ×V)}{vs:bf (κ×fx)}(r:KV kvs vs):kvs.t (·.1)=vs.t (·.1):=by
 unfold KV at r;induction r with
 | nil=>rfl| cons h t f=>rw[C1,C1,f,h.1]
theorem KV.length{kvs:bf (κ×V)}{vs:bf (κ×fx)}(r:KV kvs vs):kvs.l=vs.l:=SX r
def vy6(kvs:bf (κ×V))(k:κ):(Az kvs k).l<=kvs.l:=TL _ _
end
def CB{P:hH}{w:hL}(r:RelV (kV k) u):(eW P w).is k u=dS:=by
 cases k with
 | inl i=>let#[t,e]:=(show∃t,u=Gw i t from r);subst e;exact uz1 P w i t| inr x=>let#[t,e]:=(show∃t,u=Gv x t from r);subst e;exact uz0 P w x t
theorem QY{P:hH}{w:hL}:∀{ks:bf lR} {us:bf fx},Vals (ks.t kV) us->ItemsAre (eW P w) ks us
 | [],_,r=>by rw[GB] at r;cases r;exact .nil
 | k::ks,_,r=>by
  rw[C1] at r;cases r with
  | cons h t=>exact .cons (CB h) (QY t)
abbrev KT(H:Hp):bf (bf lR×V)->bf (bf lR×fy×fx)->ck:=Paired λp q=>p.1=q.1/\H q.2.1=du (.tup (p.1.t kV))/\RelV p.2 q.2.2
def KT.val{H:Hp}{kvs:bf (bf lR×V)}{xs:bf (bf lR×fy×fx)}(r:KT H kvs xs)(k:bf lR):d8 (dA kvs k) ((atKey xs k).t (·.2)):=by
 induction r with
 | nil=>exact R0| @cons p q m f h t j =>
  let#[i,_,l]:=h;by_cases e:p.1=k
  .have g:q.1=k:=i.M.u e;let b:atKey (q::f) k=du q.2:=by simp[atKey,M6,g]
   rw[Fz e,b];exact l
  .have g:¬ q.1=k:=λz=>e (i.u z);let b:atKey (q::f) k=atKey f k:=by simp[atKey,M6,g]
   rw[Fx e,b];exact j
def KT.vI(r:KT H kvs xs)(k:bf lR)(j:RelV y u): KT H (kvs.t λg=>if g.1=k then(g.1,y) else g) (xs.t (putAt k u)):=by
 induction r with
 | nil=>exact .nil| @cons p q o n h t l =>
  rw[C1,C1];apply .cons ?_ l;let#[f,i,m]:=h;unfold putAt;by_cases e:p.1=k
  .rw[cu e,cu (f.M.u e)];exact#[f,i,j]
  .rw[cp e,cp (λz=>e (f.u z))];exact#[f,i,m]
def KT.put(r:KT H kvs xs)(k:bf lR)(h:H b=du (.tup (k.t kV)))(f:RelV y u): KT H (putK kvs k y) (Sm xs k b u):=by
 let e:(kvs.any λg=>decide (g.1=k))=(atKey xs k).fg:=by rw[Yn,(r.val k).iX,vo]
 unfold putK Sm;rw[e];by_cases q:(atKey xs k).fg=dS
 .rw[cu q,cu q];exact r.vI k f
 .rw[cp q,cp q];exact BH r #[rfl,h,f]
def KT.keeps(r:KT H kvs xs)(f:∀b ys,H b=du (.tup ys)->g b=du (.tup ys)):KT g kvs xs:=Paired.vP r λ_ _ z=>#[z.1,f _ _ z.2.1,z.2.2]
section
variable{P:hH}{w:hL}{H:Hp}{h:hR}{a:fy}
def sN(ok:gP P w H h)(e:Rd H a u):bC P w H h a u:=e.ok ok
def yX(ok:gP P w H h)(e:Rd H a (.dK kvs)):kvs.l<=iZ/\(a==R8)=eH/\∃vs,KV kvs vs/\h.DictOf (eW P w) a vs:=show bC P w H h a (.dK kvs) from sN ok e
def GX(ok:gP P w H h)(e:H a=du (.dK kvs)):kvs.l<=iZ/\(a==R8)=eH/\∃vs,KV kvs vs/\h.DictOf (eW P w) a vs:=yX ok (.inl e)
def Qe{ks:bf lR}(ok:gP P w H h)(e:H a=du (.tup (ks.t kV))):(Gu (eW P w)).is h ks a:=by let#[_,its,r,o,i,g,#[n,f],_]:=(show bC P w H h a (.tup (ks.t kV)) from ok a _ e);exact#[o,its.e,n,i,g,f,by simpa using QY r]
def GY(ok:gP P w H h)(e:Rd H a (.dT kvs)):kvs.l<=iZ/\(a==R8)=eH /\ ∃xs,KT H kvs xs/\h.DictOfH (Gu (eW P w)) a xs:=by
 let#[z,y,xs,r,o,A,B,u,n,k,j,i]:=(show bC P w H h a (.dT kvs) from sN ok e);apply#[z,y,xs,r,o,A,B,u,n,k,j,λx hx=>?_,i];let all:∀{l:bf (bf lR×V)} {m:bf (bf lR×fy×fx)},KT H l m->∀x∈m,(Gu (eW P w)).is h x.1 x.2.1:=by
  intro l m q;induction q with
  | nil=>intro x hx;exact nomatch hx| @cons p q E C f t g =>
   intro x hx;rcases D9.mp hx with e|hx
   .subst e;exact Qe ok (by rw[<- f.1];exact f.2.1)
   .exact g x hx
 exact all r x hx
def xr4(ok:gP P w H h)(e:H a=du (.dT kvs)):kvs.l<=iZ/\(a==R8)=eH /\ ∃xs,KT H kvs xs/\h.DictOfH (Gu (eW P w)) a xs:=GY ok (.inl e)
end
def nP(H:Hp)(a:fy)(y:V)(r:b0 V):ck:=(∃kvs k,Rd H a (.dK kvs)/\y=kV k/\r=dA kvs k)\/∃kvs k b,Rd H a (.dT kvs)/\y=.ref b/\H b=du (.tup (k.t kV))/\r=dA kvs k
def xY(H:Hp)(a:fy)(y v:V)(f:Hp):ck:=
 (∃kvs k,H a=du (.dK kvs)/\y=kV k/\kvs.l<iZ/\f=l6 H a (.dK (putK kvs k v))) \/
 ∃kvs k b,H a=du (.dT kvs)/\y=.ref b/\H b=du (.tup (k.t kV))/\kvs.l<iZ/\f=l6 H a (.dT (putK kvs k v))
theorem nP.k{H:Hp}{a:fy}{kvs:bf (lR×V)}{k:lR}(e:H a=du (.dK kvs)):nP H a (kV k) (dA kvs k):=.inl ⟨kvs,k,.inl e,rfl,rfl⟩
theorem xY.k{H:Hp}{a:fy}{kvs:bf (lR×V)}{k:lR}{v:V}(e:H a=du (.dK kvs))(f:kvs.l<iZ):xY H a (kV k) v (l6 H a (.dK (putK kvs k v))):=.inl ⟨kvs,k,e,rfl,f,rfl⟩
section
variable{X:Cx}{kI:bf (fy×jC)}{σ:St}{H:Hp}{s:fC}{a:fy}{y v:V}{u r:fx}{o:b0 V}{A:iC}{E:fx->fC->ck}
def lp.big(I:lp X kI σ H s):R8<s.o.h.v:=by let h:J5<s.o.h.v:=(I.mod.glob.keeps I.bk).lt;exact va ∅ h
def vn4(t:A.ga+1<cLine)(I:lp X kI σ H s)(g:nP H a y (du v))(n:RelV y u)(h:∀i s',lp X kI σ H s'->RelV v i->Q i s'): i3 (model X.c X.w) A (Cf (.ref a) u) Q E s:=by
 rcases g with⟨kvs,k,e,m,l⟩|⟨kvs,k,b,e,m,G,l⟩
 .subst m;let#[z,B,q,f,dd]:=yX I.aB e;let#[i,hw,j]:=d8.some_of (v:=v) (o:=Cg q k) (by rw[l];exact f.val k);exact wpAny_getItem_of (CB n) dd.mapOf hw (h i _ (I.tok _) j)
 .subst m;cases(show u=F8 b from n);let#[z,B,xs,f,dd]:=GY I.aB e;let#[i,hw,j]:=d8.some_of (v:=v) (o:=(atKey xs k).t (·.2)) (by rw[l];exact f.val k);let#[p,x,C]:=F6.mp hw;apply wpAny_getItem_heap (vX t) (Qe I.aB G) dd x ?_;rw[C];exact h i _ (I.tok _) j
def Fm(I:lp X kI σ H s)(f:Mf (H a))(g:V4 a s.o h')(h:∃q,h'.r a=du q)(new:bC X.c X.w (l6 H a ob) h' a ob): lp X kI σ (l6 H a ob) { s with heap:=h',toks:=t'}:=I.write (x:=a) (e:=a) f (.inl rfl) (λb q i z=>(g.2 b i).u z) h new
def Qb{P:hH}{w:hL}{h':hR}{kvs:bf (lR×V)}(z:kvs.l<=iZ)(g:(a==R8)=eH)(f:KV kvs vs)(dd:h'.DictOf (eW P w) a vs): bC P w h h' a (.dK kvs):=#[z,g,vs,f,dd]
def vn3(M:A.ga+1<cLine)(I:lp X kI σ H s)(g:xY H a y v H')(C:RelV y u)(rv:RelV v r)(h:∀s',lp X kI σ H' s'->Q #[] s'): i3 (model X.c X.w) A (So (.ref a) u r) Q E s:=by
 rcases g with⟨kvs,k,e,x,l,B⟩|⟨kvs,k,b,e,x,J,l,B⟩
 .subst x B;let#[z,t,L,f,dd]:=GX I.aB e;let m:L.l<=iZ:=by rw[<- f.l];exact z
  let p:(putK kvs k v).l<=iZ:=by let:=CQ kvs k v;omega
  apply wpAny_setItem_pairs (hsz:=m) (CB C) dd λG i n=>h _ ?_;let N:∃q,G.r a=du q:=let ⟨q,_,_,j,_⟩:=i;#[q,j];exact Fm I (by rw[e];exact R0) n N (Qb p t (f.put k rv) i)
 .subst x B;cases(show u=F8 b from C);let#[z,t,xs,f,dd]:=xr4 I.aB e;let m:xs.l<=iZ:=by rw[<- SX f];exact z
  let p:(putK kvs k v).l<=iZ:=by let:=CQ kvs k v;omega
  apply wpAny_setItem_heap (hsz:=m) (vX M) (Qe I.aB J) dd λG i n=>h _ ?_;let#[q,Y,Z,j,U,S,R,_,O]:=i;apply Fm I (by rw[e];exact R0) n #[q,j] #[p,t,_,(f.put k J rv).keeps λc ys ec=>?_,q,Y,Z,j,U,S,R,O];rw[dj (UI ec e (λz=>nomatch z))];exact ec
end
section
variable{X:Cx}{kI:bf (fy×jC)}{σ:St}{H:Hp}{s:fC}{a:fy}{kvs:bf (lR×V)}{k:lR}{u:fx}{A:iC}{E:fx->fC->ck}
def xr5(I:lp X kI σ H s)(e:H a=du (.dK kvs))(j:RelV (kV k) u)(l:dA kvs k=du v)(p:more=[]\/∃x,more=[x]) (h:∀g s',lp X kI σ (l6 H a (.dK (Az kvs k))) s'->RelV v g->Q g s'):i3 (model X.c X.w) A (call (.builtin "dict.pop") (.ref a::u::more)) Q E s:=by
 let#[z,J,m,f,dd]:=GX I.aB e;let#[g,hw,r]:=d8.some_of (v:=v) (o:=Cg m k) (by rw[<- l];exact f.val k);let C:(keyPart u).fg=dS:=by
  cases k with
  | inl i=>let#[t,q]:=(show∃t,u=Gw i t from j);subst q;rfl| inr x=>let#[t,q]:=(show∃t,u=Gv x t from j);subst q;rfl
 let L:argsOk "dict.pop" #[.ref a::u::more,[]]:=by
  rcases p with q|⟨x,q⟩
  .subst q;exact PySem.F.args_dict_pop_2 _ _
  .subst q;exact PySem.F.args_dict_pop_3 _ _ _
 apply OU Wh dd.B PySem.F.entry_dict_pop L (meets_dict_pop_there (eW X.c X.w) a (CB j) more p C)
  ⟨m,g,dd,by rw[<- f.l];exact z,hw,λM n y=>h g _ ?_ r⟩
 let G:∃q,M.r a=du q:=let ⟨q,_,_,B,_⟩:=n;#[q,B];exact Fm I (by rw[e];exact R0) y G (Qb (D4 (vy6 kvs k) z) J (f.G k) n)
end
def uL(i:gI):ck:=∀f g,subscripted i eH f g=operate [f,g] (Cf f g)
def vd3{prog:hH}{w:hL}{A:iC}{E:fx->fC->ck}{s:fC}{env:Env}{value slice:gI}{pos:jU}{T id:String}{Q:fx->fC->ck} (q:OQ (.type T) "__getitem__" = pure (du (.builtin id))) (p:uL slice) (h:i3 (model prog w) A (eval value env) (λo k=>i3 (model prog w) A (eval slice env) (λi f=>f.TypeIs o T/\i3 (model prog w) A (Cf o i) Q E f) E k) E s): i3 (model prog w) A (eval (.Subscript value slice pos) env) Q E s:=by
 apply SD (S8 h (λo k m=>S8 m (λi f g=>?_) λ_ _ x=>x) λ_ _ x=>x);let#[n,g]:=g;unfold SU;apply B5 ?_;rw[getitemInPython_of_ne n.not_modules];apply B5 (Pf n q ?_);let l':i3 (model prog w) A (subscripted slice eH o i) (λr j=>i3 (model prog w) A (letTemporaryGo value o r >>= λ_=>pure r) Q E j) E f:=by rw[p o i];exact wpAny_operating (S8 g (λr j l=>B5 (wpAny_letTemporaryGo (C8 l))) λ_ _ x=>x)
 first
  | exact C8 (B5 l')
  | exact B5 (C8 (B5 l'))
  | exact B5 l'
def v02(I:lp X kI f H s)(g:nP H a y o):s.TypeIs (.ref a) "dict" := by
 rcases g with⟨kvs,k,e,_,_⟩|⟨kvs,k,b,e,_,_,_⟩
 .let#[_,_,h,_,dd]:=yX I.aB e;exact dd.B
 .let#[_,_,xs,_,dd]:=GY I.aB e;exact dd.B
def WD(h ty:TE):TE:=λf H Q=>h f H λx i=>ty f i λy g=>∃a v,x=.ref a/\nP g a y (du v)/\Q v g
def xp1(i ty h:TE):TS:=λD f H=>h f H λv l=>i f l λx k=>ty f k λy j=>∃a g,x=.ref a/\xY j a y v g/\D.nx f g
section
variable{X:Cx}{o i e value:gI}{pos pos' qX:jU}{td ty tv:TE}
def vg5(r:X.A.ga+1<cLine)(B:PE X o td)(hi:PE X i ty)(t:uL i):PE X (.Subscript o i pos) (WD td ty):=by
 intro kI s f H Q I h
 (apply vd3 RW.lookup t (bu (B kI s f H _ I h) ?_);intro u k #[x,G,C,m,p];apply bu (hi kI k f G _ C p) ?_;intro N M #[y,E,j,l,a,v,ex,g,n])
 subst ex;obtain rfl:u=F8 a:=m;exact#[v02 j g,vn4 r j g l λJ L I3 q=>#[v,E,I3,q,n]]
def wm3(C:X.A.ga+1<cLine)(G:PE X o td)(hi:PE X i ty)(B:PE X value tv)(E:X4 value (du (.Subscript o i pos')) pos.line X.f=pure eH): PS X (.Assign [.Subscript o i pos'] value pos) (xp1 td ty tv):=by
 intro kI s f H D I h
 (apply wpAny_Assign_Subscript (bu (B kI s f H _ I h) ?_) E;intro r k #[v,Q,M,n,t];apply bu (G kI k f Q _ M t) ?_;intro u j #[x,O,L,m,q];apply bu (hi kI j f O _ L q) ?_;intro U S #[y,Y,I3,l,a,N,ex,g,p])
 subst ex;obtain rfl:u=F8 a:=m;exact vn3 C I3 g l n λR J=>#[f,N,J,p]
end
def vy7{P:hH}{w:hL}(h:hR)(f:R8<h.h.v):bC P w H (h.R { cls:=.type "dict",data:=.dict [].e}) h.h.v (.dK []):=#[J8 _,beq_eq_false_iff_ne.mpr (E1 (J7 f)),[],.nil,BG h]
def wy6:TE:=λ_ H Q=>∀p,H p=dv->Q (.ref p) (l6 H p (.dK []))
section
variable{X:Cx}{pos:jU}
def vu7:PE X (.Dict [] [] pos) wy6:=λkI s f H Q I h =>
 wpAny_Dict_empty #[.ref s.o.h.v,_,I.laid (a:=s.o.h.v) (o:=.dK []) (t':=s.H) (λ_ _ q=>B8 _ q) (B9 _) (vy7 s.o I.big),rfl,h _ (I.aB.y (B9 _))]
end
def Fh(kvs more:bf (lR×V)):bf (lR×V):=more.foldl (λf g=>putK f g.1 g.2) kvs
def KV.merge:∀{more:bf (lR×V)} {rs:bf (lR×fx)} {kvs:bf (lR×V)} {vs:bf (lR×fx)},KV more rs->KV kvs vs->KV (Fh kvs more) (merged vs rs):=by
 intro more rs kvs vs r;unfold KV at r;induction r generalizing kvs vs with
 | nil=>intro q;exact q| @cons p q j i h t g =>
  intro f;let e:KV (putK kvs p.1 p.2) (stored vs q.1 q.2):=by let:=f.put p.1 h.2;rw[<- h.1];exact this
  exact g e
theorem ue3:∀(more kvs:bf (lR×V)),(Fh kvs more).l<=kvs.l+more.l
 | [],kvs=>by show kvs.l<=kvs.l+0;omega| p::r,kvs=>by let g:=ue3 r (putK kvs p.1 p.2);let f:=CQ kvs p.1 p.2;show(Fh (putK kvs p.1 p.2) r).l<=_;rw[C0];omega
structure M1(X:Cx)(o:gI)(m:gq)(apos:jU)(e:gI)(aS:jU):Prop where
 base:O1 o m X.f (eval o X.f)=eval o X.f
 few:((backTo aS (D2 [e] X.f)).all (λx=>!x.1)&&(Y0 aS (Q4 [] X.f)).all (λx=>x.1.fg)
  && decide (([e]:bf gI).l+([]:bf i4).l+(if([]:bf i4).isEmpty then 0 else 1)<30))=dS
 line:(apos.endLine==aS.line)=dS
 trees:backTo aS (D2 [e] X.f)=[(eH,eval e X.f)]
structure M2(X:Cx)(o:gI)(m:gq)(apos:jU)(e f:gI)(aS:jU):Prop where
 base:O1 o m X.f (eval o X.f)=eval o X.f
 few:((backTo aS (D2 [e,f] X.f)).all (λx=>!x.1)&&(Y0 aS (Q4 [] X.f)).all (λx=>x.1.fg)
  && decide (([e,f]:bf gI).l+([]:bf i4).l+(if([]:bf i4).isEmpty then 0 else 1)<30))=dS
 line:(apos.endLine==aS.line)=dS
 trees:backTo aS (D2 [e,f] X.f)=[(eH,eval e X.f),(eH,eval f X.f)]
def Sj(H:Hp)(a:fy):ck:=(∃kvs,Rd H a (.dK kvs))\/∃kvs,Rd H a (.dT kvs)
def Qd(I:lp X kI i H s)(d:Sj H a): s.TypeIs (.ref a) "dict" /\ (∀b,F8 a=.ref b->∃ob,s.o.r b=du ob/\ob.dict=dv)/\(a==R8)=eH:=by
 rcases d with⟨kvs,e⟩|⟨kvs,e⟩
 .let#[_,f,j,_,dd]:=yX I.aB e;apply#[dd.B,λb q=>?_,f];cases q;let#[ob,_,_,h,g,_]:=dd;exact#[ob,h,g.2.1]
 .let#[_,f,xs,_,dd]:=GY I.aB e;apply#[dd.B,λb q=>?_,f];cases q;let#[ob,_,_,h,g,_]:=dd;exact#[ob,h,g.2.1]
section
variable{X:Cx}{kI:bf (fy×jC)}{σ:St}{H:Hp}{s:fC}{a:fy}{y d:V}{u r:fx}{o:b0 V}{A:iC}{E:fx->fC->ck}
def xi3(p:A.ga+1<cLine)(I:lp X kI σ H s)(g:nP H a y o)(n:RelV y u)(rd:RelV d r)(h:∀m s',lp X kI σ H s'->RelV (o.E d) m->Q m s'): i3 (model X.c X.w) A (call (.builtin "dict.get") [.ref a,u,r]) Q E s:=by
 rcases g with⟨kvs,k,e,j,l⟩|⟨kvs,k,b,e,j,q,l⟩
 .subst j;let#[z,i,t,f,dd]:=yX I.aB e;apply OU AY dd.B T5 (T4 _ _ _) (meets_dict_get_default (eW X.c X.w) a (CB n) i r) #[_,dd.mapOf,h _ _ (I.tok _) ?_];rw[l];exact(f.val k).E rd
 .subst j;cases(show u=F8 b from n);let#[z,i,xs,f,dd]:=GY I.aB e;apply OU AY dd.B T5 (T4 _ _ _) (meetsH_dict_get_default (Gu (eW X.c X.w)) a b i r) #[vX p,k,xs,Qe I.aB q,dd,h _ _ (I.tok _) ?_];rw[l];exact(f.val k).E rd
end
def w21(j ty i:TE):TE:=λf H Q=>j f H λx h=>∃a,x=.ref a/\Sj h a/\ty f h λy k=>i f k λz g=>∃o,nP g a y o/\Q (o.E z) g
def w20(i ty:TE):TE:=λf H Q=>i f H λx h=>∃a,x=.ref a/\Sj h a/\ty f h λy g=>∃kvs k v,g a=du (.dK kvs)/\y=kV k/\dA kvs k=du v/\Q v (l6 g a (.dK (Az kvs k)))
section
variable{X:Cx}{o e f:gI}{apos aS:jU}{td ty tx:TE}
def vu9(J:X.A.ga+1<cLine)(L:PE X o td)(N:PE X e ty)(M:PE X f tx)(m:M2 X o "get" apos e f aS):PE X (.Call (.Attribute o "get" apos) [e,f] [] aS) (w21 td ty tx):=by
 intro kI s i H Q I h
 (apply vZ m.Q m.few m.line Y7 AY PySem.F.type_dict_get (bu (L kI s i H _ I h) ?_);intro u p #[x,Y,j,t,a,ex,d,E])
 subst ex;obtain rfl:u=F8 a:=t;let#[l,k,_]:=Qd j d;apply#[l,k,?_];rw[m.trees];apply R7 rfl (TJ (R4 (bu (N kI p i Y _ j E) λiv n ⟨y,U,R,r,C⟩ =>
  R4 (bu (M kI n i U _ R C) λfv s3 ⟨z,S,I3,q,ov,g,B⟩=>U6 ?_))))
 exact xi3 J I3 g r q λZ s4 O G=>#[_,S,O,G,B]
def vu5(C:PE X o td)(E:PE X e ty)(m:M1 X o "pop" apos e aS):PE X (.Call (.Attribute o "pop" apos) [e] [] aS) (w20 td ty):=by
 intro kI s g H Q I h
 (apply vZ m.Q m.few m.line Y7 Wh PySem.F.type_dict_pop (bu (C kI s g H _ I h) ?_);intro u p #[x,M,i,r,a,ex,d,A])
 subst ex;obtain rfl:u=F8 a:=r;let#[n,j,_]:=Qd i d;apply#[n,j,?_];rw[m.trees]
 (apply R7 rfl (TJ (R4 (bu (E kI p g M _ i A) ?_)));intro S R #[y,U,L,q,kvs,k,v,J,G,l,t];apply U6 ?_)
 subst G;exact xr5 L J q l (.inl rfl) λN O I3 B=>#[v,_,I3,B,t]
end
section
variable{X:Cx}{kI:bf (fy×jC)}{σ:St}{H:Hp}{s:fC}{a:fy}{kvs:bf (lR×V)}{A:iC}{E:fx->fC->ck}
def vz0(I:lp X kI σ H s)(e:Rd H a (.dK kvs))(h:∀p s',H p=dv->lp X kI σ (l6 H p (.dK kvs)) s'->Q (.ref p) s'):i3 (model X.c X.w) A (call (.type "dict") [.ref a]) Q E s:=by let#[z,k,l,f,dd]:=yX I.aB e;apply kt_call_dict k dd (by rw[<- f.l];exact z) λn i j=>?_;apply h _ _ (I.aB.y (B9 _)) (I.laid (a:=s.o.h.v) (o:=.dK kvs) (t':=s.H) (λb q g=>?_) (B9 _) (Qb z (beq_eq_false_iff_ne.mpr (E1 (J7 I.big))) f i));exact(j.2 b (J7 (E4 g))).u (B8 _ g)
end
end L2
namespace HT
open PySem PyProof.Rows
section
open PySem.SeqAt
open PySem.AutoSeq1 (wpAny_loadPart')
open PySem.MeetsSeq PySem.MeetsSeq2 PySem.MeetsSeq3
end
section
variable{prog:hH}{w:hL}{A:iC}{E:fx->fC->ck}{s:fC}
def Aa{vs f:bf fx}(x:IsTup s.o t vs.e)(y:IsTup s.o b f.e)(p:vs≠[]) (h1:f=[]->Q (.ref t) s) (B:f≠[]->Q (.ref s.o.h.v) { s with heap:=s.o.R { cls:=.type "tuple",data:=.seq (vs++f).e}}) (hsz:vs.l+f.l<=iZ):i3 (model prog w) A (N0 .Add (.ref t) (.ref b)) Q E s:=by
 let#[#[cls,dd,data,m],i,r,n,q]:=id x;let#[#[u,j,data2,l],h,k,o,g]:=id y;simp only at r q k g;subst r q k g;let e:vs.e++f.e=(vs++f).e:=by simp
 by_cases hw:f=[]
 .exact xI #[_,i,rfl] #[_,h,rfl] wk xi Ay z7 (z5 _ _)
   (tuple_addW1 t b vs.e f.e n o dd j m l (by simpa using p) (by simp[hw])) #[i,h,h1 hw]
 .apply xI #[_,i,rfl] #[_,h,rfl] wk xi Ay z7 (z5 _ _)
   (tuple_addW2 t b vs.e f.e n o dd j m l (by simpa using p) (by simpa using hw) (by rw[E5,E5];exact hsz)) #[i,h,?_]
  rw[e];exact B hw
def cD(n d:br):b0 bz->br
 | none=>d| some v=>if v<0 then(v+(n:bz)).i else min v.i n
def oq(n d:br):cD n d dv=d:=rfl
def hJ(n d k:br):cD n d (du (k:bz))=min k n:=by show(if(k:bz)<0 then((k:bz)+(n:bz)).i else min (k:bz).i n)=min k n;rw[cp (),O6]
def x00(n d:br)(g:d<=n)(o:b0 bz):cD n d o<=n:=by
 cases o with
 | none=>exact g| some v =>
  show(if v<0 then(v+(n:bz)).i else min v.i n)<=n;by_cases f:v<0
  .rw[cu f];omega
  .rw[cp f];exact ux _ _
def nu(v:bz)(n:br)(f:¬ v<0):min v (n:bz)=((min v.i n:br):bz):=by
 let#[k,rfl]:=Eb (q7.mp f);rcases NT k n with h|h
 .rw[O6,W8 h,qB (Fn.mpr h)]
 .rw[O6,Ny h,Int.min_eq_right (Fn.mpr h)]
def vo5(v:bz)(n d:br):(if v<0 then max (v+(n:bz)) 0 else min v (n:bz))=((cD n d (du v):br):bz):=by
 show(if v<0 then max (v+(n:bz)) 0 else min v (n:bz))=(((if v<0 then(v+(n:bz)).i else min v.i n):br):bz)
 by_cases f:v<0
 .simp only[cu f];exact(qC _).M
 .simp only[cp f];exact nu v n f
def va8(lo hi:b0 bz)(n:br):zS lo hi 1 (n:bz)=(((cD n 0 lo:br):bz),((cD n n hi:br):bz)):=by
 let f:¬ ((1:bz)<0):=()
 unfold zS;simp only[f,if_false];apply Av ?_ ?_
 .cases lo with
  | none=>rfl| some v=>exact vo5 v n 0
 .cases hi with
  | none=>rfl| some v=>exact vo5 v n n
def v88(i j:br):W5 (i:bz) (j:bz) 1=j-i:=by
 unfold W5;let f:(1:bz)>0:=()
 simp only[f,if_true,Int.ediv_one];split <;> omega
def un2(p:IsPart v o)(h:Q o s):i3 (model prog w) A (C58 v) Q E s:=by
 cases p with
 | none=>exact slicePart_none h| int i t=>exact slicePart_int h
def uh9{k:fy}{i g:fx}{lo hi:b0 bz}{n:br}{Q:bz×bz×br->fC->ck}(m:s.o.IsSliceOf k i g .none)(pl:IsPart i lo)(l:IsPart g hi) (h:Q (((cD n 0 lo:br):bz),1,cD n n hi-cD n 0 lo) s):i3 (model prog w) A (Rz (.ref k) (pure (n:bz))) Q E s:=by
 let#[os,j,o,f]:=id m;unfold Rz C92;apply B5 (B5 (L7 j f (x:=i) rfl (B5 (L7 j f (x:=g) rfl (B5 (L7 j f (x:=.none) rfl (C8 ?_)))))));apply B5 (slicePart_none ?_);show i3 _ _ (if((1:bz)==0)=dS then _ else _) _ _ s;rw[cp ∅];apply B5 (un2 pl (B5 (un2 l (B5 (C8 ?_)))));show i3 _ _ (match zS lo hi 1 (n:bz) with|(lo,hi)=>pure (lo,(1:bz),W5 lo hi 1)) _ _ s;rw[va8 lo hi n];show i3 _ _ (pure (((cD n 0 lo:br):bz),(1:bz),W5 ((cD n 0 lo:br):bz) ((cD n n hi:br):bz) 1)) _ _ s;rw[v88];exact C8 h
def vt8(xs:dc fx)(i k:br):((D3 k).filterMap λ(m:br)=>xs[((i:bz)+(m:bz)*1).i]?).e=((xs.L.G i).fh k).e:=by
 let e:(λ(m:br)=>xs[((i:bz)+(m:bz)*1).i]?)=λm=>xs[i+m]?:=by
  funext m;let:((i:bz)+(m:bz)*1).i=i+m:=()
  rw[this]
 rw[e];let:=pick_run xs i k;rw[KL] at this;let f:((λx=>xs[x]?)∘λx=>i+x)=λm=>xs[i+m]?:=rfl;rw[f] at this;rw[this]
def ib{t i:fy}{items:dc fx}{n l:fx}{lo hi:b0 bz}{Q:fx->fC->ck}(g:IsTup s.o t items)(o:s.o.IsSliceOf i n l .none)(pl:IsPart n lo)(p:IsPart l hi) (hw:¬ (cD items.v 0 lo=0/\cD items.v items.v hi=items.v)) (h:Q (.ref s.o.h.v) { s with heap:=s.o.R { cls:=.type "tuple",data:=.seq ((items.L.G (cD items.v 0 lo)).fh (cD items.v items.v hi-cD items.v 0 lo)).e}}) (hsz:items.v<=iZ):i3 (model prog w) A (Cf (.ref t) (.ref i)) Q E s:=by
 let f:sizeOk (.seq ((items.L.G (cD items.v 0 lo)).fh (cD items.v items.v hi-cD items.v 0 lo)).e):=by show((items.L.G (cD items.v 0 lo)).fh (cD items.v items.v hi-cD items.v 0 lo)).e.v<=iZ;rw[E5,Tr,Tp,L4];exact D4 (ux _ _) (D4 (vb _ _) hsz)
 let C:cD items.v items.v hi<=items.v:=x00 _ _ (B9 _) hi;let#[os,u,r,x]:=id o;let k:s.TypeIs (.ref i) "slice" := #[os,u,r];unfold Cf;try with_reducible apply O0 ?_
 first|apply B5 (C8 ?_)|skip
 apply B5 (wpAny_sequenceKey g.B ∅ ?_);apply B5 (P4 (name:=C5 "__getitem__") g.B Y5
  (Q3 Y5 g.B entry_tuple_getitem ?_ (args_tuple_getitem _ _)))
 show i3 _ _ (RT (.ref t) >>= _) _ _ s;apply B5 (tupleItemsOf_ g ?_);apply B5 (Gz k ?_);rw[cu ∅];apply B5 (uh9 o pl p ?_);let j:¬ ((((cD items.v 0 lo:br):bz)==0&&(1:bz)==1&&(cD items.v items.v hi-cD items.v 0 lo)==items.v)=dS):=by intro q;rw[K9,K9] at q;let B:((cD items.v 0 lo:br):bz)=0:=eq_of_beq q.1.1;let y:cD items.v items.v hi-cD items.v 0 lo=items.v:=eq_of_beq q.2;exact hw #[(),()]
 show i3 _ _ (if(((cD items.v 0 lo:br):bz)==0&&(1:bz)==1&&(cD items.v items.v hi-cD items.v 0 lo)==items.v)=dS then _ else _) _ _ s;rw[cp j,vt8];first
  | exact B5 (m:=Y2 _) (V0 (C8 ⟨_,rfl,C8 h⟩) f)
  | exact B5 (m:=Y2 _) (V0 (B5 (C8 (C8 ⟨_,rfl,C8 h⟩))) f)
  | exact B5 (B5 (m:=Y2 _) (V0 (C8 (C8 ⟨_,rfl,C8 h⟩)) f))
  | exact B5 (B5 (m:=Y2 _) (V0 (C8 ⟨_,rfl,C8 h⟩) f))
end
end HT
namespace L2
open PySem PySem.Spec PyProof.Rows
abbrev TO:=St->Hp->(b0 bz->Hp->ck)->ck
def PO(X:Cx)(e:b0 gI)(t:TO):ck:=
 ∀(kI:bf (fy×jC)) (s:fC) (f:St) (H:Hp) (Q:b0 bz->Hp->ck),lp X kI f H s->t f H Q ->
  i3 (model X.c X.w) X.A (evalPart e X.f) (λu h=>∃o g,lp X kI f g h/\IsPart u o/\Q o g) X.xe s
def vd1:TO:=λ_ H Q=>Q dv H
def wx7(t:TE):TO:=λf H Q=>t f H λx g=>∃i,x=.int i/\Q (du i) g
def intsAre_of{ns:bf bz}:∀{us:bf fx},Vals (ns.t V.int) us->x_ us ns:=by
 induction ns with
 | nil=>intro us r;rw[GB] at r;cases r;exact .nil
 | cons n ns h =>
  intro us r;rw[C1] at r;cases r with
  | cons g f =>let#[t,e]:=g;subst e;exact .cons n t (h f)
section
variable{X:Cx}{e:gI}{te:TE}{lo hi:b0 gI}{tl th:TO}{pos p2:jU}
def wm5:PO X dv vd1:=by intro kI s f H Q I h;rw[xp];exact C8 #[dv,H,I,.none,h]
def wm4(h:PE X e te):PO X (du e) (wx7 te):=by
 intro kI s f H Q I hw;rw[evalPart_some]
 (apply bu (h kI s f H _ I hw) ?_;intro u m #[x,l,k,g,j])
 let#[i,rfl,q]:=j;let#[t,rfl]:=g;exact#[du i,l,k,.int i t,q]
def uJ(X:Cx)(r:V->b0 bz->b0 bz->Hp->VK->ck):ck:=
 ∀(kI:bf (fy×jC)) (s:fC) (f:St) (H:Hp) (x:V) (v h g:fx) (lo hi:b0 bz) (i:fy) (Q:VK),lp X kI f H s->RelV x v->s.o.IsSliceOf i h g .none->IsPart h lo->IsPart g hi->r x lo hi H Q ->
  ∃T id,OQ (.type T) "__getitem__" = pure (du (.builtin id))/\s.TypeIs v T/\i3 (model X.c X.w) X.A (Cf v (.ref i)) (EP X kI f Q) X.xe s
def uJ.or{r r':V->b0 bz->b0 bz->Hp->VK->ck}(h:uJ X r)(h':uJ X r'):uJ X (λx lo hi H Q=>r x lo hi H Q\/r' x lo hi H Q):=by
 intro kI s f H x v i g lo hi j Q I k n m l q;rcases q with q|q
 .exact h kI s f H x v i g lo hi j Q I k n m l q
 .exact h' kI s f H x v i g lo hi j Q I k n m l q
def tSl(r:V->b0 bz->b0 bz->Hp->VK->ck)(te:TE)(tl th:TO):TE:=λf H Q=>te f H λx i=>tl f i λl h=>th f h λu g=>r x l u g Q
def vu1(M:uJ X r)(R:PE X e te)(N:PO X lo tl)(J:PO X hi th):PE X (.Subscript e (.Slice lo hi dv p2) pos) (tSl r te tl th):=by
 intro kI s g H Q I h
 (apply SD (bu (R kI s g H _ I h) ?_);intro v o #[x,H1,Z,p,B])
 (apply wpAny_Slice (bu (N kI o g H1 _ Z B) ?_);intro k n #[l,H2,Y,E,y];apply bu (J kI n g H2 _ Y y) ?_;intro j f #[u,m,I3,C,t])
 rw[xp];apply C8 ?_;let U:lp X kI g m { f with heap:=f.o.R { cls:=.type "slice",data:=.fields [k,j,.none].e}}:=I3.kept (t':=f.H) λb ob q=>B8 _ q;let#[T,id,S,L,O]:=M kI { f with heap:=f.o.R { cls:=.type "slice",data:=.fields [k,j,.none].e}} g m x v k j l u f.o.h.v Q U p (YN ..) E C t;show i3 (model X.c X.w) X.A (SU e (.Slice lo hi dv p2) v (.ref f.o.h.v)) (EP X kI g Q) X.xe { f with heap:=f.o.R { cls:=.type "slice",data:=.fields [k,j,.none].e}};exact vr (ops:=[.ref f.o.h.v,v]) L S O (by with_unfolding_all rfl)
def qh(xs:bf V)(lo hi:b0 bz):bf V:=(xs.G (HT.cD xs.l 0 lo)).fh (HT.cD xs.l xs.l hi-HT.cD xs.l 0 lo)
def um1(xs:bf V)(lo hi:b0 bz):(qh xs lo hi).l<=xs.l:=by unfold qh;rw[Tr,Tp];exact D4 (ux _ _) (vb _ _)
def YS(K:eM):V->b0 bz->b0 bz->Hp->VK->ck:=λx lo hi H Q=>∃a xs,x=.ref a/\eR K H a xs /\
 ¬ (HT.cD xs.l 0 lo=0/\HT.cD xs.l xs.l hi=xs.l)/\∀p,H p=dv->Q (.ref p) (l6 H p (.tup (qh xs lo hi)))
def wz4:uJ X (YS X.K):=by
 intro kI s p H x v u t lo hi A Q I j n l k h;let#[a,xs,rfl,m,hw,q]:=h;cases j;let#[its,r,i,g]:=I.tuple m;let f:its.e.v=xs.l:=by rw[E5];exact r.l.M
 apply#["tuple",_,Y5.q,i.B,?_];apply HT.ib i n l k (by rw[f];exact hw) ?_ (by rw[f];exact g);rw[f];apply#[.ref s.o.h.v,_,I.laid (t':=s.H) (o:=.tup (qh xs lo hi)) (λb B q=>B8 _ q) (B9 _) ?_,rfl,q _ (I.aB.y (B9 _))];exact#[D4 (um1 xs lo hi) g,_,(r.G (HT.cD xs.l 0 lo)).fh (HT.cD xs.l xs.l hi-HT.cD xs.l 0 lo),qr.S _ _]
def xp3(K:eM):R2:=λx y H Q=>∃a b xs f,x=.ref a/\y=.ref b/\eR K H a xs/\eR K H b f/\xs≠[]/\xs.l+f.l<=iZ /\
 (f=[]->Q (.ref a) H)/\(f≠[]->∀p,H p=dv->Q (.ref p) (l6 H p (.tup (xs++f))))
def Vals.jR(r:Vals xs us):us=[]↔xs=[]:=by
 cases r with
 | nil=>simp| cons _ _=>simp
def sR:dM X (N0 .Add) (xp3 X.K):=by intro kI s B H x y v u Q I l k h;let#[a,b,xs,j,rfl,rfl,A,t,r,i,n,m]:=h;cases l;cases k;let#[its,g,p,_]:=I.tuple A;let#[G,f,p2,_]:=I.tuple t;apply HT.Aa p p2 (λz=>r (g.jR.mp z)) (λz=>#[.ref a,H,I,rfl,n (f.jR.mp z)]) (λz=>?_) (by rw[<- g.l,<- f.l];exact i);apply#[.ref s.o.h.v,_,I.laid (t':=s.H) (o:=.tup (xs++j)) (λb E q=>B8 _ q) (B9 _) ?_,rfl,m (λw=>z (f.jR.mpr w)) _ (I.aB.y (B9 _))];exact#[by rw[B4];exact i,_,g.fj f,qr.S _ _]
end
def jz(n:br)(i:bz):b0 br:=if 0<=i then(if i<n then du i.i else dv) else if -(n:bz)<=i then du (i+n).i else dv
def cS{f:Type}(xs:bf f):bz->b0 f
 | .ofNat j=>xs[j]?| i=>(jz xs.l i).bind λj=>xs[j]?
def Cy{f:Type}(xs:bf f)(i:bz):cS xs i=(jz xs.l i).bind λj=>xs[j]?:=by
 cases i with
 | negSucc j=>rfl| ofNat j =>
  unfold jz;rw[cu (show(0:bz)<=.ofNat j from P5 j)];split
  .rfl
  .rename_i h;exact M9 (Nz λk=>h (Int.ofNat_lt.mpr k))
def vk6{n:br}(h:jz n i=du j):seqIndex? i n=du j/\j<n/\-(n:bz)<=i/\i<n:=by
 unfold jz at h;by_cases g:0<=i
 .rw[cu g] at h;by_cases f:i<n
  .rw[cu f] at h;let e:i.i=j:=E8 h;exact#[by rw[xT g f,e],(),(),f]
  .rw[cp f] at h;cases h
 .rw[cp g] at h;by_cases f:-(n:bz)<=i
  .rw[cu f] at h;let e:(i+n).i=j:=E8 h;exact#[by rw[xK () f,e],(),f,()]
  .rw[cp f] at h;cases h
def Xw{f:Type}{xs:bf f}{i:bz}{v:f}(h:cS xs i=du v):∃j,seqIndex? i xs.l=du j/\xs[j]?=du v/\j<xs.l/\-(xs.l:bz)<=i/\i<xs.l:=by
 rw[Cy] at h;cases e:jz xs.l i with
 | none=>rw[e] at h;cases h
 | some j =>rw[e] at h;let#[m,l,k,g]:=vk6 e;exact#[j,m,h,l,k,g]
def vy{f:Type}{xs:bf f}{j:br}{v:f}(h:xs[j]?=du v):cS xs (j:bz)=du v:=by
 let g:j<xs.l:=(N1.mp h).1;let e:jz xs.l (j:bz)=du j:=by unfold jz;rw[cu (),cu ()];simp
 rw[Cy,e];exact h
def vq4(b:gI):ck:=∀o i,subscripted b eH o i=operate [o,i] (Cf o i)
def uM(X:Cx)(r:R2):ck:=
 ∀(value slice:gI) (kI:bf (fy×jC)) (s:fC) (f:St) (H:Hp) (x y:V) (v u:fx) (Q:VK),lp X kI f H s->RelV x v->RelV y u->r x y H Q ->
  subscripted slice eH v u=operate [v,u] (Cf v u)->i3 (model X.c X.w) X.A (SU value slice v u) (EP X kI f Q) X.xe s
def Al(X:Cx)(id:String)(r:V->bf V->Hp->VK->ck):ck:=
 ∀(kI:bf (fy×jC)) (s:fC) (f:St) (H:Hp) (x:V) (xs:bf V) (v:fx) (g:bf fx) (Q:VK),lp X kI f H s->RelV x v->Vals xs g->r x xs H Q ->
  i3 (model X.c X.w) X.A (call (.builtin id) (v::g)) (EP X kI f Q) X.xe s
section
variable{X:Cx}{a b:gI}{ta tb:TE}{pos:jU}
def uM.or{r r':R2}(h:uM X r)(h':uM X r'):uM X (λx y H Q=>r x y H Q\/r' x y H Q):=by
 intro value slice kI s f H x y v u Q I i g q j;rcases q with q|q
 .exact h value slice kI s f H x y v u Q I i g q j
 .exact h' value slice kI s f H x y v u Q I i g q j
def Al.or{id:String}{r r':V->bf V->Hp->VK->ck}(h:Al X id r)(h':Al X id r'):Al X id (λx xs H Q=>r x xs H Q\/r' x xs H Q):=by
 intro kI s f H x xs v g Q I i j q;rcases q with q|q
 .exact h kI s f H x xs v g Q I i j q
 .exact h' kI s f H x xs v g Q I i j q
def xq1(l:uM X r)(n:PE X a ta)(m:PE X b tb)(k:vq4 b):PE X (.Subscript a b pos) (HS r ta tb):=by intro kI s f H Q I h;exact SD (Ex n m I h λv u g x y p o j i q=>l a b kI g f p x y v u Q o j i q (k _ _))
def Io(K:eM):R2:=λx y H Q=>∃p xs i v,x=.ref p/\y=.int i/\fb K H p xs/\cS xs i=du v/\Q v H
def Il(K:eM):R2:=λx y H Q=>∃p xs i v,x=.ref p/\y=.int i/\eR K H p xs/\cS xs i=du v/\Q v H
def Im:R2:=λx y H Q=>∃z i c,x=.str z/\y=.int i/\z.l<=iZ/\cS z.cps.L i=du c/\Q (.str #[[c].e]) H
def zM:uM X (Io X.K):=by
 intro value slice kI s l H x y v u Q I C B h m;let#[p,xs,i,z,rfl,rfl,G,L,q]:=h;cases C;let#[t,rfl]:=B;let#[its,r,g,R]:=I.list G;let#[j,f,O,U,N,M]:=Xw L;let#[w,o,E]:=r.get O;let J:=r.l;let S:=iU;let l':EP X kI l Q w s:=#[z,H,I,E,q];by_cases n:0<=i
 .have k:i.i=j:=by rw[xT n M] at f;exact E8 f
  exact item_listR g.Y n () (by rw[k];simpa using o) l' m
 .have k:(i+(its.e.v:bz)).i=j:=by rw[xK () N] at f;rw[E5,<- J];exact E8 f
  exact subscriptTail_builtinR (x:=w) g.Y.B wh.lookup
   (wpAny_getItem_list_neg (Q:=λr A=>r=w/\EP X kI l Q r A) g.Y () (by rw[E5] <;> omega) () (by rw[k];simpa using o) #[rfl,l']) m
def Dx:uM X (Il X.K):=by
 intro value slice kI s f H x y v u Q I m l h o;let#[p,xs,i,z,rfl,rfl,A,C,q]:=h;cases m;let#[t,rfl]:=l;let#[its,r,g,L]:=I.tuple A;let#[j,G,E,R,O,N]:=Xw C;let#[w,J,n]:=r.get E;let B:=r.l;let M:=iU;let l':EP X kI f Q w s:=#[z,H,I,n,q];exact subscriptTail_builtinR (x:=w) g.B slot_tuple_getitem.q
  (getItem_tuple (j:=j) (Q:=λr k=>r=w/\EP X kI f Q r k) g () () (by rw[E5,<- B];exact G) (by simpa using J) #[rfl,l']) o
def xf8:uM X Im:=by
 intro value slice kI s C H x y v u Q I k g h l;let#[z,i,c,rfl,rfl,G,n,q]:=h;let#[t,rfl]:=k;let#[E,rfl]:=g;let#[j,f,r,L,p,o]:=Xw n;let m:z.cps.L.l=z.l:=by simp[SF]
 rw[m] at f p o;let J:=iU;exact vr (SA s z t) slot_str_getitem.q (getItem_str (c:=c) (by let B:decide (i < -(2^63:bz))=eH:=c7 ();let A:decide (i ≥ 2^63)=eH:=c7 ();rw[B,A,P0]) (by rw[f];simpa using r) #[.str #[[c].e],H,I.tok _,#[_,rfl],q]) l
def rIx(K:eM):R2:=λx y H Q=>Io K x y H Q\/Il K x y H Q\/Im x y H Q
def xf9:uM X (rIx X.K):=zM.or (Dx.or xf8)
def v92(its:bf fx)(n j:br)(u:fx):OS (·.setIfInBounds j u) { cls:=.type "list",data:=.seq its.e n}={ cls:=.type "list",data:=.seq (its.I j u).e n}:=by simp[OS]
theorem lp.lst{kI:bf (fy×jC)}{f:St}{H:Hp}{s:fC}{p:fy}{xs:bf V}(I:lp X kI f H s)(h:H p=du (.lst xs)): ∃(its:bf fx) (n:br),Vals xs its/\s.o.r p=du { cls:=.type "list",data:=.seq its.e n}/\xs.l<=iZ:=by
 let#[z,its,n,r,e]:=I.aB p _ h;exact#[its,n,r,e,z]
def lp.Dq{its gH:bf fx}(I:lp X kI j H s)(h:H p=du (.lst xs)) (l:s.o.r p=du { cls:=.type "list",data:=.seq its.e n}) (i:f { cls:=.type "list",data:=.seq its.e n}={ cls:=.type "list",data:=.seq gH.e g}) (r:Vals ys gH) (k:ys.l<=iZ) (t:br): lp X kI j (l6 H p (.lst ys)) { s with heap:=s.o.update p f,toks:=t}:=by
 let e:(s.o.update p f).r p=du { cls:=.type "list",data:=.seq gH.e g}:=by rw[XS f l (by rw[i] <;> rfl),i]
 apply I.write (x:=p) (e:=p) (by rw[h];trivial) (.inl rfl) (λb u m q=>(XP _ _ (E1 m)).u q) #[_,e] ?_;exact#[k,gH,g,r,e]
def xp2:V->V->V->Hp->(Hp->ck)->ck:=λo i v H Q=>∃p xs k j,o=.ref p/\i=.int k/\H p=du (.lst xs)/\jz xs.l k=du j/\Q (l6 H p (.lst (xs.I j v)))
def set_list:uK X xp2:=by
 intro kI s E H o i v O R u Q I J L G h;let#[p,xs,k,j,rfl,rfl,x,N,q]:=h;cases J;let#[t,rfl]:=L;let#[its,n,r,g,M]:=I.lst x;let#[f,U,A,y]:=vk6 N;let l:=r.l;let S:=iU;let C:lp X kI E (l6 H p (.lst (xs.I j v))) { s with heap:=s.o.update p (OS (·.setIfInBounds j u))}:=
  I.Dq x g (v92 its n j u) (r.I G j) (by rw[K2];exact M) s.H
 by_cases B:0<=k
 .have m:k.i=j:=by rw[xT B y] at f;exact E8 f
  exact W.ki_setAt g B () (by rw[E5,<- l];exact y) (by rw[m];exact#[_,C,q])
 .have m:(k+(its.e.v:bz)).i=j:=by rw[xK () A] at f;rw[E5,<- l];exact E8 f
  exact W.ki_setBack g () (by rw[E5,<- l];exact A) () (by rw[m];exact#[_,C,q])
def uu3(lo hi:b0 bz)(n:br):(Ck lo hi dv n).1=((HT.cD n 0 lo:br):bz)/\(Ck lo hi dv n).2.1=((HT.cD n n hi:br):bz)/\(Ck lo hi dv n).2.2=1:=by
 apply#[?_,?_,rfl]
 .cases lo with
  | none=>simp[Ck,HT.cD]| some i =>
   simp only[Ck,HT.cD,Oy,show(1:bz)>0 by decide,if_true];by_cases h:i<0
   .simp only[h,if_true];rw[qC,Fy,qB ()]
   .simp only[h,if_false];rw[<- HT.nu i n h];exact Et (F'.mpr #[q7.mp h,P5 n])
 .cases hi with
  | none=>simp[Ck,HT.cD]| some i =>
   simp only[Ck,HT.cD,Oy,show(1:bz)>0 by decide,if_true];by_cases h:i<0
   .simp only[h,if_true];rw[qC,Fy,qB ()]
   .simp only[h,if_false];rw[<- HT.nu i n h];exact Et (F'.mpr #[q7.mp h,P5 n])
def uq1(its:bf fx)(lo hi:b0 bz):Sy its.e lo hi dv=((its.G (HT.cD its.l 0 lo)).fh (HT.cD its.l its.l hi-HT.cD its.l 0 lo)).e:=by let#[h,g,f]:=uu3 lo hi its.e.v;unfold Sy;rw[h,g,f];simp only[sliceRange_one,pick_run,E5] <;> rfl
def YT(K:eM):V->b0 bz->b0 bz->Hp->VK->ck:=λx lo hi H Q=>∃a xs,x=.ref a/\fb K H a xs/\∀p,H p=dv->Q (.ref p) (l6 H p (.lst (qh xs lo hi)))
def zr:uJ X (YT X.K):=by intro kI s p H x v u t lo hi A Q I i n k j h;let#[a,xs,rfl,m,q]:=h;cases i;let#[its,r,g,l]:=I.list m;let f:=r.l;apply#["list",_,wh.lookup,g.Y.B,?_];apply wpAny_getItem_list_slice g.Y n k j .none (by simp) ?_ (by rw[E5] <;> omega);rw[uq1,<- f];apply#[.ref s.o.h.v,_,I.laid (t':=s.H) (o:=.lst (qh xs lo hi)) (λb B q=>B8 _ q) (B9 _) ?_,rfl,q _ (I.aB.y (B9 _))];exact#[D4 (um1 xs lo hi) l,_,0,(r.G (HT.cD xs.l 0 lo)).fh (HT.cD xs.l xs.l hi-HT.cD xs.l 0 lo),E7 _ rfl]
def vx:V->cg
 | .non=>dS| .bl _=>dS| .int _=>dS| .str _=>dS| _=>eH
def zZ:V->V->cg
 | .non,.non=>dS| .bl a,.bl b=>a==b| .bl a,.int b=>(if a then 1 else 0)==b| .int a,.bl b=>a==(if b then 1 else 0)| .int a,.int b=>a==b| .str a,.str b=>a==b| _,_=>eH
def w83(h:RelV y u)(f:RelV x v)(j:vx y=dS)(i:vx x=dS):EL A s u v (zZ y x):=by
 cases y with
 | non =>
  cases h;cases x with
  | non=>cases f;exact BJ _
  | bl b=>cases f;exact D35 b
  | int b=>let#[t,rfl]:=f;exact D48 b t| str b=>let#[t,rfl]:=f;exact D49 b t| _=>exact cz (show eH=dS from i) D1
 | bl a =>
  cases h;cases x with
  | non=>cases f;exact D36 a
  | bl b=>cases f;exact D37 a b
  | int b=>let#[t,rfl]:=f;exact D50 a b t| str b=>let#[t,rfl]:=f;exact D51 a b t| _=>exact cz (show eH=dS from i) D1
 | int a =>
  let#[g,rfl]:=h;cases x with
  | non=>cases f;exact D52 a g
  | bl b=>cases f;exact D53 a g b
  | int b=>let#[t,rfl]:=f;exact D60 a g b t| str b=>let#[t,rfl]:=f;exact C07 a g b t| _=>exact cz (show eH=dS from i) D1
 | str a =>
  let#[g,rfl]:=h;cases x with
  | non=>cases f;exact D54 a g
  | bl b=>cases f;exact D55 a g b
  | int b=>let#[t,rfl]:=f;exact C08 a g b t| str b=>let#[t,rfl]:=f;exact D61 a g b t| _=>exact cz (show eH=dS from i) D1
 | _=>exact cz (show eH=dS from j) D1
def su(x:V)(u:fx):cg:=match u with
 | .none=>zZ .non x| .bool b=>zZ (.bl b) x| .int i _=>zZ (.int i) x| .str z _=>zZ (.str z) x| _=>eH
def w82(r:RelV y u)(f:vx y=dS):su x u=zZ y x:=by
 cases y with
 | non=>cases r;rfl
 | bl b=>cases r;rfl
 | int i=>let#[t,rfl]:=r;rfl| str z=>let#[t,rfl]:=r;rfl| _=>exact cz (show eH=dS from f) D1
theorem Hh:∀{xs:bf V} {us:bf fx},Vals xs us->xs.all vx=dS->us.any (su x)=xs.any λy=>zZ y x
 | _,_,.nil,_=>rfl| y::xs,u::us,.cons r t,f=>by rw[V7,K9] at f;rw[P7,P7,w82 r f.1,Hh t f.2]
theorem HB(g:RelV x v)(h:vx x=dS):∀{xs:bf V} {us:bf fx},Vals xs us->xs.all vx=dS->∀u∈us,EL A s u v (su x u)
 | _,_,.nil,_=>λu hu=>by cases hu
 | y::xs,u::us,.cons r t,f=>λi hu=>by
  rw[V7,K9] at f;rcases D9.mp hu with rfl|hu
  .rw[w82 r f.1];exact w83 r g f.1 h
  .exact HB g h t f.2 i hu
def FQ(x:V)(xs:bf V):cg:=xs.any λy=>zZ y x
def YW(K:eM)(neg:cg):R2:=λx y H Q=>∃p xs,y=.ref p/\(fb K H p xs\/eR K H p xs)/\vx x=dS/\xs.all vx=dS/\Q (.bl (if neg then !FQ x xs else FQ x xs)) H
def vh1:dM X (L8 .In) (YW X.K eH):=by
 intro kI s m H x y v u Q I i k h;let#[p,xs,rfl,hq,j,f,q]:=h;cases k;rcases hq with hq|hq
 .let#[its,r,g,l]:=I.list hq;apply SeqAt.in_listAt (su x) g.Y (λw hw=>HB i j r f w (by simpa using hw)) #[.bl _,H,I,rfl,?_];rw[show its.e.any (su x)=its.any (su x) by simp,Hh r f];exact q
 .let#[its,r,g,l]:=I.tuple hq;apply SeqAt.in_tupleAt (su x) g (λw hw=>HB i j r f w (by simpa using hw)) #[.bl _,H,I,rfl,?_];rw[show its.e.any (su x)=its.any (su x) by simp,Hh r f];exact q
def uu9:dM X (L8 .NotIn) (YW X.K dS):=by
 intro kI s m H x y v u Q I i k h;let#[p,xs,rfl,hq,j,f,q]:=h;cases k;rcases hq with hq|hq
 .let#[its,r,g,l]:=I.list hq;apply SeqAt.notIn_listAt (su x) g.Y (λw hw=>HB i j r f w (by simpa using hw)) #[.bl _,H,I,rfl,?_];rw[show its.e.any (su x)=its.any (su x) by simp,Hh r f];exact q
 .let#[its,r,g,l]:=I.tuple hq;apply SeqAt.notIn_tupleAt (su x) g (λw hw=>HB i j r f w (by simpa using hw)) #[.bl _,H,I,rfl,?_];rw[show its.e.any (su x)=its.any (su x) by simp,Hh r f];exact q
def nH:bK X (.builtin "len") (λxs H Q=>∃p ys,xs=[.ref p]/\(fb X.K H p ys\/eR X.K H p ys)/\Q (.int ys.l) H):=by
 intro kI s l H xs m Q I r h;let#[p,ys,rfl,hq,q]:=h;let#[u,rfl,j]:=vals1 r;cases j;let n:=iU;rcases hq with hq|hq
 .let#[its,g,i,k]:=I.list hq;let f:=g.l;exact Calls.call_len_list i.Y (by simp only[E5] <;> omega) #[.int ys.l,H,I.tok _,#[s.H+1,by rw[E5,f]],q]
 .let#[its,g,i,k]:=I.tuple hq;let f:=g.l;exact len_tuple i (by simp only[E5] <;> omega) #[.int ys.l,H,I.tok _,#[s.H+1,by rw[E5,f]],q]
def uw6:bK X (.builtin "len") (λxs H Q=>∃z,xs=[.str z]/\z.l<=iZ/\Q (.int z.l) H):=by intro kI s f H xs g Q I r h;let#[z,rfl,i,q]:=h;let#[u,rfl,t,rfl]:=vals1 r;let j:=iU;exact len_str () #[.int z.l,H,I.tok _,#[_,rfl],q]
def bK.or{f:fx}{r r':bf V->Hp->VK->ck}(h:bK X f r)(h':bK X f r'):bK X f (λxs H Q=>r xs H Q\/r' xs H Q):=by
 intro kI s g H xs i Q I j q;rcases q with q|q
 .exact h kI s g H xs i Q I j q
 .exact h' kI s g H xs i Q I j q
def uw5:bK X (.type "list") (λxs H Q=>∃p ys,xs=[.ref p]/\(fb X.K H p ys\/eR X.K H p ys)/\∀l,H l=dv->Q (.ref l) (l6 H l (.lst ys))):=by
 intro kI s E H xs L Q I r h;let#[p,ys,rfl,hq,q]:=h;let#[u,rfl,G]:=vals1 r;cases G;let l':∀(its:bf fx),Vals ys its->ys.l<=iZ->∀(f:hR) (i:br),(∀b C,s.o.r b=du C->f.r b=du C) ->
   f.r s.o.h.v=du { cls:=.type "list",dict:=dv,data:=.seq its.e i,slots:=[].e}->EP X kI E Q (.ref s.o.h.v) { s with heap:=f}:=λits g k f i j e =>
  #[.ref s.o.h.v,_,I.laid (t':=s.H) j (B9 _) (show bC X.c X.w _ f _ (.lst ys) from #[k,its,i,g,e]),rfl,q _ (I.aB.y (B9 _))]
 rcases hq with hq|hq
 .let#[its,g,x,k]:=I.list hq;let m:=g.l;let#[o,y,B,n,A]:=x.Y;exact call_list_seq p (.inl rfl) y B A (λf i j e=>l' its g k f i j e) (by simp only[E5] <;> omega)
 .let#[its,g,x,k]:=I.tuple hq;let m:=g.l;let#[o,y,B,n,A]:=x;exact call_list_seq p (.inr rfl) y B A (λf i j e=>l' its g k f i j e) (by simp only[E5] <;> omega)
def ut0:bK X (.type "tuple") (λxs H Q=>∃p ys,xs=[.ref p]/\((fb X.K H p ys/\∀l,H l=dv->Q (.ref l) (l6 H l (.tup ys)))\/(eR X.K H p ys/\Q (.ref p) H))):=by
 intro kI s k H xs E Q I r h;let#[p,ys,rfl,h]:=h;let#[u,rfl,y]:=vals1 r;cases y;rcases h with⟨j,q⟩|⟨j,q⟩
 .let#[its,g,i,m]:=I.list j;let n:=g.l;apply call_tuple_list i.Y (λf A=>?_) (by simp only[E5] <;> omega);let t:lp X kI k H { s with heap:=f}:=I.kept (t':=s.H) A;let C:lp X kI k (l6 H f.h.v (.tup ys)) { s with heap:=f.R { cls:=.type "tuple",data:=.seq its.e}}:=
   t.laid (t':=s.H) (λb o e=>B8 _ e) (B9 _) (show bC X.c X.w _ _ _ (.tup ys) from #[m,its,g,qr.S _ _])
  exact#[.ref f.h.v,_,C,rfl,q _ (t.aB.y (B9 _))]
 .let#[its,g,i,m]:=I.tuple j;exact call_tuple_same i #[.ref p,H,I,rfl,q]
def CT(K:eM)(T:String)(x:V)(H:Hp):ck:=match x with
 | .str _=>T = "str"| .int _=>T = "int"| .ref p=>(T = "list" /\ ∃xs,fb K H p xs)\/(T = "tuple" /\ ∃o,K.q p=du o/\o.cls=.type "tuple" /\ o.dict=dv) \/
   (T = "dict" /\ ((∃kvs,H p=du (.dK kvs))\/∃kvs,H p=du (.dT kvs)))\/(T = "set" /\ ∃S n,H p=du (.set S n))
 | _=>b8
def w15(I:lp X kI m H s)(r:RelV x v)(ty:CT X.K T x H): s.TypeIs v T/\∀a,v=.ref a->∃ob,s.o.r a=du ob/\ob.dict=dv:=by
 cases x with
 | str z =>let#[t,rfl]:=r;cases(show T = "str" from ty);exact#[SA s z t,λ_ e=>nomatch e]
 | int i =>let#[t,rfl]:=r;cases(show T = "int" from ty);exact#[x8 s i t,λ_ e=>nomatch e]
 | ref p =>
  cases r;rcases ty with⟨rfl,xs,k⟩|⟨rfl,o,f,l,g⟩|⟨rfl,f⟩|⟨rfl,S,n,f⟩
  .let#[its,_,j,_]:=I.list k;apply#[j.Y.B,λa e=>?_];cases e;let#[o,n,e,c,g,_]:=j;exact#[o,e,g]
  .apply#[#[o,I.jf p o f,l],λa e=>?_];cases e;exact#[o,I.jf _ o f,g]
  .have z:∃o,s.o.r p=du o/\o.ExactDict:=by
    rcases f with⟨kvs,f⟩|⟨kvs,f⟩
    .let#[_,_,_,_,o,_,_,e,ex,_]:=I.aB p _ f;exact#[o,e,ex]
    .let#[_,_,_,_,o,_,_,e,ex,_]:=I.aB p _ f;exact#[o,e,ex]
   let#[o,e,ex]:=z;apply#[#[o,e,ex.1],λa h=>?_];cases h;exact#[o,e,ex.2.1]
  .let#[o,_,_,_,e,ex,_]:=I.aB p _ f;apply#[#[o,e,ex.1],λa h=>?_];cases h;exact#[o,e,ex.2.1]
 | _=>exact Q9 ty
def HZ(K:eM)(T:String)(r:V->bf V->Hp->VK->ck)(to:TE):TE:=λg H Q=>to g H λx f=>CT K T x f/\r x [] f Q
def tBM(K:eM)(T:String)(r:V->bf V->Hp->VK->ck)(to:TE)(t:TA):TE:=λf H Q=>to f H λx g=>CT K T x g/\t f g λxs h=>r x xs h Q
variable{o e:gI}{es:bf gI}{to:TE}{t:TA}{name:gq}{apos aS:jU}{T id:String}{r:V->bf V->Hp->VK->ck}
def x26(l:PlainAttrs T)(slot:Slot T name id)(A:typeOf (.builtin id)=pure (.type "method_descriptor"))(n:Al X id r)(m:PE X o to) (y:O1 o name X.f (eval o X.f)=eval o X.env:=by rfl) (u:(apos.endLine==aS.line)=dS:=by rfl):PE X (.Call (.Attribute o name apos) [] [] aS) (HZ X.K T r to):=by
 intro kI s f H Q I h
 (apply wpAny_Call_method0_late y u (bu (m kI s f H _ I h) ?_);intro v j #[x,B,i,g,ty,k])
 let#[q,p]:=w15 i g ty;exact#[T,id,l,slot,A,q,p,R7 rfl (P' (n kI j f B x [] v [] Q i g .nil k))]
def UJ(y:PlainAttrs T)(slot:Slot T name id)(R:typeOf (.builtin id)=pure (.type "method_descriptor"))(E:Al X id r)(C:PE X o to)(G:PA X (e::es) t) (O:O1 o name X.f (eval o X.f)=eval o X.env:=by rfl)
  (A:((backTo aS (D2 (e::es) X.f)).all (λx=>!x.1)&&(Y0 aS (Q4 [] X.f)).all (λx=>x.1.fg)
   && decide ((e::es).l+([]:bf i4).l+(if([]:bf i4).isEmpty then 0 else 1)<30))=dS:=by rfl)
  (N:(apos.endLine==aS.line)=dS:=by rfl) (B:D2 (e::es) X.f=(eH,eval e X.f)::D2 es X.env:=by rfl) (M:(backTo aS (D2 es X.f)).any (·.1)=eH:=by rfl):
  PE X (.Call (.Attribute o name apos) (e::es) [] aS) (tBM X.K T r to t):=by
 intro kI s f H Q I h
 (apply wpAny_Call_method_late O A N rfl (bu (C kI s f H _ I h) ?_);intro v n #[x,Y,j,g,ty,u])
 let#[L,J]:=w15 j g ty;apply#[T,id,y,slot,R,L,J,?_];let i:=G aS kI n f Y _ j u;rw[B] at i⊢;apply R7 (by show(eH||(backTo aS (D2 es X.f)).any (·.1))=eH;rw[M] <;> rfl) (TJ ?_)
 (apply bu i ?_;intro l m #[k,U,S,p,q];exact E kI m f U x k v l Q S g p q)
end
def BQ(X:Cx)(id:String)(r:V->bf V->Hp->VK->ck):ck:=
 ∀(kI:bf (fy×jC)) (s:fC) (f:St) (H:Hp) (x:V) (xs:bf V) (v:fx) (g:bf fx) (Q:VK),lp X kI f H s->RelV x v->Vals xs g->r x xs H Q ->
  i3 (model X.c X.w) X.A (call (.builtin id) (v::g)) (EP X kI f Q) X.xe s
def Vals.one(h:Vals [x] us):∃u,us=[u]/\RelV x u:=by cases h with|cons r t=>cases t;exact#[_,rfl,r]
def Vals.two(h:Vals [x,y] us):∃u v,us=[u,v]/\RelV x u/\RelV y v:=by cases h with|cons r t=>cases t with|cons q t=>cases t;exact#[_,_,rfl,r,q]
def Vals.zero:∀{us:bf fx},Vals [] us->us=[]
 | _,.nil=>rfl
theorem Vals.reverse{xs:bf V}{us:bf fx}(h:Vals xs us):Vals xs.ff us.reverse:=by
 induction h with
 | nil=>exact .nil| cons r t f=>rw[X6,X6];exact Vals.append f (.cons r .nil)
theorem Vals.rep(h:Vals xs us):∀k:br,Vals (C7 k xs).C (C7 k us).C
 | 0=>.nil| k+1=>by rw[K4,K4,N4,N4];exact Vals.append h (Vals.rep h k)
theorem foldl_rep(its:bf fx):∀(k:br) (acc:bf fx), t8 (λg f=>g++f) acc.e (C7 k its.e)=(acc++(C7 k its).C).e
 | 0,acc=>by simp| k+1,acc=>by
  let e:acc.e++its.e=(acc++its).e:=by simp
  let h:(acc++its)++(C7 k its).C=acc++(C7 (k+1) its).C:=by rw[K4,N4,D5]
  rw[<- h,<- foldl_rep its k (acc++its),<- e,K4,Tg]
section
variable{X:Cx}{kI:bf (fy×jC)}{σ:St}{H:Hp}{s:fC}{l b:fy}{xs ys zs:bf V}
def lp.Dr{its gH:bf fx}(I:lp X kI σ H s)(m:H l=du (.lst xs)) (e:s.o.r l=du { cls:=.type "list",data:=.seq its.e n}) (j:f its.e=gH.e) (h:Vals ys gH) (g:ys.l<=iZ): lp X kI σ (l6 H l (.lst ys)) { s with heap:=s.o.update l (OS f),toks:=t'}:=by
 let q:=D71 e f;rw[j] at q;apply I.write (x:=l) (e:=l) (by rw[m];exact trivial) (.inl rfl) (λb' u k i=>(XP s.o (OS f) (E1 k)).u i) #[_,q] ?_;exact#[g,gH,_,h,q]
def lp.Dt(I:lp X kI σ H s)(g:Vals ys its)(f:ys.l<=iZ): lp X kI σ (l6 H s.o.h.v (.lst ys)) { s with heap:=s.o.R { cls:=.type "list",data:=.seq its.e},toks:=t'}:=I.laid (λ_ _ q=>B8 _ q) (B9 _) #[f,its,0,g,E7 _ rfl]
theorem lp.fresh(I:lp X kI σ H s):H s.o.h.v=dv:=I.aB.y (B9 _)
def lp.rR(I:lp X kI σ H s)(f:H l=du (.lst xs)):xs.l<=iZ/\∃(its:bf fx) (n:br),Vals xs its/\xs.l=its.l/\s.o.r l=du { cls:=.type "list",data:=.seq its.e n}:=by let#[z,its,n,r,e]:=I.aB l _ f;exact#[z,its,n,r,r.l,e]
def v47(h:n<=iZ):Y3 n=eH:=by unfold Y3;exact c7 ()
end
section
variable{X:Cx}
def wl4:V->bf V->Hp->VK->ck:=λx f H Q=>∃l xs y,x=.ref l/\f=[y]/\H l=du (.lst xs)/\xs.l<iZ/\Q .non (l6 H l (.lst (xs++[y])))
def uv2:BQ X "list.append" wl4:=by intro kI s k H x m v o Q I g i h;let#[l,xs,y,rfl,rfl,f,p,q]:=h;cases g;let#[u,rfl,j]:=i.one;let#[z,its,n,r,t,e]:=I.rR f;apply Cj F.slot_list_append #[_,e,rfl] F.entry_list_append (F.args_list_append_2 _ _) (PySem.list_append l its.e n u (by rw[E5];omega)) #[e,?_];apply#[.non,_,I.Dr (gH:=its++[u]) f e (by simp) (r.fj (.cons j .nil)) ?_,rfl,q];rw[B4,Q5];omega
def wl3:V->bf V->Hp->VK->ck:=λx g H Q=>∃l b xs f,x=.ref l/\g=[.ref b]/\H l=du (.lst xs)/\H b=du (.lst f)/\xs.l+f.l<=iZ/\Q .non (l6 H l (.lst (xs++f)))
def vi1:BQ X "list.extend" wl3:=by
 intro kI s A H x E v G Q I j k h;let#[l,b,xs,B,rfl,rfl,g,t,J,q]:=h;cases j;let#[u,rfl,m]:=k.one;cases m;let#[z,its,n,r,L,e]:=I.rR g;let#[C,f,p,o,N,y]:=I.rR t;let hsz:its.e.v+f.e.v<=iZ:=by rw[E5,E5];omega
 let i:¬ (!its.toArray.isEmpty&&Y3 (its.e.v+f.e.v))=dS:=by rw[v47 hsz,Bool.and_false];exact D1
 apply Cj F.slot_list_extend #[_,e,rfl] F.entry_list_extend (F.args_list_extend_2 _ _)
  (AutoSeq1.list_extend_list_list_0 l its.e n b f.e p i (by rw[E5];omega) ()) #[e,y,?_]
 apply#[.non,_,I.Dr (gH:=its++f) g e (by simp) (r.fj o) ?_,rfl,q];rw[B4];omega
def x02:V->bf V->Hp->VK->ck:=λx f H Q=>∃l xs,x=.ref l/\f=[]/\H l=du (.lst xs)/\Q .non (l6 H l (.lst []))
def vv4:BQ X "list.clear" x02:=by intro kI s k H x o v p Q I i j h;let#[l,xs,rfl,rfl,g,q]:=h;cases i;let f:=j.zero;subst f;let#[z,its,n,r,t,e]:=I.rR g;apply Cj F.slot_list_clear #[_,e,rfl] F.entry_list_clear (F.args_list_clear_1 _) (AutoSeq1.list_clear_list_0 l its.e n (by rw[E5];omega)) #[e,?_];exact#[.non,_,I.Dr (gH:=[]) (ys:=[]) g e rfl .nil (J8 _),rfl,q]
def YX:R2:=λx y H Q=>∃l b xs f,x=.ref l/\y=.ref b/\H l=du (.lst xs)/\H b=du (.lst f)/\xs.l+f.l<=iZ/\∀p,H p=dv->Q (.ref p) (l6 H p (.lst (xs++f)))
def x40:dM X (N0 .Add) YX:=by
 intro kI s t H x y v u Q I i g h;let#[l,b,xs,A,rfl,rfl,k,m,G,q]:=h;cases i;cases g;let#[z,its,n,r,J,e]:=I.rR k;let#[B,f,E,j,L,p]:=I.rR m;apply PySem.P.add_list e p ?_ (by rw[E5,E5];omega);let o:its.e++f.e=(its++f).e:=by simp
 rw[o];exact#[.ref _,_,I.Dt (t':=s.H) (r.fj j) (by rw[B4];omega),rfl,q _ I.y]
def YU:R2:=λx y H Q=>∃l k xs,x=.ref l/\y=.int k/\H l=du (.lst xs)/\-(2^63)<=k/\k<2^63/\xs.l*k.i<=iZ /\
 ∀p,H p=dv->Q (.ref p) (l6 H p (.lst (C7 k.i xs).C))
def len_rep{f:Type}(xs:bf f)(k:br):(C7 k xs).C.l=k*xs.l:=by
 induction k with
 | zero=>simp| succ k g=>rw[K4,N4,B4,g,Z6,Q0]
def x35:dM X (N0 .Mult) YU:=by
 intro kI s R H x y v u Q I G E h;let#[l,k,xs,rfl,rfl,L,N,M,p,q]:=h;cases G;let#[t,rfl]:=E;let#[z,its,n,r,J,e]:=I.rR L;let f:its.e.v*k.i<=iZ:=by rw[E5,<- J];exact p
 let j:¬ its.e.v*k.i>(2^63-1) / 8:=by let:(iZ:br)<=(2^63-1) / 8:=∅;omega
 let o:¬ (!Builtin.List.listFitsIndex k)=dS:=by rw[fitsIndex_both N M];exact D1
 let A:¬ Y3 (its.e.v*k.i)=dS:=by rw[v47 f];exact D1
 let B:t8 (λi g=>i++g) [].e (C7 (if its.e.isEmpty=dS then 0 else k.i) its.e)=(C7 k.i its).C.e:=by
  let O:∀m:br,t8 (λi g=>i++g) [].e (C7 m its.e)=(C7 m its).C.e:=λm=>by let:=foldl_rep its m [];rw[J6] at this;exact this
  rw[O];cases its with
  | nil=>simp| cons a Y=>rw[cp (by simp)]
 apply wpAny_binaryOp_repeat_ref (T:= "list") (U:= "int") ∅ #[_,e,rfl] (λC=>x8 C k t) noFill_list_mul F.fills_int_mul F.slot_int_rmul repeat_list F.slot_int_index.q
  (Cj F.slot_int_rmul (x8 s k t) F.entry_int_rmul (F.args_int_rmul_2 _ _) (int___rmul___int_list k t l its.e n)
   #[e,rfl,#[_,e,rfl],Cj F.slot_list_mul #[_,e,rfl] F.entry_list_mul (F.args_list_mul_2 _ _) (C22 l its.e n k t o j A) #[e,?_]])
 rw[B];exact#[.ref _,_,I.Dt (t':=s.H) (r.rep k.i) (by rw[len_rep,Pb];exact p),rfl,q _ I.y]
end
end L2
namespace Att
open PySem PySem.W PySem.Calls PyProof.Rows
def ul3{P:Params}:∀(ns:bf bz) (vs:bf fx),WellAll P h vs (ns.t D72)->x_ vs ns:=by
 intro ns;induction ns with
 | nil =>intro vs w;rw[GB] at w;cases w;exact .nil
 | cons n ns f =>
  intro vs w;rw[C1] at w;cases w with
  | cons a b =>cases a;exact .cons _ _ (f _ b)
def ve2{l:Sl}(A:l.most=du n){P:Params} (k:l.row.toRowW.claim.pre args=dS) (t:WellAll P h f args): ∃a vs ns,f=[F8 a]/\args=[WData.list (ns.t D72)]/\h.r a=du { cls:=.type "list",data:=.seq vs.e}/\x_ vs ns/\ns.l<=n:=by
 let G:WShape.hasAll [] args [.list .int]=dS:=(pre_splitW k).1;let m:l.pre.holds [] { args:=args}=dS:=(pre_splitW k).2;let#[d,r,rfl,E,C]:=hasAllW_cons G;obtain rfl:=hasAllW_nil C;let#[xs,rfl,B]:=hasW_list E;let#[ns,rfl]:=items_int B;let g:ns.l<=n:=by
  unfold Sl.pre at m;let j:(WTm.not (.lt (.lit (.int (n:bz))) (.len (.arg 0)))).holds [] { args:=[.list (ns.t .int)]}=dS:=by let j:=(holds_andW m).1;rw[A] at j;exact j
  let i:=condW_of j (w_not (w_lt w_lit (w_len_list (w_arg rfl))));rw[B0] at i;apply Nz λq=>?_;let x:(n:bz)<((ns.l:br):bz):=()
  first
   | (rw[cA x] at i;exact cz i ∅)
   | (simp at i;omega)
 cases t with
 | cons p o =>
  cases o;cases p with
  | list y u=>exact#[_,_,ns,rfl,rfl,y,ul3 ns _ u,g]
def vf8(l:Sl)(args:bf WData):l.row.toRowW.claim.post args (.bool dS) args=dS:=
 postW_of (r:=l.row.toRowW) (X:=(dS==dS))
  (show D62 [] (.bool dS) .bool=dS by first|rfl|decide|simp[D62,WShape.arms,WShape.armsAll])
  (show(WTm.eq .res (.lit (.bool dS))).value [] { args:=args,res:=du (.bool dS),after:=args}=du (.bool (dS==dS)) from w_eq_bool (w_res rfl) w_lit) rfl
def qo{l:Sl}{d:DefRec} (H:l.most=du n) (Z:d.params.defaults=[]) (call:∀(w:hL) (s₀ g:fC) (mg p:gq->b0 fx) (k:fy) (o:jC) (m cd doc:fx) (a:fy) (vs:bf fx) (ns:bf bz), Ground q h [] U w s₀ mg p g.o->S w g.o -> g.o.r k=du o->o.data=.func (docDef d.name d.params d.body d.J m cd doc)->g.o.CodeRec cd d.name->mg d.name=du (.ref k) -> g.o.r a=du { cls:=.type "list",data:=.seq vs.e}->x_ vs ns->ns.l<=n->g.gens=[].e -> uO (model l.c w) EG (.call (.ref k) #[[.ref a],[]]) (λr s'=>r=.ok (.ret (.bool dS))/\OldK g.o s'.o/\s'.os=g.os/\Au s'.gens) g): WalkO q h U S l.row.toRowW d [] (λf vs=>xV f vs):=by
 intro w s₀ g mg p G Y k o m cd doc R kV E M u hD X L args t as y A B x J;obtain rfl:R=.none:=Dflts.none hD Z;obtain rfl:kV=.none:=Dflts.noKw hD;let#[a,vs,ns,rfl,rfl,DT,i,j]:=ve2 H y x;apply enter_call (SM (call w s₀ g mg p k o m cd doc a vs ns G Y E (fd_plain M) u X DT i j L) λr s' C=>?_);let#[rfl,Q,O,N]:=C;exact#[.inl #[.bool dS,.bool dS,[],rfl,λ_=>rfl,.bool dS,vf8 l _,λ_=>#[D65,λ_ I=>(nomatch I)]],Q,O,N]
end Att
namespace L2
open PySem PySem.Spec PyProof.Rows
theorem QZ:∀{vs:bf fx} {ns:bf bz},x_ vs ns->Vals (ns.t V.int) vs
 | _,_,.nil=>.nil| _,_,.cons n t h=>.cons #[t,rfl] (QZ h)
def Only(H:Hp):ck:=∀b,H b=dv\/∃o xs,H b=du (.dR o (.lst xs))
def vx8{P:hH}{w:hL}{K:eM}{f:fC}{vs:bf fx} (KX:K.In f.o) (Q:f.o.Ns J5 mg) (g:f.o.Ns SE R) (I:∀x:gq,x ≠ "__name__" -> R x=R9 x) (C:f.o.NoLimit) (hg:f.gens=[].e) (A:f.o.r a=du { cls:=.type "list",data:=.seq vs.e}) (hi:x_ vs ns) (S:ns.l<=iZ) (hr:aZ k EG) (F:∀base:hR,K.In base->base.Ns J5 mg->bJ P w K mg base CX k Y fd [x] sp) (LA:∀(s:fC) (u:fx),EH s fd #[[u],[]] [(x,u)]) (uo:∀H:Hp,Only H->fb K H a (ns.t V.int)->sp [.ref a] H (λv _=>v=.bl dS) λ_ _ _=>b8) (J:∀H e s',CX [] H f (λ_ _ _=>b8) e s'->b8): uO (model P w) EG (.call (.ref Y) #[[.ref a],[]]) (λr s'=>r=.ok (.ret (.bool dS))/\OldK f.o s'.o/\s'.os=f.os/\Au s'.gens) f:=by
 let O:=QZ hi;let ZE:=hi.l;let i:∀H:Hp,Only H->fb K H a (ns.t V.int)->gP P w H f.o->(∀b,H b≠dv->b=a)->(H a≠dv->K.q a=dv) ->
   uO (model P w) EG (.call (.ref Y) #[[.ref a],[]]) (λr s'=>r=.ok (.ret (.bool dS))/\OldK f.o s'.o/\s'.os=f.os/\Au s'.gens) f:=by
  intro H U hS aB X hK;let N:∀{b:fy} {o:jC},f.o.r b=du o->H b=dv->(nB f.o H).r b=du o:=λe n=>vy0 e n;let Kl:∀{b:fy} {o:jC} {p:dc QH} {t:br},f.o.r b=du o->o.data=.dict p t->H b=dv:=λ{b o p t} e d=>by
   cases q:H b with
   | none=>rfl| some u =>let L:b=a:=X b (by rw[q];simp);subst L;rw[A] at e;cases e;let d':Data.seq vs.e _=Data.dict p t:=d;cases d'
  let B:∀{b:fy} {m:gq->b0 fx},f.o.Ns b m->(nB f.o H).Ns b m:=λ{b m} ⟨o,p,t,e,d,r⟩=>#[o,p,t,N e (Kl e d),d,r];let l:K.In (nB f.o H):=λb o e=>N (KX b o e) (by
   cases q:H b with
   | none=>rfl| some u =>let L:b=a:=X b (by rw[q];simp);subst L;rw[hK (by rw[q];simp)] at e;cases e)
  let hM:Mod K mg (nB f.o H):=#[l,B Q,#[R,B g,I],let ⟨mc,h1,h2⟩:=C;#[mc,B h1,h2]];let e0:lK P w K mg (nB f.o H) EG [] f H:=#[rfl,hM,λb o e=>wo6 e,NS (vl5 _ _),trivial,λb g=>cz (show b∈([]:bf fy) from g) (by simp),aB,.of_eq hg];apply SM ((F _ l (B Q)).run EG [] f H #[[.ref a],[]] [.ref a] [.ref a] _ _ hr e0 (LA f (.ref a)) (.cons rfl .nil) (uo H U hS)) λr s' h=>?_;cases r with
  | error e=>exact(J H e s' h).n| ok fl =>
   cases fl with
   | next=>exact Q9 h| brk=>exact Q9 h| cont=>exact Q9 h| ret u =>
    let#[v,H',os,y,M,E,r',q]:=h;let q':v=.bl dS:=q;subst q';obtain rfl:u=Aw dS:=r';apply#[rfl,OldK.of_keep λb o e=>?_,os,y];cases q:H b with
    | none=>exact M.keep b o e q (by intro z;exact cz (show b∈([]:bf fy) from z) (by simp)) (by simp)| some u =>
     rcases U b with z|⟨ob,xs,z⟩
     .rw[q] at z;cases z
     .have z2:=M.eC b ob ⟨_,by intro _ e;cases e⟩ z;let#[Z,_]:=aB b _ z;let#[e2,_]:=E b _ z2;rw[e] at Z;cases Z;exact e2
 cases G:K.q a with
 | some o =>let e:=KX a o G;rw[A] at e;cases e;apply i (λ_=>dv) (λ_=>.inl rfl) (.inr #[_,vs.e,_,G,rfl,rfl,rfl,by rw[E5,ZE];exact S,by simpa using O]) (λb u z=>by let j:(dv:b0 HO)=du u:=z;cases j) (λb z=>cz rfl z) λz=>cz rfl z
 | none =>
  apply i (λb=>if b=a then du (.dR { cls:=.type "list",data:=.seq vs.e} (.lst (ns.t V.int))) else dv) (λb=>?_) (.inl (.inr #[{ cls:=.type "list",data:=.seq vs.e},cu rfl])) (λb u z=>?_) (λb z=>?_) λ_=>G
  .by_cases g:b=a
   .exact .inr #[_,_,cu g]
   .exact .inl (cp g)
  .by_cases g:b=a
   .have j:=(cu g).M.u z;cases j;subst g;exact#[A,by rw[B0];exact S,vs,_,O,A]
   .have j:=(cp g).M.u z;cases j
  .by_cases g:b=a
   .exact g
   .exact cz (cp g) z
abbrev vn{K:eM}{h:hR}(_:K.In h):eM:=K
def yV{l:W.OpenLaw}{n k:br}{q:hH}{j:bf gq}{U:(gq->b0 fx)->hR->ck}{B:hL->hR->ck}{d:DefRec}{K:Params->eM}{CX:hL->xZ}{sp:hL->Sp}{x:gq} (L:l.most=du n) (I:n<=iZ) (Z:d.params.defaults=[]) (J:aZ k EG) (O:∀(w:hL) (h:hR),B w h->(K w.params).In h) (F:∀(w:hL) (mg:gq->b0 fx) (r:fy) (h:hR),(K w.params).In h->h.Ns J5 mg->mg d.name=du (.ref r) -> ∃y:yO,(∀(s:fC) (u:fx),EH s y #[[u],[]] [(x,u)]) /\ ∀base:hR,(K w.params).In base->base.Ns J5 mg->bJ l.c w (K w.params) mg base (CX w) k r y [x] (sp w)) (E:∀(w:hL) (H:Hp) (a:fy) (ns:bf bz),ns.l<=n->Only H->fb (K w.params) H a (ns.t V.int)->sp w [.ref a] H (λv _=>v=.bl dS) λ_ _ _=>b8) (t:∀(w:hL) (H:Hp) (s:fC) (e:fx) (s':fC),CX w [] H s (λ_ _ _=>b8) e s'->b8): W.WalkO q j U B l.row.toRowW d [] (λf vs=>xV f vs):=by
 apply Att.qo L Z λw A p mg mb r o pm cd doc a vs ns G Y ho hd vh X DT m i M=>?_;let C:=O w _ Y;let#[y,N,S]:=F w mg r _ C G.T.g X;exact vx8 C G.T.g G.T.b G.T.builtins G.T.nolimit M DT m (D4 i I) J S N (λH R Q=>E w H a ns i R Q) λH e s'=>t w H p e s'
end L2
namespace L2
open PySem PySem.Spec PyProof.Rows
def inClass(s:hC)(j:br):hC:=match s with
 | .ClassDef _ _ _ body _ _ _ _ _ _ _=>body.E j (.Pass #[0,0,0,0])| _=>.Pass #[0,0,0,0]
def uS(s:hC):Arguments:=match s with
 | .FunctionDef _ a _ _ _ _ _ _ _ _=>a| _=>{ posonlyargs:=[],args:=[],vararg:=dv,kwonlyargs:=[],kw_defaults:=[],kwarg:=dv,defaults:=[]}
def sJ(s:hC):bf hC:=match s with
 | .FunctionDef _ _ b _ _ _ _ _ _ _=>b| _=>[]
def bj(s:hC):Scope:=match s with
 | .FunctionDef _ _ _ _ _ _ h _ _ _=>h| _=>{ kind:=.function,names:=[],isGenerator:=eH,isCoroutine:=eH}
abbrev qR:xZ:=λ_ _ _ _ _ _=>b8
abbrev E0:XK:=λ_ _ _=>b8
def sQ:Passes qR X E0:=λ_ _ _ _ _ _ _ h=>h.n
def PK(f:aZ k A):A.ga+1<cLine:=C6 (Nv (by decide:1<=64) _) f.ga
section
variable{X:Cx}
def pv(i:br)(hN:X.N[i]?=du x:=by rfl)(g:LZ X.f.J x:=by first|exact As rfl|exact x9 (As rfl)|exact x9 (x9 rfl))(h:(x==("__debug__" :gq))=eH:=by decide)
  (f:(x==("__classdict__" :gq))=eH:=by decide):PE X (.Name x pos) (CV i):=w66 hN g h f
end
def wq7(I:br->fC->ck) (turn:∀n s,I n s->i3 (model prog w) A (pyNext it) (λr f=>match r with
   | none=>R (.ok .next) f| some v=>i3 (model prog w) A (Tc target it v) (λ_ f=>i3 (model prog w) A (assign target env v) (λ_ i =>
     i3 (model prog w) A (forIn t dS λc r=>if r=dS then do let ok <- isTrue c env (eval c env);pure (V2 ok) else pure (V2 r)) (λok g =>
      if ok=dS then i3 (model prog w) A (eval B env) (λx o =>
       i3 (model prog w) A (call (.builtin "list.append") [acc,x]) (λ_ l=>∃m,m<n/\I m l) (λ_ _=>b8) o) (λ_ _=>b8) g
      else∃m,m<n/\I m g) (λ_ _=>b8) i) (λ_ _=>b8) f) (λ_ _=>b8) f) (λ_ _=>b8) s)
  (n:br) (h:I n s):
  uO (model prog w) A (.compLoop (.ListComp B [#[target,iter,t,0]] scope pos) 0 it acc env) R s:=by
 apply codeAny_loop rfl I (λn s C=>?_) n h;show i3 _ A ((compTurn (.ListComp B [#[target,iter,t,0]] scope pos) 0 it acc env).onRaise (λx=>do noteFrame x env;theTreesLotGoes x)) _ _ s;apply wpAny_noted ?_;rw[compTurn_list];apply B5 (SV (B5 (S8 (turn n s C) (λr f q=>?_) λ_ _ k=>k.n)));cases r with
 | none=>exact C8 q| some v =>
  apply B5 (S8 q (λ_ i j=>?_) λ_ _ k=>k.n);apply B5 (S8 j (λ_ i j=>B5 (S8 j (λok g p=>?_) λ_ _ k=>k.n)) λ_ _ k=>k.n);cases ok with
  | false=>exact C8 #[rfl,p]| true =>exact B5 (B5 (S8 p (λx o y=>B5 (S8 y (λ_ l u=>C8 (C8 #[rfl,u])) λ_ _ k=>k.n)) λ_ _ k=>k.n))
def jD(env:Env):bf (gq×J2)->bf (gq×fy)->bf (gq×fy)
 | [],f=>f| (x,k)::r,f=>jD env r (if(k == .free)=dS then(x,(env.cells.q x).E 0)::f else f)
def v07{env:Env}(h:env.cells.q x=du c):cellOf env x=pure c:=by unfold cellOf;rw[h]
def uo4{scope:Scope}{env:Env}(h:∀y∈scope.U,y.2=.free->∃c,env.cells.q y.1=du c):closureFor scope env=pure (jD env scope.U []):=by
 let key:∀(l:bf (gq×J2)) (f:bf (gq×fy)),(∀y∈l,y.2=.free->∃c,env.cells.q y.1=du c) ->
   (forIn l f λ(y:gq×J2) r=>if(y.2==I0)=dS then do let c <- cellOf env y.1;pure (V2 ((y.1,c)::r)) else pure (V2 r):Sem (bf (gq×fy)))=pure (jD env l f):=by
  intro l;induction l with
  | nil=>intro f _;rfl| cons y r j =>
   intro f i;let#[x,k]:=y;rw[Pj];by_cases m:k=.free
   .subst m;let#[c,n]:=i (x,.free) D0 rfl;let e:((I0==I0):cg)=dS:=rfl;simp only[e,if_true,v07 n,pure_bind];rw[j _ λz g=>i z (C2 _ g)];show _=pure (jD env r (if(I0==I0)=dS then _ else _));rw[e,cu rfl,n] <;> rfl
   .have e:(k==I0)=eH:=by simpa using m
    simp only[e,K8,if_false,pure_bind];rw[j _ λz g=>i z (C2 _ g)];show _=pure (jD env r (if(k==I0)=dS then _ else _));rw[e,cp D1]
 let e:closureFor scope env=((forIn scope.U ([]:bf (gq×fy)) λ(y:gq×J2) r=>if(y.2==I0)=dS then do let c <- cellOf env y.1;pure (V2 ((y.1,c)::r)) else pure (V2 r):Sem (bf (gq×fy))) >>= λf=>pure f):=rfl;rw[e,key scope.U [] h];rfl
theorem um3{env:Env}:∀{l:bf (gq×J2)} {cs:bf (gq×fy)},(∀y∈l,y.2=.free->∃c,env.cells.q y.1=du c)->(∀x c,cs.q x=du c->env.cells.q x=du c) -> (jD env l cs).q x=du c->env.cells.q x=du c
 | [],_,_,h,e=>h x c e| (y,k)::r,cs,g,h,e=>by
  apply um3 (l:=r) (λz m=>g z (C2 _ m)) (λx c e=>?_) e;by_cases i:k=.free
  .subst i;let#[d,j]:=g (y,.free) D0 rfl;rw[cu (show(I0==I0)=dS from rfl),J0] at e;cases f:x==y with
   | true=>rw[f,j] at e;cases e;rw[eq_of_beq f];exact j
   | false=>rw[f] at e;exact h x c e
  .rw[cp (by simpa using i)] at e;exact h x c e
theorem XX:∀{l:bf (gq×J2)} {cs:bf (gq×fy)},((∃c,cs.q x=du c)\/(x,I0)∈l)->∃c,(jD env l cs).q x=du c
 | [],_,h=>by
  rcases h with h|h
  .exact h
  .simp at h
 | (y,k)::r,cs,h=>by
  apply XX (l:=r) ?_;rcases h with⟨c,h⟩|h
  .left;by_cases f:(k==I0)=dS
   .rw[cu f,J0];cases j:x==y with
    | true=>exact#[_,rfl]| false=>exact#[c,h]
   .rw[cp f];exact#[c,h]
  .rcases D9.mp h with e|h
   .injection e with i g;subst i;subst g;left;rw[cu (show(I0==I0)=dS from rfl),J0];simp
   .exact .inr h
def oj(X:Cx)(N':bf gq)(scope:Scope)(C:fy)(s:fC)(H:Hp)(i:bf fy):Cx:={ X with N:=N',s₀:=s,H₀:=H,env:=zC scope (jD X.f scope.U []) C X.f,outer:=X.stack,ex:=i,fn:=λ_=>eH,pn:=[],xe:=λ_ _=>b8}
structure kS(X:Cx)(N':bf gq)(ix:bf (b0 br))(scope:Scope):Prop where
 kind:scope.gb=.function
 vM:∀y∈scope.U,y.2≠.cell
 names:∀y∈scope.U,y.2=.local->scope.U.q y.1=du .local
 frees:∀y∈scope.U,y.2=.free->X.f.Z y.1=du .cell\/X.f.Z y.1=du .free
 len:ix.l=N'.l
 at_:∀(i j:br) (x:gq),N'[i]?=du x->ix[i]?=du (du j)->X.N[j]?=du x/\scope.U.q x=du .free
def inner(ix:bf (b0 br))(f:St):St:=ix.t λo=>o.bind λj=>(f[j]?).bind id
def WB(ix:bf (b0 br))(t:TI)(g:TG)(tc:TT)(te:TE):TE:=λn H Q=>t n H λJ r=>∀D,r D=dv->∃W:br->br->St->Hp->ck,(∃m,W 0 m (inner ix n) (l6 r D (.lst [])))/\∀i m h H,W i m h H ->
 (J.stop i H/\Q (.ref D) H)\/(J.go i H/\∃N:St->Hp->ck,(∀j k,N j k->∃o,o<m/\W (i+1) o j k)/\∀x k,J.qS i H x k->g x h k λf u=>tc f u λb q =>
  if b=dS then te f q λv p=>∃l,p D=du (.lst l)/\l.l<iZ/\N f (l6 p D (.lst (l++[v]))) else N f q)
theorem u88{env:Env}{x:gq}:∀{names:bf (gq×J2)},names.q x=du .free->(env.Z x=du .cell\/env.Z x=du .free) -> (names.t λ(n,k)=>if(k==I0&&env.J.gb == .function&&env.Z n==du .cell) then(n,Q7) else(n,k)).q x=du .cell \/ (names.t λ(n,k)=>if(k==I0&&env.J.gb == .function&&env.Z n==du .cell) then(n,Q7) else(n,k)).q x=du .free
 | [],h,_=>by simp at h| (n,k)::r,h,j=>by
  cases f:x==n with
  | true =>
   simp only[J0,f] at h;cases h;by_cases g:(I0==I0&&env.J.gb == .function&&env.Z n==du .cell)=dS
   .left;show K1 x ((if(I0==I0&&env.J.gb == .function&&env.Z n==du .cell)=dS then(n,Q7) else(n,.free))::_)=_;rw[cu g];simp only[J0,f]
   .right;show K1 x ((if(I0==I0&&env.J.gb == .function&&env.Z n==du .cell)=dS then(n,Q7) else(n,.free))::_)=_;rw[cp g];simp only[J0,f]
  | false =>
   simp only[J0,f] at h;let i:=u88 (env:=env) h j;show K1 x ((if(k==I0&&env.J.gb == .function&&env.Z n==du .cell)=dS then(n,Q7) else(n,k))::_)=_ \/
    K1 x ((if(k==I0&&env.J.gb == .function&&env.Z n==du .cell)=dS then(n,Q7) else(n,k))::_)=_
   by_cases g:(k==I0&&env.J.gb == .function&&env.Z n==du .cell)=dS
   .rw[cu g];simp only[J0,f];exact i
   .rw[cp g];simp only[J0,f];exact i
theorem u89{env:Env}{x:gq}:∀{names:bf (gq×J2)},(∀y∈names,y.2≠.cell) -> ((names.t λ(n,k)=>if(k==I0&&env.J.gb == .function&&env.Z n==du .cell) then(n,Q7) else(n,k)).q x=du .cell \/ (names.t λ(n,k)=>if(k==I0&&env.J.gb == .function&&env.Z n==du .cell) then(n,Q7) else(n,k)).q x=du .free)->(x,I0)∈names
 | [],_,h=>by simp at h| (n,k)::r,i,h=>by
  let h:K1 x ((if(k==I0&&env.J.gb == .function&&env.Z n==du .cell)=dS then(n,Q7) else(n,k))::(r.t λ(n,k)=>if(k==I0&&env.J.gb == .function&&env.Z n==du .cell) then(n,Q7) else(n,k)))=du .cell \/
   K1 x ((if(k==I0&&env.J.gb == .function&&env.Z n==du .cell)=dS then(n,Q7) else(n,k))::(r.t λ(n,k)=>if(k==I0&&env.J.gb == .function&&env.Z n==du .cell) then(n,Q7) else(n,k)))=du .free:=h
  cases g:x==n with
  | true =>
   let e:x=n:=eq_of_beq g;subst e;by_cases f:(k==I0&&env.J.gb == .function&&env.Z x==du .cell)=dS
   .have l:k=.free:=by simp only[K9,beq_iff_eq] at f;exact f.1.1
    subst l;exact D0
   .rw[cp f] at h;simp only[J0,g,D66] at h;rcases h with h|h
    .exact cz h (i (x,k) D0)
    .subst h;exact D0
  | false =>
   apply C2 _ (u89 (env:=env) (λy j=>i y (C2 _ j)) ?_);by_cases f:(k==I0&&env.J.gb == .function&&env.Z n==du .cell)=dS
   .rw[cu f] at h;simp only[J0,g] at h;exact h
   .rw[cp f] at h;simp only[J0,g] at h;exact h
def nN(X:Cx)(g:bf gI)(t:TT):ck:=
 ∀(kI:bf (fy×jC)) (s:fC) (f:St) (H:Hp) (Q:cg->Hp->ck),lp X kI f H s->t f H Q ->
  i3 (model X.c X.w) X.A (forIn g dS λc r=>if r=dS then do let ok <- isTrue c X.f (eval c X.f);pure (V2 ok) else pure (V2 r)) (TP X kI f Q) X.xe s
def YH:TT:=λ_ H Q=>Q dS H
section
variable{X:Cx}{kI:bf (fy×jC)}{σ:St}{H:Hp}{s:fC}
def vt7:nN X [] YH:=λ_ _ _ H _ I h=>wpAny_tests_nil #[H,I,h]
def vt6(h:PT X c t):nN X [c] t:=λkI s σ H Q I hw=>wpAny_tests_one (h kI s σ H Q I hw)
def lp.iA{h1:hR}(I:lp X kI σ H s)(B:kS X N' ix scope)(f:∀b∈A,ja X kI H b)(Q:∀b∈A,b<s.o.h.v) (ns:h1.Ns s.o.h.v (λ_=>dv)) (old:∀b o,s.o.r b=du o->h1.r b=du o): lp (oj X N' scope s.o.h.v s H A) [] (inner ix σ) H { s with heap:=h1,toks:=tk}:=by
 let O:∀y∈scope.U,y.2=.free->∃c,X.f.cells.q y.1=du c:=λy J e=>I.ok.has y.1 (B.frees y J e);let n:∀x c,(jD X.f scope.U []).q x=du c->X.f.cells.q x=du c:=λx c e=>um3 O (λ_ _ z=>by cases z) e;let R:∀b∈A,b∉uA X.stack:=λb l z=>by
  rcases D9.mp (I.qZ b z) with e|e
  .exact(f b l).2.1 e
  .exact(f b l).2.2.1 e
 apply⟨⟨I.ok.mod,B.gb,I.ok.glob,I.ok.blt,B9 _,λx y c h1 g=>I.ok.inj x y c (n x c h1) (n y c g),λx L=>?_,λx c h=>(by cases h),I.ok.hd,I.ok.frames,.inl rfl,λb l=>#[J7 (Q b l),λx c e=>(f b l).2.2.2.2.1 x c (n x c e)],
   I.bs,D4 I.ok.wB I.sz,λb o e l=>?_,R,I.stack,I.sM⟩,rfl,I.bare,Un.kept old,⟨_,ns,λi x v h1 g U=>?_⟩,λx c e=>?_,I.aB.y (B9 _),λx c e=>I.gi x c (n x c e),λp M=>cz (show p∈([]:bf (fy×jC)) from M) (by simp),I.aB.kept old,?_⟩
 .exact XX (.inr (u89 B.vM L))
 .rcases(f b l).2.2.2.1 with z|z
  .exact I.ok.vL b o e z
  .exact cz (C9 (E4 e) (D4 I.ok.wB z)) (EO _)
 .have g:(ix.t λo=>o.bind λj=>(σ[j]?).bind id)[i]?=du (du v):=g;rw[F5] at g;cases k:ix[i]? with
  | none=>rw[k] at g;cases g
  | some o =>
   rw[k] at g;cases o with
   | none=>cases g
   | some j =>
    let g:(σ[j]?).bind id=du v:=E8 g;let g:σ[j]?=du (du v):=by
     cases E:σ[j]? with
     | none=>rw[E] at g;cases g
     | some w=>rw[E] at g;cases g;rfl
    let#[hN,q]:=B.at_ i j x h1 k;let hk:=B.frees (x,.free) (S9 q) rfl;let#[m,S,N]:=I.loc;let#[u,r,lk]:=N j x v hN g (hk.n (λz=>.inr (.inl z)) λz=>.inr (.inr z));apply#[u,r,.inr ?_];rcases lk with⟨z,_⟩|⟨_,c,e,z⟩
    .rcases hk with hk|hk
     .exact cz (hk.M.u z) ∅
     .exact cz (hk.M.u z) ∅
    .let#[C,G]:=XX (env:=X.f) (cs:=[]) (.inr (S9 q));let ec:C=c:=E8 ((n x C G).M.u e);subst ec;apply#[u88 q hk,C,G,?_];let#[o,k,t]:=z;exact#[o,old _ _ k,t]
 .let#[v,o,k,t]:=I.cell x c (n x c e);exact#[v,o,old _ _ k,t]
 .show(inner ix σ).l=N'.l;unfold inner;rw[B0];exact B.len
def vp5{elt tg iter:gI}{ifs:bf gI}{scope:Scope}{pos:jU}{N':bf gq}{ix:bf (b0 br)}{g:TG}{tc:TT}{te:TE}{J:It}{G:bf fy}{it:fy}{tn:br->hR->ck}(B:kS X N' ix scope) (hg:∀C s H G,PG (oj X N' scope C s H G) tg g) (hi:∀C s H G,nN (oj X N' scope C s H G) ifs tc) (he:∀C s H G,PE (oj X N' scope C s H G) elt te) (hc:X.calm=dS) (I:lp X kI σ H s) (T:Turn X.c X.w X.K tg J G it tn) (st:tn 0 s.o) (f:∀b∈G,ja X kI H b) {Q:VK} {E:fx->fC->ck} (w:∃W:br->br->St->Hp->ck,(∃m,W 0 m (inner ix σ) (l6 H s.o.h.v (.lst [])))/\∀i m L H,W i m L H -> (J.stop i H/\Q (.ref s.o.h.v) H)\/(J.go i H/\∃N:St->Hp->ck,(∀σ' O,N σ' O->∃m',m'<m/\W (i+1) m' σ' O)/\∀x O,J.qS i H x O->g x L O λσ2 H2=>tc σ2 H2 λb H3 => if b=dS then te σ2 H3 λv H4=>∃ys,H4 s.o.h.v=du (.lst ys)/\ys.l<iZ/\N σ2 (l6 H4 s.o.h.v (.lst (ys++[v]))) else N σ2 H3)) {RR:fx->fy->Result->fC->ck} (hRR:∀C O s' m,lp X kI σ O s'->ja X kI O C->s'.o.Ns C m->Q (.ref s.o.h.v) O->RR (.ref s.o.h.v) C (.ok .next) s'): i3 (model X.c X.w) X.A (newList []) (λacc s₃=>i3 (model X.c X.w) X.A (newFunctionEnv scope X.f.globals (jD X.f scope.U []) [] X.f.qual dv .none (du X.f)) (λLP s₄ => uO (model X.c X.w) X.A (.compStart (.ListComp elt [#[tg,iter,ifs,0]] scope pos) 0 (.ref it) acc { LP with scope:=relabel scope X.f}) (RR acc LP.gc) s₄) E s₃) E s:=by
 let#[W,#[m0,w0],turn]:=w;let yG:∀b∈G,b<s.o.h.v:=λb h=>by let#[o,ho,_]:=T.obj 0 _ st b h;exact E4 ho
 let I3:lp X kI σ (l6 H s.o.h.v (.lst [])) { s with heap:=s.o.R { cls:=.type "list",data:=.seq ([]:bf fx).e},toks:=s.H}:=I.Dt .nil (J8 _);let vg:∀b∈G,(l6 H s.o.h.v (.lst [])) b=dv:=λb h=>by rw[dj (J7 (yG b h))];exact(f b h).1
 let f3:∀b∈G,ja X kI (l6 H s.o.h.v (.lst [])) b:=λb h=>#[vg b h,(f b h).2];apply V0 (wpAny_newFunctionEnv B.vM (by intro y hy;simp at hy) (λl M R=>?_) B.gb);dsimp only at M R⊢;generalize hH3:s.o.R { cls:=.type "list",data:=.seq ([]:bf fx).e}=h3 at M R I3⊢;obtain⟨j,e3⟩:∃j:fC,j={ s with heap:=h3}:=#[_,rfl];obtain rfl:h3=j.o:=by rw[e3]
 let I3:lp X kI σ (l6 H s.o.h.v (.lst [])) j:=by let e:j={ s with heap:=j.o,toks:=s.H}:=e3;rw[e];exact I3
 let eT:j.H=s.H:=by rw[e3]
 let eS:({ s with heap:=l,toks:=s.H+([]:bf (gq×fx)).l}:fC)={ j with heap:=l,toks:=j.H+([]:bf (gq×fx)).l}:=by rw[e3]
 rw[eS];let hz3:j.o.h.v=s.o.h.v+1:=by rw[<- hH3];exact U2 _ _
 let old:∀b o,j.o.r b=du o->l.r b=du o:=λb o e=>R.extBut b o (J7 (E4 e)) (B8 _ e);let Rj:tn 0 j.heap:=T.keep _ _ _ st λb h o e=>by rw[<- hH3];exact B8 _ e
 let st4:tn 0 l:=T.keep _ _ _ Rj λb _ o e=>old b o e;let I4:=I3.iA (tk:=j.H+([]:bf (gq×fx)).l) B f3 (λb h=>C9 (yG b h) (by rw[hz3];exact U4 _)) (show l.Ns j.o.h.v (λ_=>dv) from M) old;generalize RO:oj X N' scope j.o.h.v j (l6 H s.o.h.v (.lst [])) G=k at I4;let eX:k.c=X.c/\k.w=X.w/\k.K=X.K/\k.A=X.A/\k.calm=X.calm/\k.f=zC scope (jD X.f scope.U []) j.o.h.v X.f/\k.ex=G/\k.outer=X.stack/\k.s₀=j/\k.H₀=l6 H s.o.h.v (.lst [])/\k.pn=[]/\k.xe=(λ_ _=>b8):=by rw[<- RO];exact#[rfl,rfl,rfl,rfl,rfl,rfl,rfl,rfl,rfl,rfl,rfl,rfl]
 let hg':PG k tg g:=RO▸hg _ _ _ _;let hi':nN k ifs tc:=RO▸hi _ _ _ _;let he':PE k elt te:=RO▸he _ _ _ _;let#[e1,e2,e3,e4,e5,e6,e7,e8,e9,e10,e11,R']:=eX;let q_:∀{O:Hp},(∀b∈G,O b=dv)->∀b∈G,ja k [] O b:=λ{O} hn b h=>by
  let q:=I4.ok.exf b (by rw[e7];exact h);apply#[hn b h,q.1,?_,.inl (by rw[e7];exact h),q.2,λp hp=>?_]
  .exact I4.ok.wm b (by rw[e7];exact h)
  .rw[e11] at hp;simp at hp
 let loop:uO (model X.c X.w) X.A (.compLoop (.ListComp elt [#[tg,iter,ifs,0]] scope pos) 0 (.ref it) (.ref s.o.h.v) (zC scope (jD X.f scope.U []) j.o.h.v X.f))
   (RR (.ref s.o.h.v) j.o.h.v) { j with heap:=l,toks:=j.H+([]:bf (gq×fx)).l}:=by
  apply wq7 (λn s'=>∃i L Hi,lp k [] L Hi s'/\tn i s'.o/\(∀b∈G,Hi b=dv)/\W i n L Hi) ?_ m0 #[0,_,_,I4,st4,vg,w0];intro n s5 #[i,Z,H5,I5,FF,RX,w5];rcases turn i n Z H5 w5 with⟨stop,qn⟩|⟨go,N,hN,step⟩
  .have d:=T.done k e1 e2 e3 (by rw[e5];exact hc) i [] s5 Z H5 (λ_ _=>b8) I5 (q_ RX) FF stop;rw[e4] at d
   (apply bu d ?_;rintro r s6 ⟨hr,I6⟩)
   subst hr;let u:=I6.Q;rw[e7,e9,e10] at u;let u:Un (uA k.outer) G (l6 H s.o.h.v (.lst [])) H5 j.o s6.heap:=u;rw[e8] at u;let ok6:=I6.aB;rw[e1,e2] at ok6;let I7:lp X kI σ H5 s6:=I3.LS (ch:=G) (by let:=I6.os;rw[e9] at this;exact this) u ok6 I6.bare λb h=>#[(f b h).2.2.2.1,(f b h).2.1,(f b h).2.2.2.2.1,(f b h).2.2.2.2.2];let h_:=I6.free;let#[m,hm,_]:=I6.loc;rw[e6] at h_ hm;exact hRR _ H5 s6 m I7 (I3.oM (B9 _) h_) hm qn
  .have d:=T.item k e1 e2 e3 (by rw[e5];exact hc) i [] s5 Z H5 (λ_ _=>b8) I5 (q_ RX) FF go;rw[e4] at d
   (apply bu d ?_;intro r s6 #[u,hr,h6])
   subst hr
   (apply bu h6 ?_;intro _ s7 #[x,H7,I7,r7,y7,YJ,fr7])
   let I7':=I7.pinned (q_ fr7) (T.obj _ _ YJ);let a:=hg' _ s7 Z H7 x u _ I7' r7 (step x H7 y7);rw[e1,e2,e4,e6,R'] at a
   (apply bu a ?_;intro _ s8 #[Y,H8,I8,q8])
   let t:=hi' _ s8 Y H8 _ I8 q8;rw[e1,e2,e4,e6,R'] at t;let again:∀{U:St} {H9:Hp} {s9:fC},lp k ([]++Hf G s7.o) U H9 s9->N U H9->∃m,m<n/\∃i L Hi,lp k [] L Hi s9/\tn i s9.o/\(∀b∈G,Hi b=dv)/\W i m L Hi:=λ{U H9 s9} I9 n9=>by let#[m',hm,w9]:=hN U H9 n9;apply#[m',hm,i+1,U,H9,I9.gW,T.keep _ _ _ YJ λb h o e=>(I9.pin (b,o) (M8 _ (M8 _ (Rc h e)))).1,λb h=>?_,w9];let#[o,e,d]:=T.obj _ _ YJ b h;exact(I9.pin (b,o) (M8 _ (M8 _ (Rc h e)))).2.1
   (apply bu t ?_;intro ok s9 #[H9,I9,q9])
   cases ok with
   | false =>rw[cp D1] at q9⊢;exact again I9 q9| true =>
    rw[cu rfl] at q9⊢;let v:=he' _ s9 Y H9 _ I9 q9;rw[e1,e2,e4,e6,R'] at v
    (apply bu v ?_;intro y s10 #[z,H10,I10,r10,ys,hD,hz,q10])
    let ap:=uv2 _ s10 Y H10 (.ref s.o.h.v) [z] (.ref s.o.h.v) [y] (λ_ O=>N Y O) I10 rfl (.cons r10 .nil) #[_,ys,z,rfl,rfl,hD,hz,q10];rw[e1,e2,e4,R'] at ap
    (apply bu ap ?_;intro _ s11 #[_,H11,I11,_,q11];exact again I11 q11)
 exact codeAny_compStart_list loop (T.self _ _ _ _ _ st4 loop)
variable{elt tg iter:gI}{ifs:bf gI}{scope:Scope}{pos:jU}{N':bf gq}{ix:bf (b0 br)}{wi:TI}{g:TG}{tc:TT}{te:TE}
def wn5(B:kS X N' ix scope)(L:X.calm=dS)(hw:PI X tg iter wi) (E:∀C s H f,PG (oj X N' scope C s H f) tg g) (hi:∀C s H f,nN (oj X N' scope C s H f) ifs tc) (G:∀C s H f,PE (oj X N' scope C s H f) elt te) (u:∀x,X9 iter X.f x=pure x:=by intro _;rfl):
  PE X (.ListComp elt [#[tg,iter,ifs,0]] scope pos) (WB ix wi g tc te):=by
 intro kI s σ H Q I h;rw[eval_ListComp];apply wpAny_comprehension_free (use:=dv) rfl u (uo4 λy t e=>I.ok.has y.1 (B.frees y t e)) B.gb B.U ?_;apply bu (hw kI s σ H _ I h) λv Z O=>bu O λRz l N=>?_;let#[it,f,U,J,H2,e,j,T,r,f2,p]:=N;subst e;apply vp5 B E hi G L j T r f2 (Q:=Q) (p _ j.y) λC S n m R i A q=>?_;apply#[m,A,λh' k=>#[.ref l.o.h.v,S,?_,rfl,q]];exact R.turned (t':=n.H) (it:=C) (λb o M e=>k.extBut b o M e) i.1 i.2.1 i.2.2.2.1 i.2.2.2.2.1 i.2.2.2.2.2
def xo8(i:br)(t:TE):TS:=λD σ H=>t σ H λx f=>D.nx (σ.set i (du x)) f
def wm0{k t:jU}(B:kS X N' ix scope)(hc:X.calm=dS)(hN:X.N.Nodup)(n:X.N[i]?=du y)(U:n0 X.f.J y)(hw:PI X tg iter wi) (Y:∀C s H j,PG (oj X N' scope C s H j) tg g) (hi:∀C s H j,nN (oj X N' scope C s H j) ifs tc) (he:∀C s H j,PE (oj X N' scope C s H j) elt te) (FR:X4 (.ListComp elt [#[tg,iter,ifs,0]] scope pos) (du (.Name y k)) t.line X.f=pure dS:=by rfl)
  (Z:X.fn y=dS\/X.f.J.U.q y=du .local:=by first|exact .inl rfl|exact .inr rfl|assumption)
  (O:∀x,X9 iter X.f x=pure x:=by intro _;rfl):
  PS X (.Assign [.Name y k] (.ListComp elt [#[tg,iter,ifs,0]] scope pos) t) (xo8 i (WB ix wi g tc te)):=by
 intro kI s σ H D I h;rw[exec_Assign_Name_used _ _ _ _ FR];apply B5 (SV (B5 ?_));show i3 _ X.A (do let _ <- comprehension (.ListComp elt [⟨tg,iter,ifs,0⟩] scope pos) scope X.f _ (newList []) eH (eval iter X.f) (du (assign (.Name y k) X.f))) _ _ s;apply B5 (S8 (wpAny_comprehension_free (use:=du (assign (.Name y k) X.f)) (Q:=λ_ l=>SP X kI D .next l) rfl O (uo4 λy n e=>I.ok.has y.1 (B.frees y n e)) B.gb B.U
  (bu (hw kI s σ H _ I h) λv s1 h1=>bu h1 λRz u h2=>?_)) (λ_ l R=>C8 (C8 R)) λ_ _ e=>e)
 let#[it,j,tn,J,H2,e,E,T,M,f2,L]:=h2;subst e;apply vp5 B Y hi he hc E T M f2 (Q:=λx H1=>D.nx (σ.set i (du x)) H1) (L _ E.y) λC H' l m I' f S q=>?_;show i3 _ _ (assign (.Name y k) X.f (.ref u.o.h.v)) _ _ _
 (apply wpAny_assign_Name (uu2 I' hN n U (v:=.ref u.o.h.v) rfl (?_) Z);intro Ij r #[a,KS,ha])
 let p:C≠a:=by
  rcases ha with z|z
  .rw[z];exact f.2.1
  .intro e;exact f.2.2.2.2.1 _ _ z e.M
 apply#[m,S.sameBut KS p,λh' G=>#[_,H',?_,q]];exact r.turned (t':=Ij.H) (it:=C) (λb o hb e=>G.extBut b o hb e) f.1 f.2.1 f.2.2.2.1 f.2.2.2.2.1 f.2.2.2.2.2
end
section
variable{X:Cx}{pos:jU}
def uB9(K:eM)(n:br)(t:EB):TG:=λv f H Q=>∃a xs,v=.ref a/\fb K H a xs/\xs.l=n/\t xs f H Q
def wn0(y:X.calm=dS)(h:BD X f t) (q:(U1 f X.f).l=n:=by rfl) (j:(U1 f X.f).findIdx? (·.1)=dv:=by rfl):PG X (.Tuple f k pos) (uB9 X.K n t):=by
 intro kI s g H v u Q I r hw;let#[a,xs,B,p,x,hw]:=hw;subst B;cases r;let#[its,i,m,G]:=I.list p;rw[C93];apply B5 (SV ?_);unfold unpack;let hsz:(U1 f X.f).l=its.e.v:=by simp[q,<- x,i.l]
 rw[hsz,j];apply B5 (O0 (W.kun_itemsOf (I.ok.hd y) m.Y λA l=>?_));let C:lp X kI g H { s with heap:=A}:=I.kept (t':=s.H) λb o e=>l b o (J7 (E4 e)) e;exact h kI _ g H xs _ Q C (by simpa using i) hw
def xp7(h:PG X tg t)(h':PG X tg t'):PG X tg (λv f H Q=>t v f H Q\/t' v f H Q):=by
 intro kI s f H v u Q I r q;rcases q with q|q
 .exact h kI s f H v u Q I r q
 .exact h' kI s f H v u Q I r q
def ZS(K:eM)(h:TE):TI:=λg H R=>h g H λx f=>∃a,x=.ref a/\(((∃xs,fb K f a xs)/\R (BO K a) f)\/((∃xs,eR K f a xs)/\R (BP K a) f))
def x14(B:PE X l r):PI X tg l (ZS X.K r):=by
 intro kI s n H R I h
 (apply bu (B kI s n H _ I h) ?_;intro v f #[x,m,g,k,y])
 obtain⟨a,e,⟨⟨xs,i⟩,q⟩|⟨⟨xs,i⟩,q⟩⟩:=y
 .subst e;cases k;let#[its,u,p,A]:=g.list i;apply V1 p.Y ?_;apply#[f.o.h.v,[f.o.h.v],_,_,m,rfl,g.kept (t':=f.H) λb o e=>B8 _ e,vc8 a _,#[_,E7 _ rfl,rfl,rfl],λb j=>?_,q];let e:b=f.o.h.v:=by simpa using j
  subst e;exact g.oM (B9 _) (g.aB.y (B9 _))
 .subst e;cases k;let#[its,u,p,A]:=g.tuple i;apply Pq (show f.o.IsTuple a its.e from p) ?_;apply#[f.o.h.v,[f.o.h.v],_,_,m,rfl,g.kept (t':=f.H) λb o e=>B8 _ e,v82 a _,#[_,E7 _ rfl,rfl,rfl],λb j=>?_,q];let e:b=f.o.h.v:=by simpa using j
  subst e;exact g.oM (B9 _) (g.aB.y (B9 _))
def vh0:dM X (L8 .IsNot) (λx y H Q=>∃b,y=.bl b/\Q (.bl (!decide (x=.bl b))) H):=by
 intro kI s i H x y v u Q I f g h;let#[b,rfl,q]:=h;cases g;apply wpAny_isNot_plain ?_ (fZ I q ?_)
 .cases x <;> first
   | (cases f;rfl)
   | (let#[t,rfl]:=f;rfl)
 .cases x <;> first
   | (let#[t,rfl]:=f;rfl)
   | (cases f;cases b <;> rfl)
   | (cases f;rename_i c;cases b <;> cases c <;> rfl)
theorem un0:∀{bs:bf cg} {us:bf fx},Vals (bs.t V.bl) us->us=bs.t Aw
 | [],_,.nil=>rfl| b::bs,_,.cons r t=>by cases r;rw[un0 t];rfl
def vz7(B:X.calm=dS):bK X (.builtin "all") (λxs H Q=>∃(p:fy) (bs:bf cg),xs=[.ref p]/\fb X.K H p (bs.t V.bl)/\Q (.bl (bs.all id)) H):=by
 intro kI s E H xs G Q I r h;let#[p,bs,rfl,o,q]:=h;let#[u,rfl,l]:=vals1 r;cases l;let#[its,m,n,M]:=I.list o;let e:=un0 m;subst e;let j:=n.Y;let C:p<s.o.h.v:=by let#[_,e,_]:=j;exact E4 e
 apply call_all_walk (V1 j ?_);apply#[s.o.h.v,[s.o.h.v,p],[s.o.h.v],(bs.t Aw).e.v,_,_,λi=>(bs[i]?).E dS,rfl,Walks.list (A:=X.A.in1) (I.ok.hd B) _ p (J7 C) (bs.t Aw).e,
  #[#[_,E7 _ rfl,rfl,rfl],j.R _],λi v L O R f k=>?_,λN J y=>?_]
 .have f:(bs.t Aw)[i]?=du v:=by simpa using f
  rw[F5] at f;cases g:bs[i]? with
  | none=>rw[g] at f;cases f
  | some b =>rw[g] at f;cases f;simp only[g,OB] at k;exact U9 k
 .have e:((D3 (bs.t Aw).e.v).all λi=>(bs[i]?).E dS)=bs.all id:=by
   rw[E5,B0,T8,O5,O5];constructor
   .intro h b g;let#[i,hi,e]:=sG.mp g;let:=h i (K0.mpr hi);rw[B6 hi,e] at this;exact this
   .intro h i hi;let hi:=K0.mp hi;rw[B6 hi];exact h _ (M4 hi)
  rw[e];apply#[.bl _,H,?_,rfl,q];exact I.kept λb x e=>y b x (λt=>by rw[D8.mp t] at e;exact EO _ (E4 e)) (B8 _ e)
def vz6(t:X.calm=dS):bK X (.builtin "sum") (λxs H Q=>∃(p:fy) (ns:bf bz),xs=[.ref p]/\fb X.K H p (ns.t V.int)/\Q (.int ns.sum) H):=by
 intro kI s A H xs B Q I r h;let#[p,ns,rfl,n,q]:=h;let#[u,rfl,j]:=vals1 r;cases j;let#[its,k,l,G]:=I.list n;let#[m,F]:=I.fr;let hi:x_ its ns:=intsAre_of k;let#[f,g]:=hi.allInts.items;let i:s.o.IsList p (zH f):=g▸l.Y;apply sum_intListG (I.ok.hd t) i λJ C E o=>?_;let y:ns=f.L.t (·.1):=by rw[<- xG,<- g];exact(show numsOf its.e.L=ns from hi.numsOf).M
 let x:preSum (numAt f) f.v=ns.sum:=by rw[preSum_eq,Kd (by simp),y]
 rw[x];exact#[.int ns.sum,H,I.kept o,#[_,rfl],q]
def wr1(K:eM)(H:Hp):V->String->ck
 | .non,n=>n = "NoneType"| .bl _,n=>n = "bool"| .int _,n=>n = "int"| .str _,n=>n = "str"| .ref a,n=>(n = "list" /\ ((∃xs,H a=du (.lst xs))\/∃o xs,H a=du (.dR o (.lst xs))))\/(n = "tuple" /\ ∃xs,H a=du (.tup xs))\/(n = "dict" /\ ∃xs,H a=du (.dK xs))| _,_=>b8
def j4(n T:String):cg:=n==T||(n == "bool" && T == "int")
def zd{K:eM}{n T:String}(f:n = "NoneType" \/ n = "bool" \/ n = "int" \/ n = "str" \/ n = "list" \/ n = "tuple" \/ n = "dict")(g:T = "int" \/ T = "str" \/ T = "bool" \/ T = "list" \/ T = "tuple" \/ T = "dict"):W.kitOne K (.type n) (.type T)=du (j4 n T):=by rcases f with rfl|rfl|rfl|rfl|rfl|rfl|rfl <;> rcases g with rfl|rfl|rfl|rfl|rfl|rfl <;> rfl
def v09:bK X (.builtin "isinstance") (λxs H Q=>∃x n T,xs=[x,.ty T]/\wr1 X.K H x n/\(T = "int" \/ T = "str" \/ T = "bool" \/ T = "list" \/ T = "tuple" \/ T = "dict")/\Q (.bl (j4 n T)) H):=by
 intro kI s p H xs y Q I r h;let#[x,n,T,rfl,k,g,q]:=h;let#[u,w,rfl,f,t]:=vals2 r;cases t;let l':∀l,EP X kI p Q (.bool (j4 n T)) { s with toks:=l}:=λl=>#[.bl (j4 n T),H,I.tok l,rfl,q];cases x with
 | non=>cases(show n = "NoneType" from k);exact AW I f .non (zd (by simp) g) l'
 | bl b=>cases(show n = "bool" from k);exact AW I f (.bl b) (zd (by simp) g) l'
 | int i=>cases(show n = "int" from k);exact AW I f (.int i) (zd (by simp) g) l'
 | str i=>cases(show n = "str" from k);exact AW I f (.str i) (zd (by simp) g) l'
 | ref a =>
  rcases(show(n = "list" /\ ((∃xs,H a=du (.lst xs))\/∃o xs,H a=du (.dR o (.lst xs))))\/(n = "tuple" /\ ∃xs,H a=du (.tup xs))\/(n = "dict" /\ ∃xs,H a=du (.dK xs)) from k) with⟨e,⟨xs,j⟩|⟨o,xs,j⟩⟩|⟨e,xs,j⟩|⟨e,xs,j⟩
  .cases e;exact AW I f (.lst j) (zd (by simp) g) l'
  .cases e;exact AW I f (.dR j) (zd (by simp) g) l'
  .cases e;exact AW I f (.tup j) (zd (by simp) g) l'
  .cases e;exact AW I f (.dK j) (zd (by simp) g) l'
 | _=>exact(show b8 from k).n
end
end L2
namespace L2
open PySem
def XH(a C:fy)(g:b0 fy)(h:hR):ck:=∃o f,h.r a=du o/\o.cls=.ref C/\o.dict=g/\o.data=.fields f
def tq(H:Hp):b0 fy->bf (gq×V)->ck
 | none,f=>f=[]| some d,f=>∃o,H d=du (.dR o (.xd f))
end L2
namespace L3
open PySem L2
inductive D where
 | non|bl (b:cg)|int (i:bz)|str (x:gq)|tup (xs:bf D)|ref (a:fy)|ty (n:String)
inductive DO where
 | lst (xs:bf D)|uB (xs:bf D)|bR (kvs:bf (lR×D))|LL (kvs:bf (bf lR×D))|sZ (kvs:bf ((bf lR×bf lR)×D))|ins (C:fy) (f:bf (gq×D))|exc (C:fy) (f:bf (gq×D))|sf (o:jC) (kvs:bf (lR×D))|tb (g:gq) (h:fy)
abbrev Gp:=fy->b0 DO
def aC(G:Gp)(a:fy)(o:DO):Gp:=λb=>if b=a then du o else G b
def ay:aC G a o a=du o:=by unfold aC;rw[cu rfl]
def aA(h:b≠a):aC G a o b=G b:=by unfold aC;rw[cp h]
def gb:aC (aC G a o) a u=aC G a u:=by funext b;unfold aC;split <;> rfl
def aT{G:Gp}{a b:fy}{o:DO}(h:G a=du o)(h':G b=dv):a≠b:=by intro e;subst e;rw[h] at h';cases h'
def uB7{G:Gp}{a b:fy}{o:DO}(h':G b=dv)(h:G a=du o):b≠a:=E1 (aT h h')
structure Le(H H':Hp):Prop where
 f_:∀b xs,H b=du (.tup xs)->H' b=du (.tup xs)
 eC:∀b o (u:NK),H b=du (.dR o u.1)->H' b=du (.dR o u.1)
def Le.refl(H:Hp):Le H H:=#[λ_ _ h=>h,λ_ _ _ h=>h]
def Le.trans{H g f:Hp}(a:Le H g)(b:Le g f):Le H f:=#[λc xs h=>b.f_ c xs (a.f_ c xs h),λc o u h=>b.eC c o u (a.eC c o u h)]
def Le.Ic(l:Le H f)(h:eR K H a xs):eR K f a xs:=by
 rcases h with(h|⟨o,h⟩)|h
 .exact .inl (.inl (l.f_ _ _ h))
 .exact .inl (.inr ⟨o,l.eC _ _ ⟨_,by intro _ e;cases e⟩ h⟩)
 .exact .inr h
def Le.fresh(h:H p=dv):Le H (l6 H p o):=⟨λb xs q=>by rw[dj (zj q h)];exact q,λb o u q=>by rw[dj (zj q h)];exact q⟩
mutual
def af(K:eM)(H:Hp):D->V->ck
 | .non,v=>v=.non| .bl b,v=>v=.bl b| .int i,v=>v=.int i| .str x,v=>v=.str x| .ref a,v=>v=.ref a| .ty n,v=>v=.ty n| .tup f,v=>∃a xs,v=.ref a/\eR K H a xs/\ah K H f xs
def ah(K:eM)(H:Hp):bf D->bf V->ck
 | [],xs=>xs=[]| d::f,xs=>∃x r,xs=x::r/\af K H d x/\ah K H f r
end
section
variable{K:eM}{H H':Hp}
mutual
theorem af.le(l:Le H H'):∀{d:D} {v:V},af K H d v->af K H' d v
 | .non,_,h=>by simpa[af] using h| .bl _,_,h=>by simpa[af] using h| .int _,_,h=>by simpa[af] using h| .str _,_,h=>by simpa[af] using h| .ref _,_,h=>by simpa[af] using h| .ty _,_,h=>by simpa[af] using h| .tup f,_,h=>by rw[af] at h⊢;let#[a,xs,e,s,r]:=h;exact#[a,xs,e,l.Ic s,ah.le l r]
theorem ah.le(l:Le H H'):∀{ds:bf D} {xs:bf V},ah K H ds xs->ah K H' ds xs
 | [],_,h=>by simpa[ah] using h| d::ds,_,h=>by rw[ah] at h⊢;let#[x,r,e,g,f]:=h;exact#[x,r,e,af.le l g,ah.le l f]
end
def ah.nil:ah K H [] []:=by rw[ah]
def ah.cons{d:D}{ds:bf D}{x:V}{xs:bf V}(h:af K H d x)(t:ah K H ds xs):ah K H (d::ds) (x::xs):=by rw[ah];exact#[x,xs,rfl,h,t]
def ah.aX{xs:bf V}(h:ah K H [] xs):xs=[]:=by rw[ah] at h;exact h
def ah.aq{d:D}{ds:bf D}{xs:bf V}(h:ah K H (d::ds) xs):∃x r,xs=x::r/\af K H d x/\ah K H ds r:=by rw[ah] at h;exact h
theorem ah.length:∀{ds:bf D} {xs:bf V},ah K H ds xs->ds.l=xs.l
 | [],_,h=>by rw[h.aX];rfl| _::_,_,h=>by let#[x,r,e,_,t]:=h.aq;rw[e,C0,C0,t.l]
theorem ah.get:∀{ds:bf D} {xs:bf V} {i:br} {d:D},ah K H ds xs->ds[i]?=du d->∃x,xs[i]?=du x/\af K H d x
 | [],_,_,_,_,e=>by simp at e| _::_,_,0,_,h,e=>by let#[x,r,rfl,f,t]:=h.aq;simp at e;subst e;exact#[x,rfl,f]| _::_,_,i+1,d,h,e=>by let#[x,r,rfl,f,t]:=h.aq;let#[y,j,g]:=ah.get (i:=i) t (by simpa using e);exact#[y,by simpa using j,g]
theorem ah.of:∀{ds:bf D} {xs:bf V},ds.l=xs.l->(∀(i:br) d x,ds[i]?=du d->xs[i]?=du x->af K H d x)->ah K H ds xs
 | [],[],_,_=>.nil| [],_::_,h,_=>by simp at h| _::_,[],h,_=>by simp at h| d::ds,x::xs,h,f=>.cons (f 0 d x rfl rfl) (ah.of (by simpa using h) λi d x a b=>f (i+1) d x (by simpa using a) (by simpa using b))
theorem ah.append:∀{ds f:bf D} {xs ys:bf V},ah K H ds xs->ah K H f ys->ah K H (ds++f) (xs++ys)
 | [],_,_,_,h,t=>by rw[h.aX];exact t| _::_,_,_,_,h,t=>by let#[x,r,rfl,i,g]:=h.aq;exact .cons i (g.fj t)
theorem ah.set(q:af K H d x):∀{ds:bf D} {xs:bf V} (i:br),ah K H ds xs->ah K H (ds.I i d) (xs.I i x)
 | [],_,_,h=>by rw[h.aX];exact .nil| _::_,_,0,h=>by let#[x,r,rfl,g,f]:=h.aq;exact .cons q f| _::_,_,i+1,h=>by let#[x,r,rfl,g,f]:=h.aq;exact .cons g (f.I q i)
theorem ah.take:∀{ds:bf D} {xs:bf V} (n:br),ah K H ds xs->ah K H (ds.fh n) (xs.fh n)
 | _,_,0,_=>by simpa using ah.nil| [],_,_+1,h=>by rw[h.aX];exact .nil| _::_,_,n+1,h=>by let#[x,r,rfl,g,f]:=h.aq;exact .cons g (f.fh n)
theorem ah.drop:∀{ds:bf D} {xs:bf V} (n:br),ah K H ds xs->ah K H (ds.G n) (xs.G n)
 | _,_,0,h=>by simpa using h| [],_,_+1,h=>by rw[h.aX];exact .nil| _::_,_,n+1,h=>by let#[x,r,rfl,g,f]:=h.aq;exact f.G n
theorem ah.reverse:∀{ds:bf D} {xs:bf V},ah K H ds xs->ah K H ds.ff xs.ff
 | [],_,h=>by rw[h.aX];exact .nil| _::_,_,h=>by let#[x,r,rfl,g,f]:=h.aq;rw[X6,X6];exact f.ff.fj (.cons g .nil)
theorem ah.rep(h:ah K H ds xs):∀k:br,ah K H (C7 k ds).C (C7 k xs).C
 | 0=>.nil| k+1=>by rw[K4,K4,N4,N4];exact h.fj (h.rep k)
def aG{κ:Type}(K:eM)(H:Hp)(ps:bf (κ×D))(qs:bf (κ×V)):ck:=ps.t (·.1)=qs.t (·.1)/\ah K H (ps.t (·.2)) (qs.t (·.2))
theorem aG.le{κ:Type}(l:Le H H'){ps:bf (κ×D)}{qs:bf (κ×V)}(h:aG K H ps qs):aG K H' ps qs:=#[h.1,ah.le l h.2]
end
def uD3(H:Hp)(i:gq)(ps:dc fx):ck:=TriplesOk ps.L/\∀pos g,codeAmong pos ps.L=du g->∃(c:fy) (o:jC) (f:dc fx) (t:Tok),g=.ref c/\o.data=.fields f/\f[1]?=du (.str i t)/\H c=du (.dR o (.ext λh=>h.r c=du o))
def uD9(H:Hp)(f:fy):ck:=∃o:jC,H f=du (.dR o (.ext λh=>h.r f=du o))/\o.cls=.type "module" /\ o.dict=du SE/\o.data=.plain
def sE(K:eM)(H:Hp)(a:fy):DO->ck
 | .lst i=>∃xs,H a=du (.lst xs)/\ah K H i xs| .uB i=>∃o xs,H a=du (.dR o (.lst xs))/\ah K H i xs| .bR kvs=>∃f,H a=du (.dK f)/\aG K H kvs f| .LL kvs=>∃f,H a=du (.dT f)/\aG K H kvs f| .sZ kvs=>∃f,H a=du (.dN K f)/\aG K H kvs f| .ins C h=>∃g f,H a=du (.ins C g f)/\aG K H h f| .exc C h=>∃g f,H a=du (.ext (XH a C g))/\tq H g f/\aG K H h f| .sf o kvs=>∃f,H a=du (.dR o (.dK f))/\aG K H kvs f| .tb k l=>∃j,H a=du (.AX j)/\uD3 H k j/\uD9 H l
def _root_.L2.tq.le{H g:Hp}(l:Le H g){f:b0 fy}{ys:bf (gq×V)}(h:tq H f ys):tq g f ys:=by
 cases f with
 | none=>exact h| some d=>let#[o,e]:=h;exact#[o,l.eC _ _ #[_,by intro _ e;cases e] e]
def cx(K:eM)(G:Gp)(H:Hp):ck:=∀a o,G a=du o->sE K H a o
section
variable{K:eM}{G:Gp}{H H':Hp}{a p:fy}{o:DO}
theorem sE.some(h:sE K H a o):∃u,H a=du u:=by
 cases o with
 | lst f=>let#[xs,e,_]:=h;exact#[_,e]| uB f=>let#[_,xs,e,_]:=h;exact#[_,e]| bR f=>let#[xs,e,_]:=h;exact#[_,e]| LL f=>let#[xs,e,_]:=h;exact#[_,e]| sZ f=>let#[xs,e,_]:=h;exact#[_,e]| ins C f=>let#[_,xs,e,_]:=h;exact#[_,e]| exc C f=>let#[_,xs,e,_]:=h;exact#[_,e]| sf o f=>let#[xs,e,_]:=h;exact#[_,e]| tb g i=>let#[_,e,_]:=h;exact#[_,e]
def sE.gw(h:sE K H a o)(l:Le H H')(e:H' a=H a):sE K H' a o:=by
 cases o with
 | lst f=>let#[xs,q,r]:=h;exact#[xs,e.u q,ah.le l r]| uB f=>let#[o,xs,q,r]:=h;exact#[o,xs,e.u q,ah.le l r]| bR f=>let#[xs,q,r]:=h;exact#[xs,e.u q,r.le l]| LL f=>let#[xs,q,r]:=h;exact#[xs,e.u q,r.le l]| sZ f=>let#[xs,q,r]:=h;exact#[xs,e.u q,r.le l]| ins C f=>let#[g,xs,q,r]:=h;exact#[g,xs,e.u q,r.le l]| exc C f=>let#[g,xs,q,z,r]:=h;exact#[g,xs,e.u q,z.le l,r.le l]| sf o f=>let#[xs,q,r]:=h;exact#[xs,e.u q,r.le l]| tb I J=>let#[y,q,#[x,u],o,E,B]:=h;exact#[y,e.u q,#[x,λpos A z=>let ⟨c,o,n,t,m,k,j,i⟩:=u pos A z;#[c,o,n,t,m,k,j,l.eC _ _ #[_,by intro _ e;cases e] i]],o,l.eC _ _ #[_,by intro _ e;cases e] E,B]
def cx.fresh(c:cx K G H)(h:H p=dv):G p=dv:=by
 cases e:G p with
 | none=>rfl| some o=>let#[u,q]:=(c p o e).some;rw[h] at q;cases q
theorem cx.gw(c:cx K G H)(l:Le H H')(e:∀a o,G a=du o->H' a=H a):cx K G H':=λa o q=>(c a o q).gw l (e a o q)
def cx.side(c:cx K G H)(h:H p=dv):cx K G (l6 H p u):=c.gw (Le.y h) λa o q=>by let#[u,e]:=(c a o q).some;exact dj (zj e h)
def cx.put{u:HO}(c:cx K G H)(l:Le H (l6 H p u))(n:sE K (l6 H p u) p o):cx K (aC G p o) (l6 H p u):=λb q e=>by
 by_cases f:b=p
 .subst f;rw[ay] at e;cases e;exact n
 .rw[aA f] at e;exact(c b q e).gw l (dj f)
theorem Le.lst{xs ys:bf V}(h:H p=du (.lst xs)):Le H (l6 H p (.lst ys)):=
  ⟨fun b zs q => by by_cases e: b = p
                    · subst e;rw[h] at q;cases q
                    · rw[dj e];exact q,
   fun b o u q => by by_cases e: b = p
                     · subst e;rw[h] at q;cases q
                     · rw[dj e];exact q⟩
theorem Le.dK(h:H p=du (.dK xs)):Le H (l6 H p (.dK ys)):=
  ⟨fun b zs q => by by_cases e: b = p
                    · subst e;rw[h] at q;cases q
                    · rw[dj e];exact q,
   fun b o u q => by by_cases e: b = p
                     · subst e;rw[h] at q;cases q
                     · rw[dj e];exact q⟩
theorem Le.ins{C dx C' wq:fy}{xs ys:bf (gq×V)}(h:H p=du (.ins C dx xs)):Le H (l6 H p (.ins C' wq ys)):=
  ⟨fun b zs q => by by_cases e: b = p
                    · subst e;rw[h] at q;cases q
                    · rw[dj e];exact q,
   fun b o u q => by by_cases e: b = p
                     · subst e;rw[h] at q;cases q
                     · rw[dj e];exact q⟩
def cx.cY(c:cx K G H)(h:H p=dv)(r:ah K H ds xs):cx K (aC G p (.lst ds)) (l6 H p (.lst xs)):=c.put (Le.y h) #[xs,iL,ah.le (Le.y h) r]
def cx.ku(c:cx K G H)(h:H p=du (.lst ys))(r:ah K H ds xs):cx K (aC G p (.lst ds)) (l6 H p (.lst xs)):=c.put (Le.lst h) #[xs,iL,ah.le (Le.lst h) r]
end
abbrev d9:=bf (b0 D)
def bP(K:eM)(H:Hp)(f:d9)(g:St):ck:=f.l=g.l/\∀(i:br) d,f[i]?=du (du d)->∃v,g[i]?=du (du v)/\af K H d v
theorem bP.le{K:eM}{H j:Hp}{f:d9}{g:St}(h:bP K H f g)(l:Le H j):bP K j f g:=#[h.1,λi d e=>let ⟨v,a,b⟩:=h.2 i d e;#[v,a,af.le l b]]
theorem bP.set(h:bP K H f k)(i:br)(r:af K H d v):bP K H (f.I i (du d)) (k.I i (du v)):=by
 apply#[by rw[K2,K2];exact h.1,λj e q=>?_];rw[KY] at q;split at q
 .rename_i g;subst g;split at q
  .rename_i l;cases q;exact#[v,by rw[r9 (by rw[<- h.1];exact l)],r]
  .cases q
 .rename_i g;let#[w,a,b]:=h.2 j e q;exact#[w,by rw[sr g];exact a,b]
abbrev DK:=D->Gp->ck
abbrev bI:=d9->Gp->DK->ck
abbrev jG:=d9->Gp->(cg->Gp->ck)->ck
abbrev eD:=d9->Gp->(bf D->Gp->ck)->ck
structure jr where
 nx:d9->Gp->ck
 rt:DK
 bk:d9->Gp->ck:=λ_ _=>b8
 ct:d9->Gp->ck:=λ_ _=>b8
abbrev fR:=jr->d9->Gp->ck
def kO(K:eM)(H:Hp)(q:DK)(Q:VK):ck:=∀d g v f,af K f d v->cx K g f->Le H f->q d g->Q v f
def uD6(K:eM)(H:Hp)(q:cg->Gp->ck)(Q:cg->Hp->ck):ck:=∀b g f,cx K g f->Le H f->q b g->Q b f
def uD7(K:eM)(H:Hp)(q:bf D->Gp->ck)(Q:bf V->Hp->ck):ck:=∀h i g f,ah K f h g->cx K i f->Le H f->q h i->Q g f
def nO(K:eM)(H:Hp)(q:d9->Gp->ck)(Q:St->Hp->ck):ck:=∀f i h g,bP K g f h->cx K i g->Le H g->q f i->Q h g
def kO.le{K:eM}{H g:Hp}{q:DK}{Q:VK}(f:kO K H q Q)(l:Le H g):kO K g q Q:=λd G v i r c h=>f d G v i r c (l.u h)
def nO.le{K:eM}{H g:Hp}{q:d9->Gp->ck}{Q:St->Hp->ck}(f:nO K H q Q)(l:Le H g):nO K g q Q:=λd G v i r c h=>f d G v i r c (l.u h)
structure Ap(K:eM)(H:Hp)(d:jr)(D:Ends):Prop where
 nx:nO K H d.nx D.nx
 rt:kO K H d.rt D.rt
 bk:nO K H d.bk D.bk
 ct:nO K H d.ct D.ct
theorem Ap.le{K:eM}{H g:Hp}{d:jr}{D:Ends}(f:Ap K H d D)(l:Le H g):Ap K g d D:=#[f.nx.le l,f.rt.le l,f.bk.le l,f.ct.le l]
inductive aQ(K:eM)(t:bI)(g:St)(H:Hp)(Q:VK):Prop
 | mk (f:d9) (G:Gp) (q:DK) (_:bP K H f g) (_:cx K G H) (_:t f G q) (_:kO K H q Q):aQ K t g H Q
inductive eQ(K:eM)(t:jG)(g:St)(H:Hp)(Q:cg->Hp->Prop):Prop
 | mk (f:d9) (G:Gp) (q:cg->Gp->ck) (_:bP K H f g) (_:cx K G H) (_:t f G q) (_:uD6 K H q Q):eQ K t g H Q
inductive eB(K:eM)(t:eD)(g:St)(H:Hp)(Q:bf V->Hp->Prop):Prop
 | mk (f:d9) (G:Gp) (q:bf D->Gp->ck) (_:bP K H f g) (_:cx K G H) (_:t f G q) (_:uD7 K H q Q):eB K t g H Q
inductive d7(K:eM)(t:fR)(D:Ends)(g:St)(H:Hp):Prop
 | mk (f:d9) (G:Gp) (d:jr) (_:bP K H f g) (_:cx K G H) (_:t d f G) (_:Ap K H d D):d7 K t D g H
abbrev R3:=D->D->Gp->DK->ck
inductive oC(K:eM)(r:R3)(x y:V)(H:Hp)(Q:VK):Prop
 | mk (d e:D) (G:Gp) (q:DK) (_:af K H d x) (_:af K H e y) (_:cx K G H) (_:r d e G q) (_:kO K H q Q):oC K r x y H Q
abbrev U3:=D->Gp->DK->ck
inductive vQ(K:eM)(r:U3)(x:V)(H:Hp)(Q:VK):Prop
 | mk (d:D) (G:Gp) (q:DK) (_:af K H d x) (_:cx K G H) (_:r d G q) (_:kO K H q Q):vQ K r x H Q
abbrev C3:=bf D->Gp->DK->ck
inductive Ds(K:eM)(r:C3)(xs:bf V)(H:Hp)(Q:VK):Prop
 | mk (ds:bf D) (G:Gp) (q:DK) (_:ah K H ds xs) (_:cx K G H) (_:r ds G q) (_:kO K H q Q):Ds K r xs H Q
def fK(i:br):bI:=λf G q=>match f[i]? with|some (du d)=>q d G|_=>b8
def dC(d:D):bI:=λ_ G q=>q d G
def z9(r:R3)(g tb:bI):bI:=λf G q=>g f G λx i=>tb f i λy h=>r x y h q
def Sb(r:U3)(g:bI):bI:=λf G q=>g f G λx h=>r x h q
def iy:eD:=λ_ G q=>q [] G
def jJ(h:bI)(g:eD):eD:=λf G q=>h f G λx j=>g f j λxs i=>q (x::xs) i
def uD(t:eD):bI:=λf G q=>t f G λxs g=>xs.l<=iZ/\q (.tup xs) g
def wz(t:eD):bI:=λg G q=>t g G λxs f=>xs.l<=iZ/\∀p,f p=dv->q (.ref p) (aC f p (.lst xs))
def dB(t:bI):jG:=λf G q=>t f G λx g=>match x with|.bl c=>q c g|_=>b8
def Er(t u:jG):jG:=λf G q=>t f G λc g=>if c=dS then u f g q else q eH g
def BR(t u:jG):jG:=λf G q=>t f G λc g=>if c=dS then q dS g else u f g q
def En(t:jG):jG:=λf G q=>t f G λc g=>q (!c) g
def Uu(h tb:bI):bI:=λf G q=>h f G λx g=>match x with|.bl c=>if c=dS then tb f g q else q (.bl eH) g|_=>b8
def Em(h tb:bI):bI:=λf G q=>h f G λx g=>match x with|.bl c=>if c=dS then q (.bl dS) g else tb f g q|_=>b8
def Uy(g:bI):bI:=λf G q=>g f G λx h=>match x with|.bl c=>q (.bl (!c)) h|_=>b8
def BS(t:jG)(h tb:bI):bI:=λf G q=>t f G λc g=>if c=dS then h f g q else tb f g q
section
variable{K:eM}{σ:St}{H:Hp}{Q:VK}
def wp3(h:aQ K (fK i) σ H Q):CV i σ H Q:=by
 let#[g,G,q,j,c,t,f]:=h;unfold fK at t;split at t
 .rename_i d e;let#[v,k,r]:=j.2 i d e;exact#[v,k,f d G v H r c (Le.j H) t]
 .exact t.n
def EU(r:∀H,af K H d v)(h:aQ K (dC d) σ H Q):tC v σ H Q:=by let#[g,G,q,i,c,t,f]:=h;exact f d G v H (r H) c (Le.j H) t
def Qg(h:aQ K (z9 r l tb) σ H Q):HS (oC K r) (aQ K l) (aQ K tb) σ H Q:=by let#[g,G,q,i,c,t,f]:=h;exact#[g,G,_,i,c,t,λd y v B p c1 k n=>#[g,y,_,i.le k,c1,n,λe x u A o c2 j m=>#[d,e,x,q,af.le j p,o,c2,m,f.le (k.u j)]]]
def xe2(h:aQ K (Sb r i) σ H Q):tUn (vQ K r) (aQ K i) σ H Q:=by let#[g,G,q,k,c,t,f]:=h;exact#[g,G,_,k,c,t,λd n v o l c1 m j=>#[d,n,q,l,c1,j,f.le m]]
def vj4{Q:bf V->Hp->ck}(h:eB K iy σ H Q):zo σ H Q:=by let#[g,G,q,i,c,t,f]:=h;exact f [] G [] H .nil c (Le.j H) t
def vx2{j:bI}{i:eD}{Q:bf V->Hp->ck}(h:eB K (jJ j i) σ H Q):WC (aQ K j) (eB K i) σ H Q:=by let#[g,G,q,k,c,t,f]:=h;exact#[g,G,_,k,c,t,λd B v C u c1 m p=>#[g,B,_,k.le m,c1,p,λx A n y r c2 l o=>f (d::x) A (v::n) y (.cons (af.le l u) r) c2 (m.u l) o]]
def wp5(h:aQ K (uD m) σ H Q):HN (eB K m) σ H Q:=by let#[g,G,q,n,c,t,f]:=h;apply#[g,G,_,n,c,t,λr u l x k c1 o j=>#[by rw[<- k.l];exact j.1,λp i=>?_]];apply f (.tup r) u (.ref p) _ ?_ (c1.side i) (o.u (Le.y i)) j.2;rw[af];exact#[p,l,rfl,eR.of iL,ah.le (Le.y i) k]
def wq0(h:aQ K (wz l) σ H Q):HV (eB K l) σ H Q:=by let#[g,G,q,m,c,t,f]:=h;apply#[g,G,_,m,c,t,λr x o u k c1 n j=>#[by rw[<- k.l];exact j.1,λp i=>?_]];exact f (.ref p) _ (.ref p) _ (by rw[af]) (c1.cY i k) (n.u (Le.y i)) (j.2 p (c1.y i))
def af.cO(h:af K H (.bl c) v):v=.bl c:=by rw[af] at h;exact h
def vx7{t u:jG}{Q:cg->Hp->ck}(h:eQ K (Er t u) σ H Q):Ia (eQ K t) (eQ K u) σ H Q:=by
 let#[g,G,q,k,c,t,f]:=h;apply#[g,G,_,k,c,t,λb p r c1 j i=>?_];cases b with
 | true=>rw[cu rfl] at i⊢;exact#[g,p,q,k.le j,c1,i,λb o n c2 m l=>f b o n c2 (j.u m) l]| false=>rw[cp D1] at i⊢;exact f _ _ _ c1 j i
def wp9{t u:jG}{Q:cg->Hp->ck}(h:eQ K (BR t u) σ H Q):tOr (eQ K t) (eQ K u) σ H Q:=by
 let#[g,G,q,k,c,t,f]:=h;apply#[g,G,_,k,c,t,λb p r c1 j i=>?_];cases b with
 | false=>rw[cp D1] at i⊢;exact#[g,p,q,k.le j,c1,i,λb o n c2 m l=>f b o n c2 (j.u m) l]| true=>rw[cu rfl] at i⊢;exact f _ _ _ c1 j i
def vw4{t:jG}{Q:cg->Hp->ck}(h:eQ K (En t) σ H Q):HU (eQ K t) σ H Q:=by let#[g,G,q,j,c,t,f]:=h;exact#[g,G,_,j,c,t,λb m l c1 k i=>f _ _ _ c1 k i]
def xe4(h:aQ K (BS t m tb) σ H Q):tIf (eQ K t) (aQ K m) (aQ K tb) σ H Q:=by
 let#[g,G,q,k,c,t,f]:=h;apply#[g,G,_,k,c,t,λb l n c1 j i=>?_];cases b with
 | true=>rw[cu rfl] at i⊢;exact#[g,l,q,k.le j,c1,i,f.le j]| false=>rw[cp D1] at i⊢;exact#[g,l,q,k.le j,c1,i,f.le j]
end
def Ux:fR:=λE f G=>E.nx f G
def Go(k:d9->Gp->ck)(f:d9)(G:Gp):ck:=k f G
def fo(t u:fR):fR:=λE f G=>t { E with nx:=Go (u E)} f G
def Cz(te:bI):fR:=λE f G=>te f G λ_ g=>E.nx f g
def kH(te:bI):fR:=λE f G=>te f G E.rt
def UA:fR:=λE _ G=>E.rt .non G
def uE(c:jG)(t u:fR):fR:=λE f G=>c f G λb g=>if b=dS then t E f g else u E f g
abbrev qO:=D->d9->Gp->(d9->Gp->ck)->ck
abbrev sC:=bf D->d9->Gp->(d9->Gp->ck)->ck
inductive lowG(K:eM)(t:qO)(v:V)(g:St)(H:Hp)(Q:St->Hp->Prop):Prop
 | mk (d:D) (f:d9) (G:Gp) (q:d9->Gp->ck) (_:af K H d v) (_:bP K H f g) (_:cx K G H) (_:t d f G q) (_:nO K H q Q):lowG K t v g H Q
inductive oE(K:eM)(t:sC)(vs:bf V)(g:St)(H:Hp)(Q:St->Hp->Prop):Prop
 | mk (ds:bf D) (f:d9) (G:Gp) (q:d9->Gp->ck) (_:ah K H ds vs) (_:bP K H f g) (_:cx K G H) (_:t ds f G q) (_:nO K H q Q):oE K t vs g H Q
def sH(i:br):qO:=λd f G q=>q (f.I i (du d)) G
def Dw:sC:=λg f G q=>g=[]/\q f G
def UH(t:qO)(u:sC):sC:=λh g G q=>match h with|d::r=>t d g G λf i=>u r f i q|[]=>b8
abbrev tu:=D->D->D->Gp->(Gp->ck)->ck
inductive nz(K:eM)(t:tu)(o i v:V)(H:Hp)(Q:Hp->Prop):Prop
 | mk (d e x:D) (G:Gp) (q:Gp->ck) (_:af K H d o) (_:af K H e i) (_:af K H x v) (_:cx K G H) (_:t d e x G q) (_:∀g f,cx K g f->Le H f->q g->Q f):nz K t o i v H Q
def Dv(to g:bI)(t:tu):qO:=λd f G q=>to f G λo k=>g f k λi j=>t o i d j λh=>q f h
def i9(te:bI)(g:qO):fR:=λE f G=>te f G λx h=>g x f h E.nx
section
variable{K:eM}{σ:St}{H:Hp}{E:Ends}
def vw5(h:d7 K Ux E σ H):wx9 E σ H:=by let#[g,G,d,i,c,t,f]:=h;exact f.nx _ _ _ _ i c (Le.j H) t
def wp6(h:d7 K (fo t u) E σ H):HP (d7 K t) (d7 K u) E σ H:=by let#[i,G,d,l,c,t,f]:=h;exact#[i,G,_,l,c,t,λg p j q o n m k=>#[g,p,d,o,n,k,f.le m],f.rt,f.bk,f.ct]
def vx1(h:d7 K (Cz te) E σ H):wy3 (aQ K te) E σ H:=by let#[g,G,d,i,c,t,f]:=h;exact#[g,G,_,i,c,t,λx n v m l c1 j k=>f.nx _ _ _ _ (i.le j) c1 j k]
def wp7(h:d7 K (kH te) E σ H):HQ (aQ K te) E σ H:=by let#[g,G,d,i,c,t,f]:=h;exact#[g,G,_,i,c,t,f.rt]
def vw0(h:d7 K UA E σ H):wx6 E σ H:=by let#[g,G,d,i,c,t,f]:=h;exact f.rt .non _ .non _ (by rw[af]) c (Le.j H) t
def wq1(h:d7 K (uE tc t u) E σ H):HW (eQ K tc) (d7 K t) (d7 K u) E σ H:=by
 let#[g,G,d,k,c,t,f]:=h;apply#[g,G,_,k,c,t,λb l m c1 j i=>?_];cases b with
 | true=>rw[cu rfl] at i⊢;exact#[g,l,d,k.le j,c1,i,f.le j]| false=>rw[cp D1] at i⊢;exact#[g,l,d,k.le j,c1,i,f.le j]
def vj5(h:lowG K (sH i) v σ H Q):UG i v σ H Q:=by let#[d,g,G,q,r,j,c,t,f]:=h;exact f _ _ _ _ (j.I i r) c (Le.j H) t
def vw8(h:oE K Dw vs σ H Q):LG vs σ H Q:=by let#[j,g,G,q,r,i,c,#[e,t],f]:=h;subst e;exact#[r.aX,f _ _ _ _ i c (Le.j H) t]
def vj6(h:oE K (UH t u) vs σ H Q):xh2 (lowG K t) (oE K u) vs σ H Q:=by
 let#[j,i,G,q,r,n,c,t,f]:=h;cases j with
 | nil=>exact t.n| cons d j =>let#[x,xs,rfl,p,o]:=r.aq;exact#[x,xs,rfl,d,i,G,_,p,n,c,t,λg B l C A y k m=>#[j,g,B,q,ah.le k o,A,y,m,f.le k]]
def vw7(h:lowG K (Dv to n t) v σ H Q):LF (aQ K to) (aQ K n) (nz K t) v σ H Q:=by
 let#[d,g,G,q,r,l,c,t,f]:=h;exact#[g,G,_,l,c,t,λo I J O A c1 k x=>#[g,I,_,l.le k,c1,x,λi C L N y c2 j u=>#[o,i,d,C,_,af.le j A,y,af.le (k.u j) r,c2,u,λR M B m p =>
  f _ _ _ _ (l.le (k.u (j.u m))) B (k.u (j.u m)) p]]]
def wq6(h:d7 K (i9 te g) E σ H):CW (aQ K te) (lowG K g) E σ H:=by let#[i,G,d,j,c,t,f]:=h;exact#[i,G,_,j,c,t,λx n v o m c1 k l=>#[x,i,n,_,m,j.le k,c1,l,f.nx.le k]]
end
def Cs(c:jG)(tb:fR)(E:jr):br->d9->Gp->ck
 | 0,_,_=>b8| n+1,f,G=>c f G λb g=>if b=dS then tb { E with nx:=Cs c tb E n,ct:=Cs c tb E n,bk:=E.nx} f g else E.nx f g
def WT(c:jG)(tb:fR):fR:=λE f G=>∃n,Cs c tb E n f G
def vi9(h:d7 K (WT c tb) E N H):w18 (eQ K c) (d7 K tb) E N H:=by
 let#[u,G,d,O,Q,#[n,t],f]:=h;apply#[λm j l=>∃g q,Le H l/\bP K l g j/\cx K q l/\Cs c tb d m g q,#[n,u,G,Le.j H,O,Q,t],?_];intro m M Y #[k,U,p,C,c1,L];cases m with
 | zero=>exact L.n| succ m =>
  apply#[k,U,_,C,c1,L,λb S X c2 o r=>?_];cases b with
  | true =>
   rw[cu rfl] at r⊢;apply#[λj l=>∃g q,Le H l/\bP K l g j/\cx K q l/\Cs c tb d m g q,λj l w=>#[m,T9 m,w],k,S,_,C.le o,c2,r,?_,?_,?_,?_]
   .exact λi J x R I B A y=>#[i,J,p.u (o.u A),I,B,y]
   .exact f.rt.le (p.u o)
   .exact f.nx.le (p.u o)
   .exact λi J x R I B A y=>#[i,J,p.u (o.u A),I,B,y]
  | false =>rw[cp D1] at r⊢;exact f.nx _ _ _ _ (C.le o) c2 (p.u o) r
structure IT where
 items:bf D
 ok:Gp->ck
structure jq(K:eM)(H0:Hp)(it:IT)(J:It):Prop where
 go:∀(i:br) G H,Le H0 H->cx K G H->it.ok G->i<it.items.l->J.go i H
 stop:∀(i:br) G H,Le H0 H->cx K G H->it.ok G->it.items.l<=i->J.stop i H
 qS:∀(i:br) G H x H',Le H0 H->cx K G H->it.ok G->i<it.items.l->J.qS i H x H'->cx K G H'/\Le H H'/\∃d,it.items[i]?=du d/\af K H' d x
abbrev uH:=d9->Gp->(IT->Gp->ck)->ck
inductive nA(K:eM)(t:uH)(h:St)(H:Hp)(R:It->Hp->Prop):Prop
 | mk (f:d9) (G:Gp) (r:IT->Gp->ck) (_:bP K H f h) (_:cx K G H) (_:t f G r) (_:∀it J i g,jq K g it J->cx K i g->Le H g->r it i->R J g):nA K t h H R
def forL(ok:Gp->ck)(g:qO)(tb:fR)(E:jr):bf D->d9->Gp->ck
 | [],h,G=>ok G/\E.nx h G| x::r,h,G=>ok G/\g x h G λf i=>tb { E with nx:=forL ok g tb E r,ct:=forL ok g tb E r,bk:=E.nx} f i
def wA(h:uH)(g:qO)(tb:fR):fR:=λE f G=>h f G λit i=>forL it.ok g tb E it.items f i
def wq2(h:d7 K (wA wi g tb) E σ H):HX (nA K wi) (lowG K g) (d7 K tb) E σ H:=by
 let#[u,G,d,Q,cc,t,f]:=h;apply#[u,G,_,Q,cc,t,λit J G1 C ir c1 B t1=>?_];apply#[λi m k l=>∃j n,Le C l/\bP K l j k/\cx K n l/\i+m=it.items.l/\forL it.ok g tb d (it.items.G i) j n,#[it.items.l,u,G1,Le.j _,Q.le B,c1,(),by rw[t6];exact t1],?_];rintro i m σ2 M ⟨r,I,A,O,c2,e2,o⟩;by_cases hi:i<it.items.l
 .rw[O7 hi] at o;let#[U,o]:=o;apply .inr #[ir.go i I M A c2 U hi,λk l=>∃j n,Le C l/\bP K l j k/\cx K n l/\forL it.ok g tb d (it.items.G (i+1)) j n,?_,?_]
  .intro k l #[j,n,a1,a2,a3,a4];exact#[m-1,(),j,n,a1,a2,a3,(),a4]
  .intro x H3 y;let#[c3,R,e,S,r3]:=ir.qS i I M x H3 A c2 U hi y;rw[B6 hi] at S;cases S;apply#[_,r,I,_,r3,O.le R,c3,o,λq G4 Z X FH c4 l4 t4=>?_];let N:Le C X:=A.u (R.u l4);let key:nO K X (forL it.ok g tb d (it.items.G (i+1))) (λk l=>∃j n,Le C l/\bP K l j k/\cx K n l/\forL it.ok g tb d (it.items.G (i+1)) j n):=
    λp G5 Y H5 L c5 l5 t5=>#[p,G5,N.u l5,L,c5,t5]
   exact#[q,G4,_,FH,c4,t4,key,f.rt.le (B.u N),f.nx.le (B.u N),key]
 .rw[V5 ()] at o;exact .inl #[ir.stop i I M A c2 o.1 (),f.nx _ _ _ _ O c2 (B.u A) o.2]
def ah.at_{K:eM}{H:Hp}{ds:bf D}{xs:bf V}{i:br}{x:V}(h:ah K H ds xs)(e:xs[i]?=du x):∃d,ds[i]?=du d/\af K H d x:=by
 let g:i<ds.l:=by rw[h.l];exact(N1.mp e).1
 let#[y,f,r]:=h.get (B6 g);rw[e] at f;cases f;exact#[_,B6 g,r]
def vk8{K:eM}{f:Hp}{a:fy}{ds:bf D}{xs:bf V}(s:eR K f a xs)(r:ah K f ds xs):jq K f #[ds,λ_=>dm] (BP K a) where
 go:=λi G H l c _ hi=>#[xs,xs[i]'(by rw[<- r.l];exact hi),l.Ic s,B6 _]
 stop:=λi G H l c _ hi=>#[xs,l.Ic s,by rw[<- r.l];exact hi]
 qS:=λi G H x k l c _ hi y=>by let#[e,y]:=y;subst e;let g:=y xs (l.Ic s);let#[d,h,rd]:=(ah.le l r).at_ g;exact#[c,Le.j _,d,h,rd]
def bt:b0 DO->b0 (bf D)
 | some (.lst xs)=>du xs| some (.uB xs)=>du xs| _=>dv
def ft(c:cx K G H)(h:bt (G a)=du ds):∃xs,fb K H a xs/\ah K H ds xs:=by
 cases e:G a with
 | none=>rw[e] at h;cases h
 | some o =>
  rw[e] at h;let q:=c a o e;cases o with
  | lst xs=>cases h;let#[f,q,r]:=q;exact#[f,.inl (.inl q),r]
  | uB xs=>cases h;let#[o,f,q,r]:=q;exact#[f,.inl (.inr #[o,q]),r]
  | bR _=>cases h
  | LL _=>cases h
  | sZ _=>cases h
  | ins _ _=>cases h
  | exc _ _=>cases h
  | sf _ _=>cases h
  | tb _ _=>cases h
def v99{K:eM}{g:Hp}{a:fy}{ds:bf D}:jq K g #[ds,λG=>bt (G a)=du ds] (BO K a) where
 go:=λi G H l c ok hi=>by let#[xs,s,r]:=ft c ok;exact#[xs,xs[i]'(by rw[<- r.l];exact hi),s,B6 _]
 stop:=λi G H l c ok hi=>by let#[xs,s,r]:=ft c ok;exact#[xs,s,by rw[<- r.l];exact hi]
 qS:=λi G H x j l c ok hi y=>by let#[e,y]:=y;subst e;let#[xs,s,r]:=ft c ok;let#[d,f,rd]:=r.at_ (y xs s);exact#[c,Le.j _,d,f,rd]
def bW(lo:bz)(n:br):bf D:=(D3 n).t λ(i:br)=>.int (lo+i)
def ul2:jq K g #[bW lo n,λ_=>dm] (Mh lo n) where
 go:=λi G H l c _ hi=>by
  let:i<n:=by simpa[bW] using hi
  exact this
 stop:=λi G H l c _ hi=>by
  let:n<=i:=by simpa[bW] using hi
  exact this
 qS:=λi G H x h l c _ hi y=>by
  let#[e,y]:=y;subst e;subst y;apply#[c,Le.j _,.int (lo+i),?_,by rw[af]];let:i<n:=by simpa[bW] using hi
  simp[bW,this]
abbrev fS:=bf D->Gp->DK->ck
inductive cU(K:eM)(S:fS)(vs:bf V)(H:Hp)(Q:VK)(X:XK):Prop
 | mk (ds:bf D) (G:Gp) (R:DK) (_:ah K H ds vs) (_:cx K G H) (_:S ds G R) (_:kO K H R Q):cU K S vs H Q X
def jo(S:fS)(h:bf D)(t:eD):bI:=λg G q=>t g G λi j=>∃R,S (i++h) j R/\∀d f,R d f->q d f
def ye(C:fy)(m:gq)(S:fS)(j:bf D)(i:bI)(t:eD):bI:=λf G q=>i f G λx g=>match x with
 | .ref a=>(match g a with
  | some (.ins o k)=>o=C/\k.q m=dv/\t f g λl n=>∃R,S (.ref a::(l++j)) n R/\∀d h,R d h->q d h| _=>b8)
 | _=>b8
def GV(C:fy)(S:fS)(i:bf D)(t:eD):bI:=λh G q=>t h G λj f=>∀x,f x=dv ->
 ∃R,S (.ref x::(j++i)) (aC f x (.ins C [])) R/\∀d g,R d g->d=.non/\q (.ref x) g
def putD(f:gq)(v:D):bf (gq×D)->bf (gq×D)
 | []=>[(f,v)]| (g,u)::r=>if g=f then(g,v)::r else(g,u)::putD f v r
def Eo(C:fy)(i:bI)(f:gq):bI:=λh G q=>i h G λx g=>match x with
 | .ref a=>(match g a with
  | some (.ins k j)=>k=C/\(match j.q f with|some d=>q d g|none=>b8)
  | _=>b8)
 | _=>b8
def UB(C:fy)(k j:bI)(f:gq):fR:=λE g G=>j g G λy l=>k g l λx i=>match x with
 | .ref a=>(match i a with
  | some (.ins m h)=>m=C/\h.l<1000/\E.nx g (aC i a (.ins C (putD f y h)))| _=>b8)
 | _=>b8
def Uv(C:fy)(l k:bI)(r:R3)(f:gq):fR:=λE g G=>l g G λx j=>match x with
 | .ref a=>(match j a with
  | some (.ins p m)=>p=C/\(match m.q f with
   | some d=>k g j λy o=>r d y o λz i=>(match i a with
    | some (.ins n h)=>n=C/\h.l<1000/\E.nx g (aC i a (.ins C (putD f z h)))| _=>b8)
   | none=>b8)
  | _=>b8)
 | _=>b8
section
variable{K:eM}{σ:St}{H:Hp}{Q:VK}{E:Ends}
def vx3(x:∀H,ah K H p fk)(h:aQ K (jo S p t) σ H Q):wy8 (cU K S) fk XE (eB K t) σ H Q:=by let#[g,G,q,m,c,t,f]:=h;exact#[g,G,_,m,c,t,λI B C A o c1 u ⟨R,l,k⟩=>#[_,B,R,o.fj (x A),c1,l,λd i v y n c2 r j=>f d i v y n c2 (u.u r) (k d i j)]]
def af.fG:af K H (.ref a) (.ref a):=by rw[af]
def af.ao{a:fy}{v:V}(h:af K H (.ref a) v):v=.ref a:=by rw[af] at h;exact h
theorem aG.lookup_none{κ:Type}[BEq κ]{k:κ}:∀{ps:bf (κ×D)} {qs:bf (κ×V)},aG K H ps qs->ps.q k=dv->qs.q k=dv
 | [],qs,h,_=>by
  cases qs with
  | nil=>rfl| cons _ _=>let:=h.1;simp at this
 | (g,d)::ps,qs,h,e=>by
  cases qs with
  | nil=>let:=h.1;simp at this| cons q qs =>
   let#[m,v]:=q;let f:=h.1;simp only[C1,W6] at f;let#[rfl,f]:=f;let#[x,r,l,_,j]:=(show ah K H (d::ps.t (·.2)) (v::qs.t (·.2)) from h.2).aq;cases l;rw[J0] at e⊢;cases i:k==g with
   | true=>rw[i] at e;cases e
   | false=>rw[i] at e;exact aG.lookup_none #[f,j] e
theorem aG.lookup{κ:Type}[BEq κ]{k:κ}{d:D}:∀{ps:bf (κ×D)} {qs:bf (κ×V)},aG K H ps qs->ps.q k=du d->∃v,qs.q k=du v/\af K H d v
 | [],qs,h,e=>by cases e
 | (g,n)::ps,qs,h,e=>by
  cases qs with
  | nil=>let:=h.1;simp at this| cons q qs =>
   let#[o,v]:=q;let f:=h.1;simp only[C1,W6] at f;let#[rfl,f]:=f;let#[x,r,m,j,l]:=(show ah K H (n::ps.t (·.2)) (v::qs.t (·.2)) from h.2).aq;cases m;rw[J0] at e⊢;cases i:k==g with
   | true=>rw[i] at e;cases e;exact#[v,rfl,j]
   | false=>rw[i] at e;exact aG.q #[f,l] e
theorem aG.nil{κ:Type}:aG (κ:=κ) K H [] []:=#[rfl,.nil]
theorem aG.cons{κ:Type}{k:κ}{d:D}{v:V}{ps:bf (κ×D)}{qs:bf (κ×V)}(r:af K H d v)(h:aG K H ps qs):aG K H ((k,d)::ps) ((k,v)::qs):=#[by simp[h.1],.cons r h.2]
theorem aG.aq{κ:Type}{k:κ}{d:D}{ps:bf (κ×D)}{qs:bf (κ×V)}(h:aG K H ((k,d)::ps) qs):∃v r,qs=(k,v)::r/\af K H d v/\aG K H ps r:=by
 cases qs with
 | nil=>let:=h.1;simp at this| cons q qs =>let#[l,v]:=q;let f:=h.1;simp only[C1,W6] at f;let#[rfl,f]:=f;let#[x,r,j,g,i]:=(show ah K H (d::ps.t (·.2)) (v::qs.t (·.2)) from h.2).aq;cases j;exact#[v,qs,rfl,g,f,i]
def aG.aX{κ:Type}{qs:bf (κ×V)}(h:aG K H [] qs):qs=[]:=by
 cases qs with
 | nil=>rfl| cons _ _=>let:=h.1;simp at this
theorem aG.dg{f:gq}{d:D}{v:V}(r:af K H d v):∀{ps:bf (gq×D)} {qs:bf (gq×V)},aG K H ps qs->aG K H (putD f d ps) (L2.dg f v qs)
 | [],qs,h=>by rw[h.aX];exact aG.cons r aG.nil| (g,l)::ps,qs,h=>by
  let#[u,i,rfl,k,j]:=h.aq;show aG K H (if g=f then(g,d)::ps else(g,l)::putD f d ps) (if g=f then(g,v)::i else(g,u)::L2.dg f v i);split
  .exact aG.cons r j
  .exact aG.cons k (aG.dg r j)
theorem aG.length{κ:Type}{ps:bf (κ×D)}{qs:bf (κ×V)}(h:aG K H ps qs):ps.l=qs.l:=by let:=h.2.l;simpa using this
def v53(O:∀H,ah K H M fk)(h:aQ K (ye C m S M u t) σ H Q):WE C m (cU K S) fk XE (aQ K u) (eB K t) σ H Q:=by
 let#[i,G,q,j,c,t,f]:=h;apply#[i,G,_,j,c,t,λx G1 v H1 k c1 o g=>?_];split at g
 .rename_i a;split at g
  .rename_i C' fs e;let#[rfl,n,g]:=g;let#[X,r,U,I]:=c1 _ _ e;apply#[a,X,r,k.ao,U,I.lookup_none n,i,G1,_,j.le o,c1,g,λds G2 vs H2 L c2 l ⟨R,B,A⟩=>?_];exact#[_,G2,R,.cons (af.le l k) (L.fj (O H2)),c2,B,λd p v Z J Y N y=>f d p v Z J Y (o.u (l.u N)) (A d p y)]
  .exact g.n
 .exact g.n
def cx.Dy(c:cx K G H)(h:H x=dv)(h':H f=dv)(ne:f≠x):cx K (aC G x (.ins C [])) (l6 (l6 H f (.own x)) x (.ins C f []))/\Le H (l6 (l6 H f (.own x)) x (.ins C f [])):=by
 let c1:=c.side (u:=.own x) h';let g:l6 H f (.own x) x=dv:=by rw[dj (E1 ne)];exact h
 exact#[c1.put (Le.y g) #[f,[],iL,aG.nil],(Le.y h').u (Le.y g)]
def vw6(I:∀H,ah K H y fk)(h:aQ K (GV C S y t) σ H Q):wy1 C (cU K S) fk XE (eB K t) σ H Q:=by let#[g,G,q,r,c,t,f]:=h;apply#[g,G,_,r,c,t,λO Y M X u c1 B i x N m j ne=>?_];let#[R,p,i]:=i x (c1.y m);let#[c2,l]:=c1.Dy (C:=C) m j ne;apply#[_,_,R,.cons af.fG ((ah.le l u).fj (I _)),c2,p,λd L v U k J A o=>?_];let#[rfl,n]:=i d L o;exact#[by rw[af] at k;exact k,f _ _ _ _ af.fG J (B.u (l.u A)) n]
def wq3{C:fy}{j:bI}{f:gq}(J:kP K C)(o:bO K C f)(h:aQ K (Eo C j f) σ H Q):HY K (aQ K j) f σ H Q:=by
 let#[i,G,q,l,c,t,u]:=h;apply#[i,G,_,l,c,t,λx M v L n c1 r g=>?_];split at g
 .rename_i a;split at g
  .rename_i O N e;let#[rfl,g]:=g;let#[I,k,B,m]:=c1 _ _ e;split at g
   .rename_i d A;let#[w,y,p]:=m.q A;exact#[a,_,I,k,w,n.ao,B,J,o,y,u d M w L p c1 r g]
   .exact g.n
  .exact g.n
 .exact g.n
def vv9{C:fy}{u r:bI}{f:gq}(S:kP K C)(M:bO K C f)(h:d7 K (UB C u r f) E σ H):Ii K (aQ K u) (aQ K r) f E σ H:=by
 let#[i,G,d,l,c,t,O]:=h;apply#[i,G,_,l,c,t,λy U v Z L c1 n I=>#[i,U,_,l.le n,c1,I,λx G2 w Y J c2 m g=>?_]];split at g
 .rename_i a;split at g
  .rename_i q R e;let#[rfl,N,g]:=g;let#[p,k,B,A]:=c2 _ _ e;apply#[a,_,p,k,J.ao,B,S,M,by rw[<- A.l];exact N,?_];let j:=Le.ins (C':=q) (wq:=p) (ys:=L2.dg f v k) B;exact O.nx _ _ _ _ (l.le (n.u (m.u j))) (c2.put (o:=.ins q (putD f y R)) j #[p,_,iL,aG.le j (A.dg (af.le m L))]) (n.u (m.u j)) g
  .exact g.n
 .exact g.n
def vx5{C:fy}{A q:bI}{r:R3}{f:gq}(cl:kP K C)(na:bO K C f)(h:d7 K (Uv C A q r f) E σ H):ve5 K (aQ K A) (aQ K q) (oC K r) f E σ H:=by
 let#[i,G,d,m,c,t,fu]:=h;apply#[i,G,_,m,c,t,λx G1 v H1 Z c1 I g=>?_];split at g
 .rename_i a;split at g
  .rename_i C' fs e;let#[rfl,g]:=g;let#[dx,p,e2,U]:=c1 _ _ e;split at g
   .rename_i d0 el;let#[w,ew,lj]:=U.q el;apply#[a,_,dx,p,w,Z.ao,e2,cl,na,ew,i,G1,_,m.le I,c1,g,λy G2 u H2 Y c2 B S=>?_];apply#[d0,y,G2,_,af.le B lj,Y,c2,S,λz G3 R H3 X L l3 j=>?_];split at j
    .rename_i M jV e';let#[rfl,hl,j]:=j;let#[l,O,J,k]:=L _ _ e';apply#[l,O,J,by rw[<- k.l];exact hl,?_];let n:=Le.ins (C':=M) (wq:=l) (ys:=L2.dg f R O) J;let N:=I.u (B.u (l3.u n));exact fu.nx _ _ _ _ (m.le N) (L.put (o:=.ins M (putD f z jV)) n #[l,_,iL,aG.le n (k.dg X)]) N j
    .exact j.n
   .exact g.n
  .exact g.n
 .exact g.n
def xr0{te:bI}{Q:cg->Hp->ck}(h:eQ K (dB te) σ H Q):tB (aQ K te) σ H Q:=by
 let#[g,G,q,j,c,t,f]:=h;apply#[g,G,_,j,c,t,λx o v n l c1 m i=>?_];split at i
 .rename_i k;exact#[k,l.cO,f _ _ _ c1 m i]
 .exact i.n
def vx6(h:aQ K (Uu m tb) σ H Q):wz0 (aQ K m) (aQ K tb) σ H Q:=by
 let#[i,G,q,l,c,t,f]:=h;apply#[i,G,_,l,c,t,λx o v p n c1 j g=>?_];split at g
 .rename_i k;apply#[k,n.cO,?_];cases k with
  | true=>rw[cu rfl] at g⊢;exact#[i,o,q,l.le j,c1,g,f.le j]| false=>rw[cp D1] at g⊢;exact f _ _ _ _ (by rw[af]) c1 j g
 .exact g.n
def wp8(h:aQ K (Em m tb) σ H Q):HR (aQ K m) (aQ K tb) σ H Q:=by
 let#[i,G,q,l,c,t,f]:=h;apply#[i,G,_,l,c,t,λx o v p n c1 j g=>?_];split at g
 .rename_i k;apply#[k,n.cO,?_];cases k with
  | false=>rw[cp D1] at g⊢;exact#[i,o,q,l.le j,c1,g,f.le j]| true=>rw[cu rfl] at g⊢;exact f _ _ _ _ (by rw[af]) c1 j g
 .exact g.n
def vw3(h:aQ K (Uy j) σ H Q):wx8 (aQ K j) σ H Q:=by
 let#[g,G,q,l,c,t,f]:=h;apply#[g,G,_,l,c,t,λx p v o m c1 n i=>?_];split at i
 .rename_i k;exact#[k,m.cO,f _ _ _ _ (by rw[af]) c1 n i]
 .exact i.n
def z_(i:br)(te:bI)(r:R3):fR:=λE σ G=>match σ[i]? with
 | some (du x)=>te σ G λy g=>r x y g λz f=>E.nx (σ.set i (du z)) f| _=>b8
def wq5(h:d7 K (z_ i te r) E σ H):H_ i (aQ K te) (oC K r) E σ H:=by
 let#[f,G,d,g,c,t,A]:=h;unfold z_ at t;split at t
 .rename_i x e;let#[v,q,p]:=g.2 i x e;apply#[v,q,f,G,_,g,c,t,λy B u J o c1 j m=>?_];exact#[x,y,B,_,af.le j p,o,c1,m,λz L C I n c2 k l=>A.nx _ _ _ _ ((g.le (j.u k)).I i n) c2 (j.u k) l]
 .exact t.n
abbrev Gq:=d9->Gp->(b0 bz->Gp->ck)->ck
inductive rS(K:eM)(t:Gq)(σ:St)(H:Hp)(Q:b0 bz->Hp->Prop):Prop
 | mk (f:d9) (G:Gp) (q:b0 bz->Gp->ck) (_:bP K H f σ) (_:cx K G H) (_:t f G q) (_:∀o h g,cx K h g->Le H g->q o h->Q o g):rS K t σ H Q
def Xz:Gq:=λ_ G q=>q dv G
def PJ(t:bI):Gq:=λσ G q=>t σ G λx f=>match x with|.int i=>q (du i) f|_=>b8
def v95{Q:b0 bz->Hp->ck}(h:rS K Xz σ H Q):vd1 σ H Q:=by let#[g,G,q,i,c,t,f]:=h;exact f _ _ _ c (Le.j H) t
def vw2{t:bI}{Q:b0 bz->Hp->ck}(h:rS K (PJ t) σ H Q):wx7 (aQ K t) σ H Q:=by
 let#[g,G,q,l,c,t,f]:=h;apply#[g,G,_,l,c,t,λx o v n j c1 m i=>?_];split at i
 .rename_i k;rw[af] at j;exact#[k,j,f _ _ _ c1 m i]
 .exact i.n
abbrev Me:=D->b0 bz->b0 bz->Gp->DK->ck
inductive oB(K:eM)(r:Me)(x:V)(l u:b0 bz)(H:Hp)(Q:VK):Prop
 | mk (d:D) (G:Gp) (q:DK) (_:af K H d x) (_:cx K G H) (_:r d l u G q) (_:kO K H q Q):oB K r x l u H Q
def Sd(r:Me)(te:bI)(f g:Gq):bI:=λσ G q=>te σ G λx j=>f σ j λl i=>g σ i λu h=>r x l u h q
def xe3(h:aQ K (Sd r te m n) σ H Q):tSl (oB K r) (aQ K te) (rS K m) (rS K n) σ H Q:=by
 let#[g,G,q,i,c,t,f]:=h;exact#[g,G,_,i,c,t,λx L v O B c1 k A=>#[g,L,_,i.le k,c1,A,λo J N c2 j y=>#[g,J,_,i.le (k.u j),c2,y,λu I M C l p =>
  #[x,I,q,af.le (j.u l) B,C,p,f.le (k.u (j.u l))]]]]
def Se(r:C3)(t:eD):bI:=λσ G q=>t σ G λf g=>r f g q
def w76(h:aQ K (Se r t) σ H Q):YI (Ds K r) (eB K t) σ H Q:=by let#[g,G,q,j,c,t,f]:=h;exact#[g,G,_,j,c,t,λm n o p k c1 l i=>#[m,n,q,k,c1,i,f.le l]]
abbrev M3:=D->bf D->Gp->DK->ck
inductive rT(K:eM)(r:M3)(x:V)(xs:bf V)(H:Hp)(Q:VK):Prop
 | mk (d:D) (ds:bf D) (G:Gp) (q:DK) (_:af K H d x) (_:ah K H ds xs) (_:cx K G H) (_:r d ds G q) (_:kO K H q Q):rT K r x xs H Q
def lP(G:Gp)(T:String):D->ck
 | .str _=>T = "str"| .int _=>T = "int"| .ref a=>match G a with
  | some (.lst _)=>T = "list"| some (.uB _)=>T = "list"| some (.bR _)=>T = "dict"| _=>b8
 | _=>b8
def Gi(T:String)(r:M3)(to:bI)(t:eD):bI:=λσ G q=>to σ G λx f=>lP f T x/\t σ f λg h=>r x g h q
def Ep(T:String)(r:M3)(to:bI):bI:=λσ G q=>to σ G λx f=>lP f T x/\r x [] f q
def WZ(ty:∀G H x v,cx K G H->af K H x v->lP G T x->CT K T v H)(h:aQ K (Gi T r to t) σ H Q):tBM K T (rT K r) (aQ K to) (eB K t) σ H Q:=by let#[g,G,q,i,c,t,f]:=h;exact#[g,G,_,i,c,t,λx m v A j c1 l ⟨y,o⟩=>#[ty m A x v c1 j y,g,m,_,i.le l,c1,o,λu B C I p c2 k n=>#[x,u,B,q,af.le k j,p,c2,n,f.le (l.u k)]]]
def wq4(ty:∀G H x v,cx K G H->af K H x v->lP G T x->CT K T v H)(h:aQ K (Ep T r to) σ H Q):HZ K T (rT K r) (aQ K to) σ H Q:=by let#[g,G,q,l,c,t,f]:=h;exact#[g,G,_,l,c,t,λx j v n i c1 m ⟨y,k⟩=>#[ty j n x v c1 i y,x,[],j,q,i,.nil,c1,k,f.le m]]
end
end L3
namespace L3
open PySem PySem.Spec PyProof.Rows L2
section
variable{X:Cx}
def dW(h:PE X e t)(w:∀f H Q,t' f H Q->t f H Q):PE X e t':=λkI s f H Q I q=>h kI s f H Q I (w _ _ _ q)
def WJ(h:PT X e t)(w:∀f H Q,t' f H Q->t f H Q):PT X e t':=λkI s f H Q I q=>h kI s f H Q I (w _ _ _ q)
def ww5(h:PW X e t)(w:∀f H Q,t' f H Q->t f H Q):PW X e t':=λg kI s f H Q I q=>h g kI s f H Q I (w _ _ _ q)
def ww8(h:PA X e t)(w:∀f H Q,t' f H Q->t f H Q):PA X e t':=λpos kI s f H Q I q=>h pos kI s f H Q I (w _ _ _ q)
def qV(h:PS X e t)(w:∀D f H,t' D f H->t D f H):PS X e t':=λkI s f H D I q=>h kI s f H D I (w _ _ _ q)
def w08(h:qQ X e t)(w:∀D f H,t' D f H->t D f H):qQ X e t':=λkI s f H D I q=>h kI s f H D I (w _ _ _ q)
def WI(h:PG X e t)(w:∀v f H Q,t' v f H Q->t v f H Q):PG X e t':=λkI s f H v u Q I r q=>h kI s f H v u Q I r (w _ _ _ _ q)
def w12(h:BD X e t)(w:∀v f H Q,t' v f H Q->t v f H Q):BD X e t':=λkI s f H v u Q I r q=>h kI s f H v u Q I r (w _ _ _ _ q)
def wa5(h:uK X t)(w:∀o i v H Q,t' o i v H Q->t o i v H Q):uK X t':=λkI s f H o i v l m u Q I k j g q=>h kI s f H o i v l m u Q I k j g (w _ _ _ _ _ q)
def CD(h:PI X tg e t)(w:∀f H R,t' f H R->t f H R):PI X tg e t':=λkI s f H R I q=>h kI s f H R I (w _ _ _ q)
def uc(h:dM X f r)(w:∀x y H Q,r' x y H Q->r x y H Q):dM X f r':=λkI s g H x y v u Q I a b q=>h kI s g H x y v u Q I a b (w _ _ _ _ q)
def w07(h:Ag X f r)(w:∀x H Q,r' x H Q->r x H Q):Ag X f r':=λkI s g H x v Q I a q=>h kI s g H x v Q I a (w _ _ _ q)
def nR(h:bK X f r)(w:∀x H Q,r' x H Q->r x H Q):bK X f r':=λkI s g H x v Q I a q=>h kI s g H x v Q I a (w _ _ _ q)
def Qo{id:String}{r r':V->bf V->Hp->VK->ck}(h:Al X id r)(w:∀x xs H Q,r' x xs H Q->r x xs H Q):Al X id r':=λkI s f H x xs v g Q I a b q=>h kI s f H x xs v g Q I a b (w _ _ _ _ q)
def ww7(h:uM X r)(w:∀x y H Q,r' x y H Q->r x y H Q):uM X r':=λg i kI s f H x y v u Q I a b q=>h g i kI s f H x y v u Q I a b (w _ _ _ _ q)
def w09(h:uJ X r)(w:∀x l u H Q,r' x l u H Q->r x l u H Q):uJ X r':=by
 intro kI s f H x lo hi
 intros
 apply h <;> first|assumption|(apply w;assumption)
def ww6(h:PO X e t)(w:∀f H Q,t' f H Q->t f H Q):PO X e t':=by intro kI s f H Q I q;exact h kI s f H Q I (w _ _ _ q)
def wa6(h:nN X e t)(w:∀f H Q,t' f H Q->t f H Q):nN X e t':=λkI s f H Q I q=>h kI s f H Q I (w _ _ _ q)
end
def E3(X:Cx)(e:gI)(t:bI):ck:=PE X e (aQ X.K t)
def T3(X:Cx)(e:gI)(t:jG):ck:=PT X e (eQ X.K t)
def W3(X:Cx)(e:gI)(t:jG):ck:=PW X e (eQ X.K t)
def A3(X:Cx)(f:bf gI)(t:eD):ck:=PA X f (eB X.K t)
def S3(X:Cx)(st:hC)(t:fR):ck:=PS X st (d7 X.K t)
def uI(X:Cx)(f:bf hC)(t:fR):ck:=qQ X f (d7 X.K t)
def J3(X:Cx)(e:gI)(t:qO):ck:=PG X e (lowG X.K t)
def Si(X:Cx)(f:bf gI)(t:sC):ck:=BD X f (oE X.K t)
def I3(X:Cx)(tg e:gI)(t:uH):ck:=PI X tg e (nA X.K t)
def O3(X:Cx)(e:b0 gI)(t:Gq):ck:=PO X e (rS X.K t)
def Ao(X:Cx)(f:bf gI)(t:jG):ck:=nN X f (eQ X.K t)
abbrev gO(X:Cx)(f:fx->fx->Sem fx)(r:R3):ck:=dM X f (oC X.K r)
abbrev Call3(X:Cx)(f:fx)(r:C3):ck:=bK X f (Ds X.K r)
section
variable{X:Cx}{a b c e o:gI}{es:bf gI}{pos apos aS p p2:jU}{ta tb tc te:bI}{t u:jG}{ts us:eD}
def ev(i:br)(hN:X.N[i]?=du x:=by rfl)(g:LZ X.f.J x:=by first|exact As rfl|exact x9 (As rfl)|exact x9 (x9 rfl))(h:(x==("__debug__" :gq))=eH:=by decide)
  (f:(x==("__classdict__" :gq))=eH:=by decide):E3 X (.Name x pos) (fK i):=dW (w66 hN g h f) λ_ _ _=>wp3
def ax{i j pos}:E3 X (.Constant (.int i) j pos) (dC (.int i)):=dW x24 λ_ _ _=>EU λ_=>by rw[af]
def gJ{i j pos}:E3 X (.Constant (.bool i) j pos) (dC (.bl i)):=dW xq2 λ_ _ _=>EU λ_=>by rw[af]
def xr3{j pos}:E3 X (.Constant .none j pos) (dC .non):=dW x22 λ_ _ _=>EU λ_=>by rw[af]
def aR{x j pos}:E3 X (.Constant (.str x) j pos) (dC (.str x)):=dW x19 λ_ _ _=>EU λ_=>by rw[af]
def xh8(g:Gl X x)(f:X.mg x=du w)(r:RelV v w)(rd:∀H,af X.K H d v)(h:(x==("__debug__" :gq))=eH:=by decide):E3 X (.Name x pos) (dC d):=dW (wn3 g f r h) λ_ _ _=>EU rd
def aM(f:gO X (N0 op) r)(h:E3 X a ta)(g:E3 X b tb):E3 X (.BinOp a op b pos) (z9 r ta tb):=dW (xq0 f h g) λ_ _ _=>Qg
def sv(f:Ag X (Gr op) (vQ X.K r))(g:E3 X a ta):E3 X (.UnaryOp op a pos) (Sb r ta):=dW (xp8 f g) λ_ _ _=>xe2
def j0(f:gO X (L8 op) r)(i:E3 X a ta)(h:E3 X b tb)(g:GC op b=eH):E3 X (.Compare a [op] [b] pos) (z9 r ta tb):=dW (wn6 f i h g) λ_ _ _=>Qg
def bA(n:gO X (L8 op) r)(B:E3 X a ta)(A:E3 X b tb)(y:GC op b=eH):T3 X (.Compare a [op] [b] pos) (dB (z9 r ta tb)):=
 WJ (wl6 n B A y) λC H Q h=>by
  let#[g,G,q,j,c,t,f]:=h;exact Qg (K:=X.K) #[g,G,_,j,c,t,λx I v E l c1 m i=>by
   split at i
   .rename_i k;exact#[k,l.cO,f _ _ _ c1 m i]
   .exact i.n]
def lb(h:E3 X e te)(g:∀f,isTrue e X.f f=(do let v <- f;yM e.pos;holding [v] (truthy v)):=by intro _;rfl):T3 X e (dB te):=WJ (x05 h g) λ_ _ _=>xr0
def CI(f:T3 X a t):W3 X (.BoolOp .And [a] pos) t:=wl5 f
def CC(f:T3 X a t):W3 X (.BoolOp .Or [a] pos) t:=x03 f
def w_and{rest:bf gI}(g:T3 X a t)(f:W3 X (.BoolOp .And (b::rest) pos) u):W3 X (.BoolOp .And (a::b::rest) pos) (Er t u):=ww5 (x04 g f) λ_ _ _=>vx7
def w_or{rest:bf gI}(g:T3 X a t)(f:W3 X (.BoolOp .Or (b::rest) pos) u):W3 X (.BoolOp .Or (a::b::rest) pos) (BR t u):=ww5 (xp5 g f) λ_ _ _=>wp9
def sL(h:W3 X e t):T3 X e t:=PW.pt h
def yZ(f:T3 X a t):T3 X (.UnaryOp .Not a pos) (En t):=WJ (x06 f) λ_ _ _=>vw4
def AA{op}(h:E3 X a ta):E3 X (.BoolOp op [a] pos) ta:=x20 h
def CA{rest:bf gI}(g:E3 X a ta)(f:E3 X (.BoolOp .And (b::rest) pos) tb):E3 X (.BoolOp .And (a::b::rest) pos) (Uu ta tb):=dW (x27 g f) λ_ _ _=>vx6
def LK{rest:bf gI}(g:E3 X a ta)(f:E3 X (.BoolOp .Or (b::rest) pos) tb):E3 X (.BoolOp .Or (a::b::rest) pos) (Em ta tb):=dW (xp9 g f) λ_ _ _=>wp8
def UE(f:E3 X a ta):E3 X (.UnaryOp .Not a pos) (Uy ta):=dW (x21 f) λ_ _ _=>vw3
def i8(f:T3 X c t)(h:E3 X a ta)(g:E3 X b tb):E3 X (.IfExp c a b pos) (BS t ta tb):=dW (vu3 f h g) λ_ _ _=>xe4
def gX:A3 X [] iy:=ww8 w68 λ_ _ _=>vj4
def qJ(h:E3 X e te)(g:A3 X es ts)(f:D2 (e::es) X.f=(eH,eval e X.f)::D2 es X.env:=by rfl):A3 X (e::es) (jJ te ts):=ww8 (vg6 h g f) λ_ _ _=>vx2
def bh{f}(h:A3 X es ts):E3 X (.Tuple es f pos) (uD ts):=dW (x18 h) λ_ _ _=>wp5
def cw(h:A3 X es ts):E3 X (.List es pos) (wz ts):=dW (x23 h) λ_ _ _=>wq0
def bH(g:uM X (oC X.K r))(i:E3 X a ta)(h:E3 X b tb)(f:vq4 b:=by exact λ_ _=>rfl):E3 X (.Subscript a b pos) (z9 r ta tb):=dW (xq1 g i h f) λ_ _ _=>Qg
def Xe:O3 X dv Xz:=ww6 wm5 λ_ _ _=>v95
def Fi(h:E3 X e te):O3 X (du e) (PJ te):=ww6 (wm4 h) λ_ _ _=>vw2
def z0{r:Me}{lo hi:b0 gI}{f g:Gq}(i:uJ X (oB X.K r))(k:E3 X e te)(j:O3 X lo f)(h:O3 X hi g):E3 X (.Subscript e (.Slice lo hi dv p2) pos) (Sd r te f g):=dW (vu1 i k j h) λ_ _ _=>xe3
end
section
variable{X:Cx}{a b c e o value:gI}{es:bf gI}{st:hC}{zq Ib:bf hC}{pos pos' ug qX:jU}{te ta tv:bI}{t:jG}{s1 s2:fR}{g:qO}
def b_:uI X [] Ux:=w08 wl9 λ_ _ _=>vw5
def ar(h1:S3 X st s1)(f:uI X zq s2):uI X (st::zq) (fo s1 s2):=w08 (vt1 h1 f) λ_ _ _=>wp6
def az(h1:S3 X st s1):uI X [st] s1:=wl8 h1
def dP(h:E3 X e te)(f:X4 e dv pos.line X.f=pure eH:=by rfl):S3 X (.Expr e pos) (Cz te):=qV (wm2 h f) λ_ _ _=>vx1
def a_(f:E3 X e te):S3 X (.Return (du e) pos) (kH te):=qV (x09 f) λ_ _ _=>wp7
def wz9:S3 X (.Return dv pos) UA:=qV wm1 λ_ _ _=>vw0
def aH(f:T3 X c t)(i:uI X zq s1)(h:uI X Ib s2):S3 X (.If c zq Ib pos) (uE t s1 s2):=qV (xp6 f i h) λ_ _ _=>wq1
def xi7:fR:=λ_ _ _=>b8
def QC:S3 X st xi7:=qV vt3 λ_ _ _ h=>by let#[_,_,_,_,_,h,_]:=h;exact h.n
def bY(i:br)(hN:X.N.Nodup)(hi:X.N[i]?=du x:=by rfl)(f:n0 X.f.J x:=by first|exact As rfl|exact x9 rfl)(h:X.fn x=dS\/X.f.J.U.q x=du .local:=by first|exact .inl rfl|exact .inr rfl|assumption):J3 X (.Name x pos) (sH i):=WI (wm9 hN hi f h) λ_ _ _ _=>vj5
def za:Si X [] Dw:=w12 wm8 λ_ _ _ _=>vw8
def jv{t:qO}{u:sC}(h1:J3 X e t)(h:Si X es u)(f:(U1 (e::es) X.f).t (·.2)=assign e X.f::(U1 es X.f).t (·.2):=by rfl):Si X (e::es) (UH t u):=w12 (vu0 h1 h f) λ_ _ _ _=>vj6
def AB{i:gI}{to j:bI}{t:tu}(l:E3 X o to)(hi:E3 X i j)(k:uK X (nz X.K t))
  (m:∀v,assign (.Subscript o i pos) X.f v=(do
   let f <- holding [v] (eval o X.f);let h <- holding [v,f] (eval i X.f)
   yM pos
   holding [v,f,h] (So f h v)
   release [v,f,h] []):=by intro _;rfl):J3 X (.Subscript o i pos) (Dv to j t):=WI (x17 l hi k m) λ_ _ _ _=>vw7
def uP(i:E3 X e te)(h:J3 X tg g)(f:swapsWithSole [tg] e pos.line X.f=pure eH:=by rfl)(hw:swappedStores [tg] e X.f=pure dv:=by rfl)
  (h1:(U1 [tg] X.f).t (·.2)=[assign tg X.f]:=by rfl):S3 X (.Assign [tg] e pos) (i9 te g):=qV (x13 i h f hw h1) λ_ _ _=>wq6
def aN(i:br)(hN:X.N.Nodup)(y:E3 X e te)(hi:X.N[i]?=du x:=by rfl)(p:n0 X.f.J x:=by first|exact As rfl|exact x9 rfl)(r:X4 e (du (.Name x pos')) pos.line X.f=pure eH:=by rfl)
  (u:X.fn x=dS\/X.f.J.U.q x=du .local:=by first|exact .inl rfl|exact .inr rfl|assumption):S3 X (.Assign [.Name x pos'] e pos) (i9 te (sH i)):=
 qV (x08 hN hi p y r u) λD A H h=>by let#[j,G,q,k,c,t,f]:=h;exact#[j,G,_,k,c,t,λx C v B n c1 l m=>f.nx _ _ _ _ ((k.le l).I i n) c1 l m]
def PR(i:br)(hN:X.N.Nodup)(k:E3 X e te)(h:gO X (EJ op) r)(hi:X.N[i]?=du x:=by rfl)(f:n0 X.f.J x:=by first|exact As rfl|exact x9 rfl)
  (j:X.fn x=dS\/X.f.J.U.q x=du .local:=by first|exact .inl rfl|exact .inr rfl|assumption):S3 X (.AugAssign (.Name x pos') op e pos) (z_ i te r):=qV (x12 hN hi f k h j) λ_ _ _=>wq5
def QD(h:T3 X c t)(i:uI X body s1)(f:SO (model X.c X.w) X.A X.f X.xe:=by exact C59):S3 X (.While c body [] pos) (WT t s1):=qV (vt2 f h i) λ_ _ _=>vi9
def jL(hi:I3 X tg iter f)(j:J3 X tg g)(l:uI X body s1)(k:X.calm=dS:=by rfl)(i:SO (model X.c X.w) X.A X.f X.xe:=by exact C59)
  (h:∀x,X9 iter X.f x=pure x:=by intro _;rfl):S3 X (.For tg iter body [] pos) (wA f g s1):=qV (x10 i k hi j l h) λ_ _ _=>wq2
def jK(k:kP X.K C)(h:bO X.K C f)(i:E3 X e te)(j:O1 e f X.f (eval e X.f)=eval e X.env:=by rfl):E3 X (.Attribute e f pos) (Eo C te f):=dW (x25 i j) λ_ _ _=>wq3 k h
def AF(l:kP X.K C)(h:bO X.K C f)(k:E3 X o ta)(i:E3 X value tv)(j:X4 value (du (.Attribute o f pos')) pos.line X.f=pure eH:=by rfl):S3 X (.Assign [.Attribute o f pos'] value pos) (UB C ta tv f):=qV (x11 k i j) λ_ _ _=>vv9 l h
def Ql(l:kP X.K C)(h:bO X.K C f)(k:E3 X o ta)(i:E3 X value tv)(j:gO X (EJ op) r):S3 X (.AugAssign (.Attribute o f qX) op value pos) (Uv C ta tv r f):=qV (vf6 k i j) λ_ _ _=>vx5 l h
end
def vj2{K:eM}{i:L2.St}{H:Hp}{l:eD}{R:It->Hp->ck}(h:nA K (λi G r=>l i G λds G1=>match ds with|[.int j]=>(-(2^62)<=j/\j<2^62)/\r #[bW 0 j.i,λ_=>dm] G1|_=>b8) i H R):xg9 (eB K l) i H R:=by
 let#[k,G,q,n,c,t,f]:=h;apply#[k,G,_,n,c,t,λds G1 y A p c1 u g=>?_];split at g
 .rename_i j;let#[x,r,rfl,m,o]:=p.aq;rw[af] at m;subst m;rw[o.aX];exact#[j,rfl,g.1.1,g.1.2,f _ _ _ _ ul2 c1 u g.2]
 .exact g.n
def vj1{K:eM}{g:L2.St}{H:Hp}{m:eD}{R:It->Hp->ck}(h:nA K (λg G r=>m g G λds G1=>match ds with|[.int i,.int j]=>(-(2^62)<=i/\i<2^62/\-(2^62)<=j/\j<2^62)/\r #[bW i (j-i).i,λ_=>dm] G1|_=>b8) g H R):xg8 (eB K m) g H R:=by
 let#[l,G,q,p,c,t,f]:=h;apply#[l,G,_,p,c,t,λds G1 E J B c1 C k=>?_];split at k
 .rename_i i j;let#[x,r,rfl,o,u]:=B.aq;let#[y,I,rfl,n,A]:=u.aq;rw[af] at o n;subst o n;rw[A.aX];exact#[i,j,rfl,k.1,f _ _ _ _ ul2 c1 C k.2]
 .exact k.n
def wx1(g:eD):uH:=λf G r=>g f G λh i=>match h with|[.int j]=>(-(2^62)<=j/\j<2^62)/\r #[bW 0 j.i,λ_=>dm] i|_=>b8
def wx0(g:eD):uH:=λf G r=>g f G λh k=>match h with|[.int i,.int j]=>(-(2^62)<=i/\i<2^62/\-(2^62)<=j/\j<2^62)/\r #[bW i (j-i).i,λ_=>dm] k|_=>b8
section
variable{X:Cx}{a b e o tg:gI}{es:bf gI}{p pos apos aS:jU}{ta:bI}{ts:eD}
def uQ(h:Gl X "range")(g:X.mg "range" = dv)(i:A3 X [a] ts)(f:D2 [a] X.f=[(eH,eval a X.f)]:=by rfl):I3 X tg (.Call (.Name "range" p) [a] [] pos) (wx1 ts):=CD (vg4 h g i f) λ_ _ _=>vj2
def WV(h:Gl X "range")(g:X.mg "range" = dv)(i:A3 X [a,b] ts)(f:D2 [a,b] X.f=[(eH,eval a X.f),(eH,eval b X.f)]:=by rfl)(j:D2 [b] X.f=[(eH,eval b X.f)]:=by rfl):
  I3 X tg (.Call (.Name "range" p) [a,b] [] pos) (wx0 ts):=CD (vg3 h g i f j) λ_ _ _=>vj1
variable{k:br}{f C:fy}{fd:yO}{ps:bf gq}{S:fS}{mz:bf D}{fk:bf V}{ds:bf fx}{x m:gq}
def xi0(F:bJ X.c X.w X.K X.mg X.Q qR k f fd ps (cU X.K S))(h:aZ k X.A)(l:Gl X x)(i:X.mg x=du (.ref f))(j:W.keepIn X.K (.ref f)=dS)(r:Binds X.K fd ps ds)(q:Vals fk ds)(y:∀H,ah X.K H mz fk) (t:A3 X (e::es) ts) (g:(x==("__debug__" :gq))=eH:=by decide) (n:D2 (e::es) X.f=(eH,eval e X.f)::D2 es X.env:=by rfl) (u:(backTo pos (D2 es X.f)).any (·.1)=eH:=by rfl):
  E3 X (.Call (.Name x p) (e::es) [] pos) (jo S mz ts):=dW (wn7 F h l i j r q sQ t g n u) λ_ _ _=>vx3 y
def xh6(n:E3 X o ta)(c:kP X.K C)(l:Meth X.K C m f)(F:bJ X.c X.w X.K X.mg X.Q qR k f fd ps (cU X.K S))(j:aZ k X.A)(r:Binds X.K fd ps ds)(q:Vals fk ds)(y:∀H,ah X.K H mz fk)(t:A3 X (e::es) ts) (g:D2 (e::es) X.f=(eH,eval e X.f)::D2 es X.env:=by rfl) (u:(backTo pos (D2 es X.f)).any (·.1)=eH:=by rfl)
  (i:eval (.Call (.Attribute o m apos) (e::es) [] pos) X.f=(do
   let h <- eval o X.f
   yM apos.atName
   let (f,first) <- holding [h] (Ci h m pl)
   Gs pos f first (backTo pos (D2 (e::es) X.f)) (Y0 pos (Q4 [] X.f))):=by rfl):E3 X (.Call (.Attribute o m apos) (e::es) [] pos) (ye C m S mz ta ts):=
 dW (wn1 n c l F j r q sQ t g u i) λ_ _ _=>v53 y
def ws2(I:E3 X o ta)(c:kP X.K C)(E:Meth X.K C m f)(F:bJ X.c X.w X.K X.mg X.Q qR k f fd ps (cU X.K S))(B:aZ k X.A)(L:Binds X.K fd ps ds)(J:Vals fk ds)(Ee:∀H,ah X.K H mz fk)
  (y:eval (.Call (.Attribute o m apos) [] [] pos) X.f=(do
   let i <- eval o X.f
   yM apos.atName
   let (f,first) <- holding [i] (Ci i m pl)
   Gs pos f first (backTo pos (D2 [] X.f)) (Y0 pos (Q4 [] X.f))):=by rfl):E3 X (.Call (.Attribute o m apos) [] [] pos) (ye C m S mz ta iy):=
 dW (vu2 I c E F B L J sQ y) λσ H Q h=>by let#[g,G,q,l,Z,t,N]:=v53 (XE:=E0) Ee h;apply#[g,G,q,l,Z,t,λd G1 v H1 n c1 u j=>?_];let#[a,Y,M,U,R,O,r]:=N d G1 v H1 n c1 u j;exact#[a,Y,M,U,R,O,vj4 r]
def w84(M:Mk X.K C f)(F:bJ X.c X.w X.K X.mg X.Q qR k f fd ps (cU X.K S))(h:aZ (k+1) X.A)(j:Gl X x)(i:X.mg x=du (.ref C))(q:Binds X.K fd ps ds)(n:Vals fk ds)(u:∀H,ah X.K H mz fk) (r:A3 X (e::es) ts) (g:(x==("__debug__" :gq))=eH:=by decide) (l:D2 (e::es) X.f=(eH,eval e X.f)::D2 es X.env:=by rfl) (t:(backTo pos (D2 es X.f)).any (·.1)=eH:=by rfl):
  E3 X (.Call (.Name x p) (e::es) [] pos) (GV C S mz ts):=dW (wn2 M F h j i q n sQ r g l t) λ_ _ _=>vw6 u
variable{id T:String}{r:C3}{rm:M3}{name:gq}
def cM(q:Call3 X (.builtin id) r)(l:Gl X x)(j:X.mg x=dv)(h:R9 x=du (.builtin id))(t:A3 X (e::es) ts)(i:x ≠ "__name__" := by decide)(g:(x==("__debug__" :gq))=eH:=by decide)
  (n:D2 (e::es) X.f=(eH,eval e X.f)::D2 es X.env:=by rfl) (u:(backTo pos (D2 es X.f)).any (·.1)=eH:=by rfl):E3 X (.Call (.Name x p) (e::es) [] pos) (Se r ts):=
 dW (vv0 q l j h t i g n u) λ_ _ _=>w76
def iE(q:Call3 X (.type T) r)(l:Gl X x)(j:X.mg x=dv)(h:R9 x=du (.type T))(t:A3 X (e::es) ts)(i:x ≠ "__name__" := by decide)(g:(x==("__debug__" :gq))=eH:=by decide)
  (n:D2 (e::es) X.f=(eH,eval e X.f)::D2 es X.env:=by rfl) (u:(backTo pos (D2 es X.f)).any (·.1)=eH:=by rfl):E3 X (.Call (.Name x p) (e::es) [] pos) (Se r ts):=
 dW (uu8 q l j h t i g n u) λ_ _ _=>w76
end
def Fe(ix:bf (b0 br))(f:d9):d9:=ix.t λo=>o.bind λj=>(f[j]?).bind id
def vw(ok:Gp->ck)(g:qO)(tc:jG)(te:bI)(p:fy)(q:DK):bf D->d9->Gp->ck
 | [],_,G=>ok G/\q (.ref p) G| x::r,k,G=>ok G/\g x k G λf l=>tc f l λb j =>
  if b=dS then te f j λd i=>(match i p with|some (.lst h)=>h.l<iZ/\vw ok g tc te p q r f (aC i p (.lst (h++[d])))|_=>b8)
  else vw ok g tc te p q r f j
def PF(ix:bf (b0 br))(i:uH)(g:qO)(tc:jG)(te:bI):bI:=λf G q=>i f G λit h=>∀p,h p=dv->vw it.ok g tc te p q it.items (Fe ix f) (aC h p (.lst []))
def bP.inn{K:eM}{H:Hp}{f:d9}{g:L2.St}(h:bP K H f g)(ix:bf (b0 br)):bP K H (Fe ix f) (L2.inner ix g):=by
 apply#[by unfold Fe L2.inner;rw[B0,B0],λi d e=>?_];unfold Fe at e;unfold L2.inner;rw[F5] at e⊢;cases l:ix[i]? with
 | none=>rw[l] at e;cases e
 | some o =>
  rw[l] at e;cases o with
  | none=>cases e
  | some j =>
   let e:(f[j]?).bind id=du d:=E8 e;let e:f[j]?=du (du d):=by
    cases k:f[j]? with
    | none=>rw[k] at e;cases e
    | some w=>rw[k] at e;cases e;rfl
   let#[v,m,r]:=h.2 j d e;exact#[v,by show du ((g[j]?).bind id)=_;rw[m];rfl,r]
def v54{K:eM}{ix:bf (b0 br)}{Z:uH}{g:qO}{tc:jG}{te:bI}{Y:L2.St}{H:Hp}{Q:VK}(h:aQ K (PF ix Z g tc te) Y H Q):WB ix (nA K Z) (lowG K g) (eQ K tc) (aQ K te) Y H Q:=by
 let#[B,G,q,rs,cc,t,f]:=h;apply#[B,G,_,rs,cc,t,λit J G1 u ir c1 l1 R=>?_];intro p X;let R:=R p (c1.y X);let c2:cx K (aC G1 p (.lst [])) (l6 u p (.lst [])):=c1.cY X .nil;let l2:Le u (l6 u p (.lst [])):=Le.y X;apply#[λi m l n=>∃j r,Le (l6 u p (.lst [])) n/\bP K n j l/\cx K r n/\i+m=it.items.l/\vw it.ok g tc te p q (it.items.G i) j r,
  #[it.items.l,Fe ix B,_,Le.j _,(rs.le (l1.u l2)).inn ix,c2,(),by rw[t6];exact R],?_]
 rintro i m σ2 M ⟨A,N,U,vG,c2,e2,o⟩;let L:Le u M:=l2.u U;by_cases hi:i<it.items.l
 .rw[O7 hi] at o;let#[Ki,o]:=o;apply .inr #[ir.go i N M L c2 Ki hi,λl n=>∃j r,Le (l6 u p (.lst [])) n/\bP K n j l/\cx K r n/\vw it.ok g tc te p q (it.items.G (i+1)) j r,?_,?_]
  .intro l n #[j,r,a1,a2,a3,a4];exact#[m-1,(),j,r,a1,a2,a3,(),a4]
  .intro x H3 y;let#[c3,S,e,he,r3]:=ir.qS i N M x H3 L c2 Ki hi y;rw[B6 hi] at he;cases he;apply#[_,A,N,_,r3,vG.le S,c3,o,λk G4 σ4 H4 O c4 l5 t4=>?_];apply#[k,G4,_,O,c4,t4,λb G5 H5 c5 C I=>?_];cases b with
   | false =>rw[cp D1] at I⊢;exact#[k,G5,U.u (S.u (l5.u C)),O.le C,c5,I]| true =>
    rw[cu rfl] at I⊢;apply#[k,G5,_,O.le C,c5,I,λd G6 v H6 r6 c6 l7 E=>?_];split at E
    .rename_i ys eg;let#[xs,ex,rx]:=c6 p _ eg;let l8:=Le.lst (ys:=xs++[v]) ex;exact#[xs,ex,by rw[<- rx.l];exact E.1,k,_,U.u (S.u (l5.u (C.u (l7.u l8)))),O.le (C.u (l7.u l8)),c6.ku ex (rx.fj (.cons r6 .nil)),E.2]
    .exact E.n
 .rw[V5 ()] at o;exact .inl #[ir.stop i N M L c2 o.1 (),f _ _ _ _ af.fG c2 (l1.u L) o.2]
def wx:jG:=λ_ G q=>q dS G
section
variable{X:Cx}{elt tg iter:gI}{ifs:bf gI}{scope:Scope}{pos:jU}{N':bf gq}{ix:bf (b0 br)}{wi:uH}{g:qO}{tc:jG}{te:bI}
def jN:Ao X [] wx:=wa6 vt7 λj H Q h=>by let#[i,G,q,k,c,t,f]:=h;exact f _ _ _ c (Le.j H) t
def XD(h:T3 X c tc):Ao X [c] tc:=vt6 h
def jM(B:kS X N' ix scope)(hw:I3 X tg iter wi)(i:∀C s H f,J3 (oj X N' scope C s H f) tg g)(hi:∀C s H f,Ao (oj X N' scope C s H f) ifs tc)(j:∀C s H f,E3 (oj X N' scope C s H f) elt te) (k:X.calm=dS:=by rfl) (h:∀x,X9 iter X.f x=pure x:=by intro _;rfl):E3 X (.ListComp elt [#[tg,iter,ifs,0]] scope pos) (PF ix wi g tc te):=dW (wn5 (g:=lowG X.K g) (tc:=eQ X.K tc) (te:=aQ X.K te) B k hw i hi j h) λ_ _ _=>v54
def Xl(i:br){y:gq}{n l:jU}(hN:X.N.Nodup)(B:kS X N' ix scope)(hw:I3 X tg iter wi)(E:∀C s H j,J3 (oj X N' scope C s H j) tg g)(hi:∀C s H j,Ao (oj X N' scope C s H j) ifs tc)(J:∀C s H j,E3 (oj X N' scope C s H j) elt te) (r:X.N[i]?=du y:=by rfl) (A:n0 X.f.J y:=by first|exact As rfl|exact x9 rfl)
  (L:X.calm=dS:=by rfl) (M:X4 (.ListComp elt [#[tg,iter,ifs,0]] scope pos) (du (.Name y n)) l.line X.f=pure dS:=by rfl)
  (I:X.fn y=dS\/X.f.J.U.q y=du .local:=by first|exact .inl rfl|exact .inr rfl|assumption)
  (u:∀x,X9 iter X.f x=pure x:=by intro _;rfl):S3 X (.Assign [.Name y n] (.ListComp elt [#[tg,iter,ifs,0]] scope pos) l) (i9 (PF ix wi g tc te) (sH i)):=
 qV (wm0 (g:=lowG X.K g) (tc:=eQ X.K tc) (te:=aQ X.K te) B L hN r A hw E hi J M I u) λD O H h=>by let#[k,G,d,m,c,t,f]:=h;exact v54 (K:=X.K) #[k,G,_,m,c,t,λx R v Q q c1 o p=>f.nx _ _ _ _ ((m.le o).I i q) c1 o p]
end
def mJ:R3:=λx y G q=>match x,y with
 | .int i,.int j=>q (.int (i+j)) G| .str a,.str b=>a.l+b.l<=iZ/\q (.str (a++b)) G| .tup a,.tup b=>a≠[]/\a.l+b.l<=iZ/\q (.tup (a++b)) G| .ref a,.ref b=>(match G a,G b with
  | some (.lst xs),du (.lst f)=>xs.l+f.l<=iZ/\∀p,G p=dv->q (.ref p) (aC G p (.lst (xs++f)))| _,_=>b8)
 | _,_=>b8
def og(f:bz->bz->bz):R3:=λx y G q=>match x,y with|.int i,.int j=>q (.int (f i j)) G|_,_=>b8
def AG(C:bz->bz->ck)(f:bz->bz->bz):R3:=λx y G q=>match x,y with|.int i,.int j=>C i j/\q (.int (f i j)) G|_,_=>b8
def GJ:R3:=og λi j=>i-j
def yS:R3:=λx y G q=>match x,y with
 | .int i,.int j=>kR i j/\q (.int (i*j)) G| .ref a,.int k=>(match G a with
  | some (.lst xs)=>(-(2^63)<=k/\k<2^63/\xs.l*k.i<=iZ)/\∀p,G p=dv->q (.ref p) (aC G p (.lst (C7 k.i xs).C))| _=>b8)
 | _,_=>b8
def ER(_ j:bz):ck:=0<j/\j<18446744073709551616
def GR:R3:=AG ER λi j=>i / j
def GP:R3:=AG (λ_ j=>0<j) λi j=>i%j
def GO:R3:=AG lL λi j=>i^j.i
def GN:R3:=AG lL λi j=>i*2^j.i
def GL:R3:=AG (λ_ j=>0<=j) λi j=>i / 2^j.i
def GS:R3:=og Q6
def xOr:R3:=og Pc
def GI:R3:=og Pe
def Ur:R3:=λx y G q=>match x,y with|.int i,.int j=>q (.bl (decide (i<j))) G|.str a,.str b=>q (.bl (decide (a.cps.L<b.cps.L))) G|_,_=>b8
def xLe:R3:=λx y G q=>match x,y with|.int i,.int j=>q (.bl (decide (i<=j))) G|_,_=>b8
def xGt:R3:=λx y G q=>match x,y with|.int i,.int j=>q (.bl (decide (j<i))) G|_,_=>b8
def xGe:R3:=λx y G q=>match x,y with|.int i,.int j=>q (.bl (decide (j<=i))) G|_,_=>b8
section
variable{X:Cx}{K:eM}{H:Hp}
def af.int_inv(h:af K H (.int i) v):v=.int i:=by rw[af] at h;exact h
def af.str_inv(h:af K H (.str i) v):v=.str i:=by rw[af] at h;exact h
def af.eP(h:af K H .non v):v=.non:=by rw[af] at h;exact h
def af.aU(h:af K H (.tup ds) v):∃a xs,v=.ref a/\eR K H a xs/\ah K H ds xs:=by rw[af] at h;exact h
def af.c8:af K H (.int i) (.int i):=by rw[af]
def af.CY:af K H (.str i) (.str i):=by rw[af]
def af.nJ:af K H (.bl i) (.bl i):=by rw[af]
def af.vK:af K H .non .non:=by rw[af]
def G_(h:dM X f (sO λi j=>.int (g i j))):gO X f (og g):=uc h λx y H Q ⟨d,e,G,q,l,k,c,t,f⟩=>by
 unfold og at t;split at t
 .exact#[_,_,l.O,k.O,f _ _ _ _ af.c8 c (Le.j H) t]
 .exact t.n
def Hg(h:dM X f (rI C λi j=>.int (g i j))):gO X f (AG C g):=uc h λx y H Q ⟨d,e,G,q,l,k,c,t,f⟩=>by
 unfold AG at t;split at t
 .exact#[_,_,l.O,k.O,t.1,f _ _ _ _ af.c8 c (Le.j H) t.2]
 .exact t.n
def fg:gO X (N0 .Sub) GJ:=G_ x32
def vv2:dM X (N0 .FloorDiv) (rI ER λi j=>.int (i / j)):=FK λi j _ _ _ _ _ f q=>by
 let h:j.natAbs.log2<9000:=by
  let l:=f.1;let k:=f.2;let g:j.natAbs≠0:=()
  let:j.natAbs.log2<64:=(Ou g).mpr ();omega
 apply floordiv_int (by let:=f.1;omega) ?_ (.inl (O' h));rw[p0 i (by let:=f.1;omega)];exact q
def PX:gO X (N0 .FloorDiv) GR:=Hg vv2
def yg:gO X (N0 .Mod) GP:=Hg x38
def xo2:gO X (N0 .Pow) GO:=Hg x36
def CF:gO X (N0 .LShift) GN:=Hg x34
def ww1:gO X (N0 .RShift) GL:=Hg x33
def PV:gO X (N0 .BitAnd) GS:=G_ x41
def Up:gO X (N0 .BitOr) xOr:=G_ xq4
def xo0:gO X (N0 .BitXor) GI:=G_ x31
def AL:gO X (EJ .Add) (og λi j=>i+j):=G_ wr4
def cn:gO X (N0 .Add) mJ:=uc (Di.or (rM.or (sR.or x40))) <| by
 intro x y H Q #[d,e,G,q,l,k,c,t,f];unfold mJ at t;cases d <;> cases e <;> first|exact t.n|dsimp only at t
 .exact .inl ⟨_,_,l.O,k.O,f _ _ _ _ af.c8 c (Le.j H) t⟩
 .exact .inr (.inl ⟨_,_,l.fi,k.fi,t.1,f _ _ _ _ af.CY c (Le.j H) t.2⟩)
 .let#[a,xs,rfl,n,g]:=l.aU;let#[b,m,rfl,A,j]:=k.aU;apply .inr (.inr (.inl #[a,b,xs,m,rfl,rfl,n,A,λz=>t.1 ?_,by rw[<- g.l,<- j.l];exact t.2.1,λz=>?_,λ_ p i=>?_]))
  .have:=g.l;rw[z] at this;exact E6 this
  .apply f (.tup _) G (.ref a) _ ?_ c (Le.j _) t.2.2;rw[af];subst z;let e:∀{o:bf D},ah X.K H o []->o=[]:=λh=>E6 h.l;rw[e j,D7];exact#[a,_,rfl,n,g]
  .apply f (.tup _) G (.ref p) _ ?_ (c.side i) (Le.y i) t.2.2;rw[af];exact#[p,_,rfl,eR.of iL,ah.le (Le.y i) (g.fj j)]
 .rename_i a b;split at t
  .rename_i xs m I E;let#[u,C,g]:=c _ _ I;let#[r,B,j]:=c _ _ E;exact .inr (.inr (.inr #[a,b,u,r,l.ao,k.ao,C,B,by rw[<- g.l,<- j.l];exact t.1,λp i=>f _ _ _ _ af.fG (c.cY i (g.fj j)) (Le.y i) (t.2 p (c.y i))]))
  .exact t.n
def mL:gO X (N0 .Mult) yS:=uc (Dh.or x35) <| by
 intro x y H Q #[d,e,G,q,i,h,c,t,f];unfold yS at t;cases d <;> cases e <;> first|exact t.n|dsimp only at t
 .exact .inl ⟨_,_,i.O,h.O,t.1,f _ _ _ _ af.c8 c (Le.j H) t.2⟩
 .rename_i a k;split at t
  .rename_i xs n;let#[l,m,j]:=c _ _ n;apply .inr #[a,k,l,i.ao,h.O,m,t.1.1,t.1.2.1,by rw[<- j.l];exact t.1.2.2,?_];intro p g;exact f _ _ _ _ af.fG (c.cY g (j.rep _)) (Le.y g) (t.2 p (c.y g))
  .exact t.n
def Xq{f:fx->fx->Sem fx}{g:bz->bz->cg}(h:dM X f (sO λi j=>.bl (g i j))):gO X f (λx y G q=>match x,y with|.int i,.int j=>q (.bl (g i j)) G|_,_=>b8):=uc h λx y H Q ⟨d,e,G,q,l,k,c,t,f⟩=>by
 try dsimp only at t
 split at t
 .exact#[_,_,l.O,k.O,f _ _ _ _ af.nJ c (Le.j H) t]
 .exact t.n
def GH:gO X (L8 .LtE) xLe:=Xq xq5
def qT:gO X (L8 .Gt) xGt:=Xq xq6
def Uq:gO X (L8 .GtE) xGe:=Xq xq7
def fE:gO X (L8 .Lt) Ur:=uc (Kg.or vg9) <| by
 intro x y H Q #[d,e,G,q,h,g,c,t,f];unfold Ur at t;cases d <;> cases e <;> first|exact t.n|dsimp only at t
 .exact .inl ⟨_,_,h.O,g.O,f _ _ _ _ af.nJ c (Le.j H) t⟩
 .exact .inr ⟨_,_,h.fi,g.fi,f _ _ _ _ af.nJ c (Le.j H) t⟩
def af.zG(h:af K H d v)(n:d≠.non):v≠.non:=by
 cases d with
 | non=>exact cz rfl n| bl _=>rw[h.cO];exact λz=>nomatch z| int _=>rw[h.O];exact λz=>nomatch z| str _=>rw[h.fi];exact λz=>nomatch z| ref _=>rw[h.ao];exact λz=>nomatch z| ty _=>rw[af] at h;rw[h];exact λz=>nomatch z| tup _=>let#[a,xs,e,_]:=h.aU;rw[e];exact λz=>nomatch z
def yR:U3:=λx G q=>match x with|.int i=>q (.int (-i)) G|_=>b8
def EZ:Ag X (Gr .USub) (vQ X.K yR):=w07 wx3 <| by
 intro x H Q #[d,G,q,g,c,t,f];unfold yR at t;split at t
 .exact#[_,g.O,f _ _ _ _ af.c8 c (Le.j H) t]
 .exact t.n
def yU:R3:=λx y G q=>match x,y with
 | .tup f,.int i=>(match cS f i with|some d=>q d G|none=>b8)
 | .ref a,.int i=>(match bt (G a) with|some f=>(match cS f i with|some d=>q d G|none=>b8)|none=>b8)
 | .str z,.int i=>z.l<=iZ/\(match cS z.cps.L i with|some c=>q (.str #[[c].e]) G|none=>b8)
 | _,_=>b8
theorem ah.cS(h:ah K H ds xs)(e:L2.cS ds i=du d):∃v,L2.cS xs i=du v/\af K H d v:=by
 rw[Cy] at e⊢;rw[<- h.l];cases f:jz ds.l i with
 | none=>rw[f] at e;cases e
 | some j =>rw[f] at e;exact h.get e
def bF:uM X (oC X.K yU):=ww7 xf9 <| by
 intro x y H Q #[d,e,G,q,l,k,c,t,f];unfold yU at t;cases d <;> cases e <;> first|exact t.n|dsimp only at t
 .rename_i z i;let#[o,t]:=t;split at t
  .rename_i w g;exact .inr (.inr #[z,i,w,l.fi,k.O,o,g,f _ _ _ _ af.CY c (Le.j H) t])
  .exact t.n
 .rename_i r i;let#[a,xs,rfl,h,m]:=l.aU;split at t
  .rename_i w g;let#[v,n,j]:=m.cS g;exact .inr (.inl #[a,xs,i,v,rfl,k.O,h,n,f _ _ _ _ j c (Le.j H) t])
  .exact t.n
 .rename_i a i;split at t
  .rename_i r p;let#[xs,h,m]:=ft c p;split at t
   .rename_i w g;let#[v,n,j]:=m.cS g;exact .inl #[a,xs,i,v,l.ao,k.O,h,n,f _ _ _ _ j c (Le.j H) t]
   .exact t.n
  .exact t.n
def cutD{f:Type}(xs:bf f)(lo hi:b0 bz):bf f:=(xs.G (HT.cD xs.l 0 lo)).fh (HT.cD xs.l xs.l hi-HT.cD xs.l 0 lo)
def ah.cut(h:ah K H ds xs)(lo hi:b0 bz):ah K H (cutD ds lo hi) (qh xs lo hi):=by unfold cutD qh;rw[h.l];exact(h.G _).fh _
def Co:tu:=λo i v G q=>match o,i with
 | .ref a,.int k=>(match G a with|some (.lst f)=>(match jz f.l k with|some j=>q (aC G a (.lst (f.I j v)))|none=>b8)|_=>b8)
 | _,_=>b8
def AH:uK X (nz X.K Co):=wa5 set_list <| by
 intro o i v H Q #[d,e,x,G,q,n,m,l,c,t,f];unfold Co at t;split at t
 .rename_i a k;split at t
  .rename_i u r;let#[xs,g,h]:=c _ _ r;split at t
   .rename_i j p;exact#[a,xs,k,j,n.ao,m.O,g,by rw[<- h.l];exact p,f _ _ (c.ku g (h.I l j)) (Le.lst g) t]
   .exact t.n
  .exact t.n
 .exact t.n
end
inductive Sn where
 | non|bl (b:cg)|int (i:bz)|str (x:gq)|tup (xs:bf Sn)|lst (xs:bf Sn)
def snap(G:Gp):br->D->b0 Sn
 | _,.non=>du .non| _,.bl b=>du (.bl b)| _,.int i=>du (.int i)| _,.str x=>du (.str x)| n+1,.tup f=>(f.mapM (snap G n)).t .tup| n+1,.ref a=>(bt (G a)).bind λf=>(f.mapM (snap G n)).t .lst| _,_=>dv
def iK:Sn->cg
 | .non=>dS|.bl _=>dS|.int _=>dS|.str _=>dS|_=>eH
def RY:Sn->Sn->cg
 | .non,.non=>dS| .bl a,.bl b=>a==b| .bl a,.int b=>(if a then 1 else 0)==b| .int a,.bl b=>a==(if b then 1 else 0)| .int a,.int b=>a==b| .str a,.str b=>a==b| _,_=>eH
def fQ:br->Sn->Sn->b0 cg
 | n+1,.tup xs,.tup f=>if xs.l=f.l then((xs.zip f).mapM λp=>fQ n p.1 p.2).t λg=>g.all id else dv| n+1,.lst xs,.lst f=>if xs.l=f.l then((xs.zip f).mapM λp=>fQ n p.1 p.2).t λg=>g.all id else du eH| _,x,y=>if(iK x&&iK y)=dS then du (RY x y) else dv
theorem vC{l k:Type}{f:l->b0 k}:∀{xs:bf l} {ys:bf k},xs.mapM f=du ys->xs.l=ys.l/\∀(i:br) x,xs[i]?=du x->∃y,ys[i]?=du y/\f x=du y
 | [],ys,h=>by
  let:ys=[]:=by simpa using h.M
  subst this;exact#[rfl,λi x e=>by simp at e]
 | x::xs,ys,h=>by
  rw[V8] at h;cases g:f x with
  | none=>rw[g] at h;cases h
  | some y =>
   rw[g] at h;cases j:xs.mapM f with
   | none=>rw[j] at h;cases h
   | some r =>
    rw[j] at h;let e:y::r=ys:=E8 h;subst e;let#[n,m]:=vC j;apply#[by simp[n],λi z e=>?_];cases i with
    | zero=>cases(show x=z from E8 e);exact#[y,rfl,g]
    | succ i=>exact m i z e
def PY{bs:bf cg}{e:br->cg}{n:br}(j:bs.l=n)(h:∀(i:br) b,bs[i]?=du b->e i=b):(D3 n).all e=bs.all id:=by
 rw[T8,O5,O5];constructor
 .intro q b f;let#[i,hi,g]:=sG.mp f;let:=q i (K0.mpr ());rw[h i b (by rw[B6 hi,g])] at this;exact this
 .intro q i hi;let hi:=K0.mp hi;rw[h i bs[i] (B6 ())];exact q _ (M4 _)
section
variable{X:Cx}{kI:bf (fy×jC)}{σ:L2.St}{H:Hp}{s:fC}{G:Gp}
def XB{u:fx}(h:snap G n d=du sd)(fl:iK sd=dS)(r:af X.K H d x):vx x=dS/\∀(e:D) (se:Sn) (y:V),snap G n e=du se->iK se=dS->af X.K H e y->zZ x y=RY sd se:=by
  let key:∀(d:D) (sd:Sn) (x:V),snap G n d=du sd->iK sd=dS->af X.K H d x->(sd=.non/\x=.non)\/(∃b,sd=.bl b/\x=.bl b)\/(∃i,sd=.int i/\x=.int i)\/(∃z,sd=.str z/\x=.str z):=by
    intro d sd x h fl r;cases d with
    | non => let e: Sn.non = sd:= by cases n <;> exact Option.some.inj h
             subst e;exact .inl ⟨rfl,r.eP⟩
    | bl b => let e: Sn.bl b = sd:= by cases n <;> exact Option.some.inj h
              subst e;exact .inr (.inl ⟨b,rfl,r.cO⟩)
    | int b => let e: Sn.int b = sd:= by cases n <;> exact Option.some.inj h
               subst e;exact .inr (.inr (.inl ⟨b,rfl,r.O⟩))
    | str b => let e: Sn.str b = sd:= by cases n <;> exact Option.some.inj h
               subst e;exact .inr (.inr (.inr ⟨b,rfl,r.fi⟩))
    | tup ds =>
      cases n with
      | zero=>cases h
      | succ n =>let h:(ds.mapM (snap G n)).t Sn.tup=du sd:=h;let#[a,_,rfl]:=F6.mp h;cases fl
    | ref a =>
      cases n with
      | zero=>cases h
      | succ n =>let h:((bt (G a)).bind λds=>(ds.mapM (snap G n)).t Sn.lst)=du sd:=h;let#[ds,_,h]:=vl.mp h;let#[a,_,rfl]:=F6.mp h;cases fl
    | ty t=>cases n <;> cases h
  rcases key d sd x h fl r with⟨rfl,rfl⟩|⟨b,rfl,rfl⟩|⟨b,rfl,rfl⟩|⟨b,rfl,rfl⟩ <;> apply⟨rfl,λe se y h' fl' r'=>?_⟩ <;>
    rcases key e se y h' fl' r' with⟨rfl,rfl⟩|⟨c,rfl,rfl⟩|⟨c,rfl,rfl⟩|⟨c,rfl,rfl⟩ <;> rfl
def aV(h:snap G n (.tup ds)=du g):∃m f,n=m+1/\g=.tup f/\ds.mapM (snap G m)=du f:=by
 cases n with
 | zero=>cases h
 | succ n =>let#[f,i,rfl]:=F6.mp (show(ds.mapM (snap G n)).t Sn.tup=du g from h);exact#[n,f,rfl,rfl,i]
def cy(h:snap G n (.ref a)=du g):∃m ds f,n=m+1/\g=.lst f/\bt (G a)=du ds/\ds.mapM (snap G m)=du f:=by
 cases n with
 | zero=>cases h
 | succ n =>let#[ds,j,h]:=vl.mp (show((bt (G a)).bind λds=>(ds.mapM (snap G n)).t Sn.lst)=du g from h);let#[f,i,rfl]:=F6.mp h;exact#[n,ds,f,rfl,rfl,j,i]
def v60(f:iK x=dS):fQ n x y=if(iK x&&iK y)=dS then du (RY x y) else dv:=by
 cases x with
 | tup _=>cases f
 | lst _=>cases f
 | non=>cases n <;> rfl
 | bl _=>cases n <;> rfl
 | int _=>cases n <;> rfl
 | str _=>cases n <;> rfl
def HA(h:fQ n x y=du b)(f:¬ (iK x&&iK y)=dS):(∃m xs ys,n=m+1/\x=.tup xs/\y=.tup ys)\/(∃m xs ys,n=m+1/\x=.lst xs/\y=.lst ys):=by
 unfold fQ at h;split at h
 .exact .inl #[_,_,_,rfl,rfl,rfl]
 .exact .inr #[_,_,_,rfl,rfl,rfl]
 .rw[cp f] at h;cases h
def Fv(h:snap G n d=du (.tup g)):∃ds,d=.tup ds:=by
 cases d with
 | tup ds=>exact#[ds,rfl]| ref a=>let#[_,_,_,_,f,_]:=cy h;cases f
 | _=>cases n <;> cases h
def Fu(h:snap G n d=du (.lst g)):∃a,d=.ref a:=by
 cases d with
 | ref a=>exact#[a,rfl]| tup i=>let#[_,_,_,f,_]:=aV h;cases f
 | _=>cases n <;> cases h
def uu4(l:af X.K H d x)(j:af X.K H e x)(h1:snap G n d=du h)(o:snap G n e=du g)(m:fQ n h g=du b)(f:(iK h&&iK g)=dS):b=dS:=by
 rw[K9] at f;let z:=m;rw[v60 f.1,cu (by rw[f.1,f.2];rfl)] at z;let#[p,k]:=XB (u:=Y1) h1 f.1 l;rw[<- E8 z,<- k e g x o f.2 j];cases x with
 | non=>rfl| bl b=>exact beq_self_eq_true b| int i=>exact beq_self_eq_true i| str w=>exact beq_self_eq_true w| _=>cases p
def ve3(I:lp X kI σ H s)(c:cx X.K G H):∀(n:br) (d e:D) (x:V) (A y:Sn) (b:cg),af X.K H d x->af X.K H e x->snap G n d=du A->snap G n e=du y->fQ n A y=du b->b=dS:=by
 intro n;induction n with
 | zero =>
  intro d e x A y b E C r q f;by_cases L:(iK A&&iK y)=dS
  .exact uu4 E C r q f L
  .rcases HA f L with⟨_,_,_,z,_⟩|⟨_,_,_,z,_⟩ <;> cases z
 | succ m ih =>
  intro d e x A y b E C r q f;by_cases L:(iK A&&iK y)=dS
  .exact uu4 E C r q f L
  let items:∀(j l:bf D) (xs:bf V) (g k:bf Sn) (u:bf cg),ah X.K H j xs->ah X.K H l xs->j.mapM (snap G m)=du g->l.mapM (snap G m)=du k->((g.zip k).mapM λp=>fQ m p.1 p.2)=du u->u.all id=dS:=by
   intro j l xs g k u N M o B J;rw[O5];intro b f;let#[i,hi,eb]:=sG.mp f;let#[l1,f1]:=vC o;let#[l2,f2]:=vC B;let#[l3,f3]:=vC J;let hz:(g.zip k).l=min g.l k.length:=tY;let e1:=N.l;let e2:=M.l;let Q:i<j.l:=()
   let Ls:i<l.l:=()
   let#[S,g1,s1]:=f1 i j[i] (B6 Q);let#[R,g2,s2]:=f2 i l[i] (B6 Ls);let Dz:(g.zip k)[i]?=du (S,R):=by rw[ri];exact#[g1,g2]
   let#[b',g3,s3]:=f3 i _ Dz;rw[B6 hi,eb] at g3;cases g3;let#[z1,lV,YM]:=N.get (B6 Q);let#[z2,Y,YL]:=M.get (B6 Ls);rw[lV] at Y;cases Y;exact ih j[i] l[i] z1 S R b YM YL s1 s2 s3
  rcases HA f L with⟨m',g,k,em,rfl,rfl⟩|⟨m',g,k,em,rfl,rfl⟩
  .cases em;let#[j,rfl]:=Fv r;let#[l,rfl]:=Fv q;let#[_,_,em,t,o]:=aV r;cases em;cases t;let#[_,_,em,t,B]:=aV q;cases em;cases t;let#[a,xs,rfl,N,vH]:=E.aU;let#[a',ys,O,M,rL]:=C.aU;cases O;let:=I.lQ N M;subst this;unfold fQ at f;split at f
   .let#[u,J,rfl]:=F6.mp f;exact items j l xs g k u vH rL o B J
   .cases f
  .cases em;let#[a,rfl]:=Fu r;let#[a',rfl]:=Fu q;cases E.ao;let O:=C.ao;cases O;let#[_,j,_,em,t,Z,o]:=cy r;cases em;cases t;let#[_,l,_,em,t,dz,B]:=cy q;cases em;cases t;rw[Z] at dz;cases dz;rw[o] at B;cases B;let#[xs,_,U]:=ft c Z;unfold fQ at f;split at f
   .let#[u,J,rfl]:=F6.mp f;exact items j j xs g g u U U o o J
   .rename_i h;exact cz rfl h
structure tw(G:Gp)(K:eM)(H:Hp)(m:br)(its bE:bf fx)(bs:bf cg):Prop where
 len:its.l=bE.l
 bl:bs.l=its.l
 at_:∀(j:br) (h1:j<its.l) (h2:j<bE.l) (h3:j<bs.l),∃d e x y sd se,af K H d x/\RelV x its[j]/\af K H e y/\RelV y bE[j]/\snap G m d=du sd/\snap G m e=du se/\fQ m sd se=du bs[j]
def QF{m:br}{ds h:bf D}{xs ys:bf V}{its x:bf fx}{g f:bf Sn}{bs:bf cg}(u:ah X.K H ds xs)(r:Vals xs its)(t:ah X.K H h ys)(q:Vals ys x) (O:ds.mapM (snap G m)=du g) (k2:h.mapM (snap G m)=du f) (hl:g.l=f.l) (N:((g.zip f).mapM λp=>fQ m p.1 p.2)=du bs):tw G X.K H m its x bs:=by
 let#[l1,f1]:=vC O;let#[l2,f2]:=vC k2;let#[l3,U]:=vC N;let hz:(g.zip f).l=min g.l f.length:=tY;let e1:=u.l;let e2:=t.l;let e3:=r.l;let e4:=q.l;apply#[(),(),λj S R Q=>?_];let l:j<ds.l:=()
 let A:j<h.l:=()
 let#[o,g1,J]:=f1 j ds[j] (B6 l);let#[n,g2,I]:=f2 j h[j] (B6 A);let Dz:(g.zip f)[j]?=du (o,n):=by rw[ri];exact#[g1,g2]
 let#[b',g3,E]:=U j _ Dz;rw[B6 Q] at g3;cases g3;let#[C,M,Y]:=u.get (B6 l);let#[B,L,Z]:=t.get (B6 A);let#[u1,y,k]:=r.get M;let#[u2,yx,i]:=q.get L;rw[B6 S] at y;rw[B6 R] at yx;cases y;cases yx;exact#[ds[j],h[j],C,B,o,n,Y,k,Z,i,J,I,E]
end
section
variable{X:Cx}{kI:bf (fy×jC)}{σ:L2.St}{H:Hp}{s:fC}{G:Gp}
def vm1(I:lp X kI σ H s)(p:af X.K H d x)(m:RelV x u)(i:af X.K H e y)(l:RelV y v)(h1:snap G n d=du h)(j:snap G n e=du g)(q:fQ n h g=du b)(f:(iK h&&iK g)=dS):EL A s u v b:=by
 rw[K9] at f;let o:b=RY h g:=by let z:=q;rw[v60 f.1,cu (by rw[f.1,f.2];rfl)] at z;exact(E8 z).M
 let#[t,k]:=XB (u:=u) h1 f.1 p;let#[r,_]:=XB (u:=v) j f.2 i;rw[o,<- k e g y j f.2 i];exact w83 m l t r
def xh4(I:lp X kI σ H s)(c:cx X.K G H):∀(n:br) (A:iC) (d e:D) (x y:V) (u v:fx) (B t:Sn) (b:cg),af X.K H d x->RelV x u->af X.K H e y->RelV y v->snap G n d=du B->snap G n e=du t->fQ n B t=du b->A.ga+n<cLine->EL A s u v b:=by
 intro n;induction n with
 | zero =>
  intro A d e x y u v B t b q J p E o l f hu;by_cases L:(iK B&&iK t)=dS
  .exact vm1 I q J p E o l f L
  .rcases HA f L with⟨_,_,_,z,_⟩|⟨_,_,_,z,_⟩ <;> cases z
 | succ m ih =>
  intro A d e x y u v B t b q J p E o l f hu;by_cases L:(iK B&&iK t)=dS
  .exact vm1 I q J p E o l f L
  .have inner:∀(its k:bf fx) (h:bf cg),tw G X.K H m its k h->∀j (o:j<its.e.v) (l:j<k.e.v),EL A.in1 s its.e[j] k.e[j] ((h[j]?).E dS):=by
    intro its k h P j o l;let uz:j<its.l:=by simpa using o
    let wg:j<k.l:=by simpa using l
    let Bv:j<h.l:=by rw[P.bl];exact uz
    let#[d',e',x',y',Ih,Ig,a1,a2,a3,a4,a5,a6,a7]:=P.at_ j uz wg Bv;rw[B6 Bv];let KI:A.in1.ga+m<cLine:=by let:A.in1.ga=A.ga+1:=rfl;omega
    let:=ih A.in1 d' e' x' y' _ _ Ih Ig _ a1 a2 a3 a4 a5 a6 a7 KI;simpa using this
   rcases HA f L with⟨m',ss,ts,em,rfl,rfl⟩|⟨m',ss,ts,em,rfl,rfl⟩
   .cases em;let#[ds,rfl]:=Fv o;let#[es,rfl]:=Fv l;let#[_,_,em,r,Z]:=aV o;cases em;cases r;let#[_,_,em,r,Y]:=aV l;cases em;cases r;let#[a,xs,rfl,q1,O]:=q.aU;let#[a',ys,rfl,q2,U]:=p.aU;cases J;cases E;by_cases C:a=a'
    .subst C;rw[ve3 I c (m+1) (.tup ds) (.tup es) (.ref a) _ _ b q p o l f];exact BJ _
    .unfold fQ at f;split at f
     .rename_i g;let#[h,kb,rfl]:=F6.mp f;let#[its,N,S,_]:=I.tuple q1;let#[k,M,Q,_]:=I.tuple q2;let P:=QF O N U M Z Y g kb;let R:=C30 (A:=A) (s:=s) (e:=λj=>(h[j]?).E dS) (show s.o.IsTuple a its.e from S) (show s.o.IsTuple a' k.e from Q) () (inner its k h P);let e1:((D3 (min its.e.v k.e.v)).all (λj=>(h[j]?).E dS)&&its.e.v==k.e.v)=h.all id:=by
       let el:its.e.v=k.e.v:=by simpa using P.len
       rw[el,Oc,beq_self_eq_true,DB];exact PY (by rw[<- el];simpa using P.bl) λi b f=>by rw[f];rfl
      rw[e1] at R;exact BI C R
     .cases f
   .cases em;let#[a,rfl]:=Fu o;let#[a',rfl]:=Fu l;let#[_,ds,_,em,r,iG,Z]:=cy o;cases em;cases r;let#[_,es,_,em,r,dz,Y]:=cy l;cases em;cases r;cases q.ao;cases p.ao;cases J;cases E;by_cases C:a=a'
    .subst C;rw[ve3 I c (m+1) (.ref a) (.ref a) (.ref a) _ _ b q p o l f];exact BJ _
    .let#[xs,q1,O]:=ft c iG;let#[ys,q2,U]:=ft c dz;let#[its,N,S,_]:=I.list q1;let#[k,M,Q,_]:=I.list q2;unfold fQ at f;split at f
     .rename_i g;let#[h,kb,rfl]:=F6.mp f;let P:=QF O N U M Z Y g kb;let el:its.e.v=k.e.v:=by simpa using P.len
      let R:=C43 (A:=A) (s:=s) (e:=λj=>(h[j]?).E dS) S.Y Q.Y el () (inner its k h P);let e1:((D3 its.e.v).all (λj=>(h[j]?).E dS))=h.all id:=
       PY (by simpa using P.bl) λi b f=>by rw[f];rfl
      rw[e1] at R;exact BI C R
     .rename_i g;cases f;let n1:=(vC Z).1;let n2:=(vC Y).1;let m1:=O.l;let m2:=U.l;let m3:=N.l;let m4:=M.l;exact BI C (B31 S.Y Q.Y (by simp;omega) ())
end
def Ip(K:eM)(neg:cg):R2:=λx y H Q=>∃(d e:D) (G:Gp) (n:br) (f g:Sn) (b:cg),af K H d x/\af K H e y/\cx K G H/\n<=40/\snap G n d=du f/\snap G n e=du g/\fQ n f g=du b/\iK f=eH/\Q (.bl (if neg then !b else b)) H
section
variable{X:Cx}{k:br}
def v61(hr:aZ k X.A)(I:lp X kI σ H s)(rx:RelV x v)(ry:RelV y u)(r1:af X.K H d x)(r2:af X.K H e y)(c:cx X.K G H)(hn:n<=40)(h1:snap G n d=du sd)(h2:snap G n e=du se)(hb:fQ n sd se=du b)(fl:iK sd=eH):SeqAt.RcAt X.A s v u b/\SeqAt.RcNeAt X.A s v u (!b):=by
  let hu:=hr.ga;rcases HA hb (λz=>by rw[fl] at z;cases z) with⟨m,ss,ts,rfl,rfl,rfl⟩|⟨m,ss,ts,rfl,rfl,rfl⟩
  · let#[ds,rfl]:=Fv h1
    let#[es,rfl]:=Fv h2
    · · · obtain ⟨_,ss',em,ez,k1⟩:= aV h1
          cases em;cases ez;obtain⟨m',ts',em,Bx,k2⟩:=aV h2;cases em;cases Bx;obtain⟨a,xs,rfl,q1,vH⟩:=r1.aU;obtain⟨a',ys,rfl,q2,rL⟩:=r2.aU;cases rx;cases ry;unfold fQ at hb;split at hb
          · rename_i hlen
            obtain⟨bs,kb,rfl⟩:=F6.mp hb;obtain⟨its,w1,t1,_⟩:=I.tuple q1;obtain⟨bE,w2,t2,_⟩:=I.tuple q2;let P:=QF vH w1 rL w2 k1 k2 hlen kb;let he:∀j (h1:j<its.e.v) (h2:j<bE.e.v),EL X.A.in1 s its.e[j] bE.e[j] ((bs[j]?).E dS):=by
              intro j h1 h2;let uz:j<its.l:=by simpa using h1
              let wg:j<bE.l:=by simpa using h2
              let Bv:j<bs.l:=by rw[P.bl];exact uz
              obtain⟨d',e',x',y',Ih,Ig,a1,a2,a3,a4,a5,a6,a7⟩:=P.at_ j uz wg Bv;rw[B6 Bv];let:=xh4 I c m X.A.in1 d' e' x' y' _ _ Ih Ig _ a1 a2 a3 a4 a5 a6 a7 (by let:X.A.in1.ga=X.A.ga+1:=rfl;omega);simpa using this
            let e1:((D3 (min its.e.v bE.e.v)).all (λj=>(bs[j]?).E dS)&&its.e.v==bE.e.v)=bs.all id:=by
              let el:its.e.v=bE.e.v:=by simpa using P.len
              rw[el,Oc,beq_self_eq_true,DB];exact PY (by rw[<- el];simpa using P.bl) λi b hb=>by rw[hb];rfl
            rw[<- e1];exact⟨C30 (e:=λj=>(bs[j]?).E dS) (show s.o.IsTuple a its.e from t1) (show s.o.IsTuple a' bE.e from t2) () he,D56 (e:=λj=>(bs[j]?).E dS) (show s.o.IsTuple a its.e from t1) (show s.o.IsTuple a' bE.e from t2) () he⟩
          · cases hb
  · let#[a,rfl]:=Fu h1
    let#[a',rfl]:=Fu h2
    · · · obtain ⟨_,ds,ss',em,ez,iG,k1⟩:= cy h1
          cases em;cases ez;obtain⟨m',es,ts',em,Bx,dz,k2⟩:=cy h2;cases em;cases Bx;cases r1.ao;cases r2.ao;cases rx;cases ry;obtain⟨xs,q1,vH⟩:=ft c iG;obtain⟨ys,q2,rL⟩:=ft c dz;obtain⟨its,w1,t1,_⟩:=I.list q1;obtain⟨bE,w2,t2,_⟩:=I.list q2;unfold fQ at hb;split at hb
          · rename_i hlen
            obtain⟨bs,kb,rfl⟩:=F6.mp hb;let P:=QF vH w1 rL w2 k1 k2 hlen kb;let el:its.e.v=bE.e.v:=by simpa using P.len
            let he:∀j (h1:j<its.e.v) (h2:j<bE.e.v),EL X.A.in1 s its.e[j] bE.e[j] ((bs[j]?).E dS):=by
              intro j h1 h2;let uz:j<its.l:=by simpa using h1
              let wg:j<bE.l:=by simpa using h2
              let Bv:j<bs.l:=by rw[P.bl];exact uz
              obtain⟨d',e',x',y',Ih,Ig,a1,a2,a3,a4,a5,a6,a7⟩:=P.at_ j uz wg Bv;rw[B6 Bv];let:=xh4 I c m X.A.in1 d' e' x' y' _ _ Ih Ig _ a1 a2 a3 a4 a5 a6 a7 (by let:X.A.in1.ga=X.A.ga+1:=rfl;omega);simpa using this
            let e1:((D3 its.e.v).all (λj=>(bs[j]?).E dS))=bs.all id:=
              PY (by simpa using P.bl) λi b hb=>by rw[hb];rfl
            rw[<- e1];exact⟨C43 (e:=λj=>(bs[j]?).E dS) t1.Y t2.Y el () he,D63 (e:=λj=>(bs[j]?).E dS) t1.Y t2.Y el () he⟩
          · rename_i hlen
            cases hb;let n1:=(vC k1).1;let n2:=(vC k2).1;let m1:=vH.l;let m2:=rL.l;let m3:=w1.l;let m4:=w2.l;exact⟨B31 t1.Y t2.Y (by simp;omega) (),C72 t1.Y t2.Y (by simp;omega) ()⟩
def x39(l:aZ k X.A):dM X (L8 .Eq) (Ip X.K eH):=by intro kI s B H x y v u Q I g f h;let#[d,e,G,n,E,C,b,j,i,c,m,r,p,o,t,q]:=h;exact(v61 l I g f j i c m r p o t).1 X.c X.w X.xe _ #[.bl b,H,I,rfl,q]
def x37(l:aZ k X.A):dM X (L8 .NotEq) (Ip X.K dS):=by intro kI s B H x y v u Q I g f h;let#[d,e,G,n,E,C,b,j,i,c,m,r,p,o,t,q]:=h;exact(v61 l I g f j i c m r p o t).2 X.c X.w X.xe _ #[.bl (!b),H,I,rfl,q]
end
structure FnAt(K:eM)(x qual:gq)(st:hC)(ps:bf gq) where
 a:fy
 fd:yO
 ex:∃(oc:fx) (od:b0 fy) (dV kV doc pm:fx) (an:b0 fy) (jE ct:fx) (Bf:dc (b0 fx)),
  fd=fv x qual (uS st) (sJ st) (bj st) dV kV doc pm an jE ct/\K.q a=du #[oc,od,.func fd,Bf]/\W.codeIn K jE qual=dS
 kp:W.keepIn K (.ref a)=dS
 b:Binds K fd ps []
abbrev Ok(P:hH)(w:hL){K:eM}(mg:gq->b0 fx)(base:hR)(n:br){x f:gq}{st:hC}{ps:bf gq}(d:FnAt K x f st ps)(S:fS):ck:=bJ P w K mg base qR n d.a d.fd ps (cU K S)
def ub:bf gq->bf D->d9
 | [],f=>f.t du| _::N,d::f=>du d::ub N f| _::N,[]=>dv::ub N []
def v33(x:gq)(N:bf gq)(d:D)(ds:bf D):ub (x::N) (d::ds)=du d::ub N ds:=rfl
def v32(x:gq)(N:bf gq):ub (x::N) []=dv::ub N []:=rfl
def vs6:ub [] []=[]:=rfl
theorem Yj:∀(N:bf gq) (ds:bf D),ub N ds=ds.t du++C7 (N.l-ds.l) dv
 | [],ds=>by simp[ub]| _::N,d::ds=>by rw[v33,Yj N ds];simp[Nt]| _::N,[]=>by rw[v32,Yj N []];simp[K4]
def v85{K:eM}{H:Hp}{N:bf gq}{ds:bf D}{vs:bf V}(r:ah K H ds vs):bP K H (ub N ds) (L2.start N vs):=by
 rw[Yj];unfold L2.start;apply#[by simp[r.l],λi d e=>?_];by_cases hi:i<ds.l
 .rw[J4 (by simpa using hi),F5] at e;rw[J4 (by simpa[<- r.l] using hi),F5];cases h:ds[i]? with
  | none=>rw[h] at e;cases e
  | some j =>rw[h] at e;cases e;let#[v,g,f]:=r.get h;exact#[v,by rw[g];rfl,f]
 .rw[F9 (by simpa using hi),rz] at e;split at e <;> cases e
section
variable{P:hH}{w:hL}{K:eM}{mg:gq->b0 fx}{base:hR}
def Fc{x g:gq}{st:hC}{ps N:bf gq}{k:br}(d:FnAt K x g st ps){S:fS}(J:ae N ps (bj st))(X:∀ds G R,S ds G R->ds.l=ps.l){t:fR} (O:∀(i:fx) (A:iC) (outer:bf Env) (s:fC) (H:Hp) (E:XK),aZ k (A.deeper (envOfC g (bj st) s.o.h.v d.a i))->uI (sy qR P w K mg base N g (bj st) d.a i A outer s H E).zF (sJ st) t) (Y:∀ds G R,S ds G R->t { nx:=λ_ m=>R .non m,rt:=R} (ub N ds) G):Ok P w mg base (k+1) d S:=by
 let#[L,od,p,kV,doc,o,an,i,u,Bf,e,lk,I]:=d.ex;let j:K.q d.a=du #[L,od,.func (fv x g (uS st) (sJ st) (bj st) p kV doc o an i u),Bf]:=e▸lk;let F:bJ P w K mg base qR (k+1) d.a (fv x g (uS st) (sJ st) (bj st) p kV doc o an i u) ps (cU K S):=by
  apply xr1 j I J (λC H Q E h=>?_) λA outer s H C Q E U h=>?_
  .let#[ds,G,R,r,_,l,_]:=h;rw[<- r.l];exact X ds G R l
  .let#[ds,G,R,r,c,l,f]:=h;apply#[_,(show qQ _ _ _ from O i A outer s H E U).zF,ub N ds,G,_,v85 r,c,Y ds G R l,λn m B H' _ Z M q=>?_,f,λ_ _ _ _ _ _ _ q=>q.n,λ_ _ _ _ _ _ _ q=>q.n];exact f .non m .non H' af.vK Z M q
 let y:=F;rw[<- e] at y;exact y
end
section
variable{X:Cx}{e o:gI}{es:bf gI}{p pos apos:jU}{ta:bI}{ts:eD}{k n:br}{S:fS}{x m qual:gq}{st:hC}{ps:bf gq}{C:fy}
def ec(d:FnAt X.K x qual st ps)(h:X.mg x=du (.ref d.a))(G:bJ X.c X.w X.K X.mg X.Q qR k d.a d.fd ps (cU X.K S))(g:aZ k X.A)(l:A3 X (e::es) ts)(i:Gl X x:=by rfl)(f:(x==("__debug__" :gq))=eH:=by decide)
  (j:D2 (e::es) X.f=(eH,eval e X.f)::D2 es X.env:=by rfl) (q:(backTo pos (D2 es X.f)).any (·.1)=eH:=by rfl):E3 X (.Call (.Name x p) (e::es) [] pos) (jo S [] ts):=
 xi0 G g i h d.kp d.b .nil (λ_=>.nil) l f j q
def em(c:kP X.K C)(d:FnAt X.K m qual st ps)(l:Meth X.K C m d.a)(G:bJ X.c X.w X.K X.mg X.Q qR k d.a d.fd ps (cU X.K S))(j:aZ k X.A)(q:E3 X o ta)(r:A3 X (e::es) ts) (g:D2 (e::es) X.f=(eH,eval e X.f)::D2 es X.env:=by rfl) (t:(backTo pos (D2 es X.f)).any (·.1)=eH:=by rfl)
  (i:eval (.Call (.Attribute o m apos) (e::es) [] pos) X.f=(do
   let h <- eval o X.f
   yM apos.atName
   let (f,first) <- holding [h] (Ci h m pl)
   Gs pos f first (backTo pos (D2 (e::es) X.f)) (Y0 pos (Q4 [] X.f))):=by rfl):E3 X (.Call (.Attribute o m apos) (e::es) [] pos) (ye C m S [] ta ts):=
 xh6 q c l G j d.b .nil (λ_=>.nil) r g t i
def nG(c:kP X.K C)(d:FnAt X.K m qual st ps)(j:Meth X.K C m d.a)(G:bJ X.c X.w X.K X.mg X.Q qR k d.a d.fd ps (cU X.K S))(i:aZ k X.A)(l:E3 X o ta)
  (h:eval (.Call (.Attribute o m apos) [] [] pos) X.f=(do
   let g <- eval o X.f
   yM apos.atName
   let (f,first) <- holding [g] (Ci g m pl)
   Gs pos f first (backTo pos (D2 [] X.f)) (Y0 pos (Q4 [] X.f))):=by rfl):E3 X (.Call (.Attribute o m apos) [] [] pos) (ye C m S [] ta iy):=
 ws2 l c j G i d.b .nil (λ_=>.nil) h
end
def spec(pre:bf D->Gp->ck)(k0:bf D->Gp->D->Gp->ck):fS:=λf G R=>pre f G/\∀d g,k0 f G d g->R d g
def vd6{pre:bf D->Gp->ck}{k0:bf D->Gp->D->Gp->ck}{ds:bf D}{G:Gp}{q:DK}(h:pre ds G)(k:∀d f,k0 ds G d f->q d f):∃R,spec pre k0 ds G R/\∀d f,R d f->q d f:=#[k0 ds G,#[h,λ_ _ z=>z],k]
def xj1(Rq:Scope)(N N':bf gq)(ix:bf (b0 br))(scope:Scope):cg:=
 (scope.gb == .function)&&scope.U.all (λy=>y.2 != .cell)&&scope.U.all (λy=>y.2 != .local||scope.U.q y.1==du .local) &&
 scope.U.all (λy=>y.2 != .free||Rq.U.q y.1==du .cell||Rq.U.q y.1==du .free)&&(ix.l==N'.l) &&
 (N'.zip ix).all (λp=>match p.2 with|none=>dS|some j=>N[j]?==du p.1&&scope.U.q p.1==du .free)
def iA{X:Cx}(h1:X.f.J=u)(o:X.N=N)(h:xj1 u N N' ix scope=dS):kS X N' ix scope:=by
 unfold xj1 at h;simp only[K9] at h;let#[#[#[#[#[t,m],l],k],r],g]:=h;rw[O5] at m l k g;apply#[eq_of_beq t,λy f=>by simpa using m y f,λy f e=>?_,λy f e=>?_,eq_of_beq r,λi j x q p=>?_]
 .have:=l y f;simp only[e,bne_self_eq_false,N7] at this;exact eq_of_beq this
 .have:=k y f;simp only[e,bne_self_eq_false,N7,oK,beq_iff_eq] at this;unfold Env.kindOf;rw[h1];exact this
 .have n:(N'.zip ix)[i]?=du (x,du j):=by rw[ri];exact#[q,p]
  let:=g _ (K5 n);simp only[K9,beq_iff_eq] at this;rw[o];exact this
section
variable{X:Cx}{K:eM}{H:Hp}
def Qq:Me:=λx lo hi G q=>match x with
 | .ref a=>(match bt (G a) with|some f=>∀p,G p=dv->q (.ref p) (aC G p (.lst (cutD f lo hi)))|none=>b8)
 | .tup f=>¬ (HT.cD f.l 0 lo=0/\HT.cD f.l f.l hi=f.l)/\q (.tup (cutD f lo hi)) G| _=>b8
def Cn:uJ X (oB X.K Qq):=w09 (zr.or wz4) <| by
 intro x lo hi H Q #[d,G,q,j,c,t,f];unfold Qq at t;split at t
 .rename_i a;split at t
  .rename_i k e;let#[xs,i,h]:=ft c e;exact .inl #[a,xs,j.ao,i,λp g=>f _ _ _ _ af.fG (c.cY g (h.cut lo hi)) (Le.y g) (t p (c.y g))]
  .exact t.n
 .rename_i k;let#[a,xs,rfl,i,h]:=j.aU;apply .inr #[a,xs,rfl,i,by rw[<- h.l];exact t.1,λp g=>?_];apply f (.tup _) G (.ref p) _ ?_ (c.side g) (Le.y g) t.2;rw[af];exact#[p,_,rfl,eR.of iL,ah.le (Le.y g) (h.cut lo hi)]
 .exact t.n
def yT:C3:=λf G q=>match f with
 | [.str z]=>z.l<=iZ/\q (.int z.l) G| [.tup xs]=>q (.int xs.l) G| [.ref a]=>(match bt (G a) with|some xs=>q (.int xs.l) G|none=>b8)
 | _=>b8
def ah.one(h:ah K H [d] vs):∃v,vs=[v]/\af K H d v:=by let#[x,r,rfl,g,f]:=h.aq;rw[f.aX];exact#[x,rfl,g]
def ah.two(h:ah K H [d,e] vs):∃v u,vs=[v,u]/\af K H d v/\af K H e u:=by let#[x,r,rfl,i,g]:=h.aq;let#[y,rfl,f]:=g.one;exact#[x,y,rfl,i,f]
def eG:Call3 X (.builtin "len") yT:=nR (nH.or uw6) <| by
 intro xs H Q #[k,G,q,r,c,t,f];unfold yT at t;rcases k with _|⟨d,_|⟨_,_⟩⟩ <;> first|exact t.n|(cases d <;> first|exact t.n|dsimp only at t)
 .let#[v,rfl,g]:=r.one;cases g.fi;exact .inr #[_,rfl,t.1,f _ _ _ _ af.c8 c (Le.j H) t.2]
 .let#[v,rfl,g]:=r.one;let#[a,h,rfl,i,j]:=g.aU;apply .inl #[a,h,rfl,.inr i,?_];rw[<- j.l];exact f _ _ _ _ af.c8 c (Le.j H) t
 .let#[v,rfl,g]:=r.one;cases g.ao;split at t
  .rename_i k e;let#[h,i,j]:=ft c e;apply .inl #[_,h,rfl,.inl i,?_];rw[<- j.l];exact f _ _ _ _ af.c8 c (Le.j H) t
  .exact t.n
def Cr:C3:=λf G q=>match f with|[.int i]=>q (.int (if i<0 then -i else i)) G|_=>b8
def xo4:Call3 X (.builtin "abs") Cr:=nR vz8 <| by
 intro xs H Q #[h,G,q,r,c,t,f];unfold Cr at t;split at t
 .let#[v,rfl,g]:=r.one;cases g.O;exact#[_,rfl,f _ _ _ _ af.c8 c (Le.j H) t]
 .exact t.n
def XR:C3:=λf G q=>match f with|[.int i,.int j]=>Ar i j/\q (.tup [.int (i / j),.int (i%j)]) G|_=>b8
def vr3:Call3 X (.builtin "divmod") XR:=nR v12 <| by
 intro xs H Q #[j,G,q,r,c,t,f];unfold XR at t;split at t
 .let#[v,u,rfl,i,h]:=r.two;cases i.O;cases h.O;apply#[_,_,rfl,t.1,λp g=>f (.tup _) G (.ref p) _ ?_ (c.side g) (Le.y g) t.2];rw[af];exact#[p,_,rfl,eR.of iL,.cons af.c8 (.cons af.c8 .nil)]
 .exact t.n
def WK:C3:=λf G q=>match f with|[.int i,.int j]=>q (.int (if j>i then j else i)) G|_=>b8
def WM:C3:=λf G q=>match f with|[.int i,.int j]=>q (.int (if j<i then j else i)) G|_=>b8
def ww3(i:X.calm=dS:=by rfl):Call3 X (.builtin "max") WK:=nR (vp1 i) <| by
 intro xs H Q #[j,G,q,r,c,t,f];unfold WK at t;split at t
 .let#[v,u,rfl,h,g]:=r.two;cases h.O;cases g.O;exact#[_,_,rfl,f _ _ _ _ af.c8 c (Le.j H) t]
 .exact t.n
def w04(i:X.calm=dS:=by rfl):Call3 X (.builtin "min") WM:=nR (vo9 i) <| by
 intro xs H Q #[j,G,q,r,c,t,f];unfold WM at t;split at t
 .let#[v,u,rfl,h,g]:=r.two;cases h.O;cases g.O;exact#[_,_,rfl,f _ _ _ _ af.c8 c (Le.j H) t]
 .exact t.n
def Qr:C3:=λf G q=>match f with|[.int i]=>q (.int i) G|[.bl b]=>q (.int (if b then 1 else 0)) G|_=>b8
def AQ:Call3 X (.type "int") Qr:=nR vp3 <| by
 intro xs H Q #[h,G,q,r,c,t,f];unfold Qr at t;split at t
 .let#[v,rfl,g]:=r.one;cases g.O;exact .inl #[_,rfl,f _ _ _ _ af.c8 c (Le.j H) t]
 .let#[v,rfl,g]:=r.one;cases g.cO;exact .inr #[_,rfl,f _ _ _ _ af.c8 c (Le.j H) t]
 .exact t.n
def QJ:C3:=λf G q=>match f with
 | [.tup xs]=>∀p,G p=dv->q (.ref p) (aC G p (.lst xs))| [.ref a]=>(match bt (G a) with|some xs=>∀p,G p=dv->q (.ref p) (aC G p (.lst xs))|none=>b8)
 | _=>b8
def FA:Call3 X (.type "list") QJ:=nR uw5 <| by
 intro xs H Q #[l,G,q,r,c,t,f];unfold QJ at t;split at t
 .let#[v,rfl,j]:=r.one;let#[a,h,rfl,i,k]:=j.aU;exact#[a,h,rfl,.inr i,λp g=>f _ _ _ _ af.fG (c.cY g k) (Le.y g) (t p (c.y g))]
 .let#[v,rfl,j]:=r.one;cases j.ao;split at t
  .rename_i l e;let#[h,i,k]:=ft c e;exact#[_,h,rfl,.inl i,λp g=>f _ _ _ _ af.fG (c.cY g k) (Le.y g) (t p (c.y g))]
  .exact t.n
 .exact t.n
def HG:C3:=λf G q=>match f with
 | [.tup xs]=>q (.tup xs) G| [.ref a]=>(match bt (G a) with|some xs=>q (.tup xs) G|none=>b8)
 | _=>b8
def ym:Call3 X (.type "tuple") HG:=nR ut0 <| by
 intro xs H Q #[l,G,q,r,c,t,f];unfold HG at t;split at t
 .let#[v,rfl,g]:=r.one;let#[a,h,rfl,i,k]:=g.aU;exact#[a,h,rfl,.inr #[i,f _ _ _ _ g c (Le.j H) t]]
 .let#[v,rfl,g]:=r.one;cases g.ao;split at t
  .rename_i l e;let#[h,i,k]:=ft c e;apply#[_,h,rfl,.inl #[i,λp j=>f (.tup _) G (.ref p) _ ?_ (c.side j) (Le.y j) t]];rw[af];exact#[p,_,rfl,eR.of iL,ah.le (Le.y j) k]
  .exact t.n
 .exact t.n
def Cw:bf D->b0 (bf cg)
 | []=>du []| .bl b::r=>(Cw r).t (b::·)| _=>dv
theorem ux3:∀{ds:bf D} {bs:bf cg} {vs:bf V},Cw ds=du bs->ah K H ds vs->vs=bs.t V.bl
 | [],bs,vs,e,r=>by cases e;rw[r.aX];rfl
 | .bl b::ds,bs,vs,e,r=>by let#[x,xs,rfl,g,f]:=r.aq;let#[i,h,rfl]:=F6.mp (show(Cw ds).t (b::·)=du bs from e);rw[g.cO,ux3 h f];rfl| .non::_,_,_,e,_=>by cases e
 | .int _::_,_,_,e,_=>by cases e
 | .str _::_,_,_,e,_=>by cases e
 | .tup _::_,_,_,e,_=>by cases e
 | .ref _::_,_,_,e,_=>by cases e
 | .ty _::_,_,_,e,_=>by cases e
def Cq:C3:=λf G q=>match f with
 | [.ref a]=>(match bt (G a) with|some xs=>(match Cw xs with|some g=>q (.bl (g.all id)) G|none=>b8)|none=>b8)
 | _=>b8
def WN(j:X.calm=dS:=by rfl):Call3 X (.builtin "all") Cq:=nR (vz7 j) <| by
 intro xs H Q #[l,G,q,r,c,t,f];unfold Cq at t;split at t
 .let#[v,rfl,h]:=r.one;cases h.ao;split at t
  .rename_i l e;let#[n,g,i]:=ft c e;split at t
   .rename_i m k;let:=ux3 k i;subst this;exact#[_,m,rfl,g,f _ _ _ _ af.nJ c (Le.j H) t]
   .exact t.n
  .exact t.n
 .exact t.n
def AI:bf D->b0 (bf bz)
 | []=>du []| .int b::r=>(AI r).t (b::·)| _=>dv
theorem Ra:∀{ds:bf D} {bs:bf bz} {vs:bf V},AI ds=du bs->ah K H ds vs->vs=bs.t V.int
 | [],bs,vs,e,r=>by cases e;rw[r.aX];rfl
 | .int b::ds,bs,vs,e,r=>by let#[x,xs,rfl,g,f]:=r.aq;let#[i,h,rfl]:=F6.mp (show(AI ds).t (b::·)=du bs from e);rw[g.O,Ra h f];rfl| .non::_,_,_,e,_=>by cases e
 | .bl _::_,_,_,e,_=>by cases e
 | .str _::_,_,_,e,_=>by cases e
 | .tup _::_,_,_,e,_=>by cases e
 | .ref _::_,_,_,e,_=>by cases e
 | .ty _::_,_,_,e,_=>by cases e
def vq:C3:=λf G q=>match f with
 | [.ref a]=>(match bt (G a) with|some xs=>(match AI xs with|some g=>q (.int g.sum) G|none=>b8)|none=>b8)
 | _=>b8
def ww0(j:X.calm=dS:=by rfl):Call3 X (.builtin "sum") vq:=nR (vz6 j) <| by
 intro xs H Q #[l,G,q,r,c,t,f];unfold vq at t;split at t
 .let#[v,rfl,h]:=r.one;cases h.ao;split at t
  .rename_i l e;let#[n,g,i]:=ft c e;split at t
   .rename_i m k;let:=Ra k i;subst this;exact#[_,m,rfl,g,f _ _ _ _ af.c8 c (Le.j H) t]
   .exact t.n
  .exact t.n
 .exact t.n
def AE(G:Gp):D->b0 String
 | .non=>du "NoneType"| .bl _=>du "bool"| .int _=>du "int"| .str _=>du "str"| .ref a=>match G a with|some (.lst _)=>du "list"| some (.uB _)=>du "list"| some (.bR _)=>du "dict"| _=>dv
 | _=>dv
def XT:C3:=λf G q=>match f with
 | [x,.ty T]=>(T = "int" \/ T = "str" \/ T = "bool" \/ T = "list" \/ T = "tuple" \/ T = "dict")/\(match AE G x with|some n=>q (.bl (j4 n T)) G|none=>b8)
 | _=>b8
def QT:Call3 X (.builtin "isinstance") XT:=nR v09 <| by
 intro xs H Q #[p,G,q,r,c,t,f];unfold XT at t;split at t
 .rename_i d T;let#[v,u,rfl,i,l]:=r.two;rw[af] at l;subst l;let#[m,t]:=t;split at t
  .rename_i n g;apply#[v,n,T,rfl,?_,m,f _ _ _ _ af.nJ c (Le.j H) t];unfold AE at g;split at g
   .cases i.eP;cases g;rfl
   .cases i.cO;cases g;rfl
   .cases i.O;cases g;rfl
   .cases i.fi;cases g;rfl
   .rename_i a;cases i.ao;split at g
    .rename_i xs k;cases g;let#[h,j,_]:=c _ _ k;exact .inl #[rfl,.inl #[h,j]]
    .rename_i xs k;cases g;let#[o,h,j,_]:=c _ _ k;exact .inl #[rfl,.inr #[o,h,j]]
    .rename_i xs k;cases g;let#[h,j,_]:=c _ _ k;exact .inr (.inr #[rfl,h,j])
    .cases g
   .cases g
  .exact t.n
 .exact t.n
def Hc(h:X.mg x=dv)(f:R9 x=du (.type T))(i:Gl X x:=by rfl)(g:x ≠ "__name__" := by decide)(j:(x==("__debug__" :gq))=eH:=by decide):E3 X (.Name x pos) (dC (.ty T)):=dW (wn9 (v:=.ty T) i h f rfl g j) λ_ _ _=>EU λ_=>by rw[af]
def GQ:R3:=λx y G q=>match y with
 | .non=>(match x with|.non=>q (.bl dS) G|_=>q (.bl eH) G)
 | .bl b=>(match x with|.bl c=>q (.bl (decide (c=b))) G|_=>q (.bl eH) G)
 | _=>b8
def QI:R3:=λx y G q=>match y with
 | .non=>(match x with|.non=>q (.bl eH) G|_=>q (.bl dS) G)
 | .bl b=>(match x with|.bl c=>q (.bl (!decide (c=b))) G|_=>q (.bl dS) G)
 | _=>b8
def af.Dk(h:af K H d v)(b:cg)(n:∀c,d≠.bl c):v≠.bl b:=by
 cases d with
 | bl c=>exact cz rfl (n c)| non=>rw[h.eP];exact λz=>nomatch z| int _=>rw[h.O];exact λz=>nomatch z| str _=>rw[h.fi];exact λz=>nomatch z| ref _=>rw[h.ao];exact λz=>nomatch z| ty _=>rw[af] at h;rw[h];exact λz=>nomatch z| tup _=>let#[a,xs,e,_]:=h.aU;rw[e];exact λz=>nomatch z
def v66:decide (V.bl c=V.bl b)=decide (c=b):=by cases c <;> cases b <;> rfl
def vr2:gO X (L8 .IsNot) QI:=uc (zD.or vh0) <| by
 intro x y H Q #[d,e,G,q,g,i,c,t,f];unfold QI at t;split at t
 .apply .inl #[i.eP,?_];split at t
  .rw[g.eP];exact f _ _ _ _ af.nJ c (Le.j H) t
  .rename_i h;rw[c7 (g.zG λz=>h z)];exact f _ _ _ _ af.nJ c (Le.j H) t
 .rename_i b;apply .inr #[b,i.cO,?_];split at t
  .rw[g.cO,v66];exact f _ _ _ _ af.nJ c (Le.j H) t
  .rename_i h;rw[c7 (g.Dk b λz j=>h z j)];exact f _ _ _ _ af.nJ c (Le.j H) t
 .exact t.n
end
def zL(n:br)(t:sC):qO:=λd g G q=>match d with
 | .tup f=>f.l=n/\t f g G q| .ref a=>(match bt (G a) with|some f=>f.l=n/\t f g G q|none=>b8)
 | _=>b8
def yW(te:bI):uH:=λh G r=>te h G λx g=>match x with
 | .ref a=>(match bt (g a) with|some f=>r #[f,λG=>bt (G a)=du f] g|none=>b8)
 | .tup f=>r #[f,λ_=>dm] g| _=>b8
section
variable{X:Cx}{es:bf gI}{e tg:gI}{te:bI}{pos:jU}
def yY(u:X.calm=dS)(h:Si X es t)(p:(U1 es X.f).l=n:=by rfl)(o:(U1 es X.f).findIdx? (·.1)=dv:=by rfl):J3 X (.Tuple es k pos) (zL n t):=
 WI (xp7 (x16 u h p o) (wn0 u h p o)) λv y H Q x=>by
  let#[d,g,G,q,r,j,c,t,f]:=x;unfold zL at t;split at t
  .rename_i i;let#[a,xs,rfl,s,l]:=r.aU;exact .inl #[a,xs,rfl,s,by rw[<- l.l];exact t.1,i,g,G,q,l,j,c,t.2,f]
  .rename_i a;split at t
   .rename_i i e;let#[xs,s,m]:=ft c e;exact .inr #[a,xs,r.ao,s,by rw[<- m.l];exact t.1,i,g,G,q,m,j,c,t.2,f]
   .exact t.n
  .exact t.n
def gY(h:E3 X e te):I3 X tg e (yW te):=CD (x14 h) λo H R m=>by
 let#[i,G,q,l,c,t,f]:=m;apply#[i,G,_,l,c,t,λx u v p j c1 k g=>?_];split at g
 .rename_i a;split at g
  .rename_i n e;let#[xs,s,_]:=ft c1 e;exact#[a,j.ao,.inl #[#[xs,s],f _ _ _ _ v99 c1 k g]]
  .exact g.n
 .rename_i n;let#[a,xs,rfl,s,r]:=j.aU;exact#[a,rfl,.inr #[#[xs,s],f _ _ _ _ (vk8 s r) c1 k g]]
 .exact g.n
end
section
variable{X:Cx}{e o:gI}{es:bf gI}{to:bI}{ts:eD}{apos aS:jU}
def ty_list(K:eM):∀G H x v,cx K G H->af K H x v->lP G "list" x->CT K "list" v H:=by
 intro G H x v c r t;cases x with
 | ref a =>
  cases r.ao;cases e:G a with
  | none=>simp[lP,e] at t| some o =>
   cases o with
   | lst f=>let#[xs,s,_]:=ft (ds:=f) c (by rw[e];rfl);exact .inl #[rfl,xs,s]| uB f=>let#[xs,s,_]:=ft (ds:=f) c (by rw[e];rfl);exact .inl #[rfl,xs,s]| bR _=>simp[lP,e] at t| LL _=>simp[lP,e] at t| sZ _=>simp[lP,e] at t| ins _ _=>simp[lP,e] at t| exc _ _=>simp[lP,e] at t| sf _ _=>simp[lP,e] at t| tb _ _=>simp[lP,e] at t
 | str _=>simp[lP] at t| int _=>simp[lP] at t| _=>exact t.n
def Hn:M3:=λx f G q=>match x,f with
 | .ref a,[d]=>(match G a with|some (.lst xs)=>xs.l<iZ/\q .non (aC G a (.lst (xs++[d])))|_=>b8)
 | _,_=>b8
def mM(p:E3 X o to)(r:A3 X (e::es) ts)(B:O1 o "append" X.f (eval o X.f)=eval o X.env:=by rfl)
  (m:((backTo aS (D2 (e::es) X.f)).all (λx=>!x.1)&&(Y0 aS (Q4 [] X.f)).all (λx=>x.1.fg)
   && decide ((e::es).l+([]:bf i4).l+(if([]:bf i4).isEmpty then 0 else 1)<30))=dS:=by rfl)
  (A:(apos.endLine==aS.line)=dS:=by rfl) (n:D2 (e::es) X.f=(eH,eval e X.f)::D2 es X.env:=by rfl) (u:(backTo aS (D2 es X.f)).any (·.1)=eH:=by rfl):
  E3 X (.Call (.Attribute o "append" apos) (e::es) [] aS) (Gi "list" Hn to ts):=
 dW (UJ z8 PySem.F.slot_list_append PySem.F.type_list_append (Qo (r':=rT X.K Hn) uv2 <| by
  intro x xs H Q #[d,I,G,q,l,k,c,t,f];unfold Hn at t;split at t
  .rename_i a J;split at t
   .rename_i C y;cases l.ao;let#[v,rfl,j]:=k.one;let#[i,g,h]:=c _ _ y;exact#[a,i,v,rfl,rfl,g,by rw[<- h.l];exact t.1,f _ _ _ _ af.vK (c.ku g (h.fj (.cons j .nil))) (Le.lst g) t.2]
   .exact t.n
  .exact t.n) p r B m A n u) λ_ _ _=>WZ (ty_list X.K)
def Qw:M3:=λx g G q=>match x,g with
 | .ref a,[.ref b]=>(match G a,G b with|some (.lst xs),du (.lst f)=>xs.l+f.l<=iZ/\q .non (aC G a (.lst (xs++f)))|_,_=>b8)
 | _,_=>b8
def QM(u:E3 X o to)(y:A3 X (e::es) ts)(J:O1 o "extend" X.f (eval o X.f)=eval o X.env:=by rfl)
  (p:((backTo aS (D2 (e::es) X.f)).all (λx=>!x.1)&&(Y0 aS (Q4 [] X.f)).all (λx=>x.1.fg)
   && decide ((e::es).l+([]:bf i4).l+(if([]:bf i4).isEmpty then 0 else 1)<30))=dS:=by rfl)
  (I:(apos.endLine==aS.line)=dS:=by rfl) (r:D2 (e::es) X.f=(eH,eval e X.f)::D2 es X.env:=by rfl) (B:(backTo aS (D2 es X.f)).any (·.1)=eH:=by rfl):
  E3 X (.Call (.Attribute o "extend" apos) (e::es) [] aS) (Gi "list" Qw to ts):=
 dW (UJ z8 PySem.F.slot_list_extend PySem.F.type_list_extend (Qo (r':=rT X.K Qw) vi1 <| by
  intro x xs H Q #[d,O,G,q,n,m,c,t,f];unfold Qw at t;split at t
  .rename_i a b;split at t
   .rename_i M L E C;cases n.ao;let#[v,rfl,l]:=m.one;cases l.ao;let#[k,g,i]:=c _ _ E;let#[j,A,h]:=c _ _ C;exact#[a,b,k,j,rfl,rfl,g,A,by rw[<- i.l,<- h.l];exact t.1,f _ _ _ _ af.vK (c.ku g (i.fj h)) (Le.lst g) t.2]
   .exact t.n
  .exact t.n) u y J p I r B) λ_ _ _=>WZ (ty_list X.K)
def Qv:M3:=λx f G q=>match x,f with
 | .ref a,[]=>(match G a with|some (.lst _)=>q .non (aC G a (.lst []))|_=>b8)
 | _,_=>b8
def vy3(k:E3 X o to)(n:O1 o "clear" X.f (eval o X.f)=eval o X.env:=by rfl)(m:(apos.endLine==aS.line)=dS:=by rfl):E3 X (.Call (.Attribute o "clear" apos) [] [] aS) (Ep "list" Qv to):=
 dW (x26 z8 PySem.F.slot_list_clear PySem.F.type_list_clear (Qo (r':=rT X.K Qv) vv4 <| by
  intro x xs H Q #[d,y,G,q,j,i,c,t,f];unfold Qv at t;split at t
  .rename_i a;split at t
   .rename_i p l;cases j.ao;cases i.aX;let#[h,g,u]:=c _ _ l;exact#[a,h,rfl,rfl,g,f _ _ _ _ af.vK (c.ku g .nil) (Le.lst g) t]
   .exact t.n
  .exact t.n) k n m) λ_ _ _=>wq4 (ty_list X.K)
end
def gu(neg:cg):R3:=λx y G q=>match x,y with
 | .int i,.int j=>q (.bl (if neg then !decide (i=j) else decide (i=j))) G| .str i,.str j=>q (.bl (if neg then !decide (i=j) else decide (i=j))) G| .bl i,.bl j=>q (.bl (if neg then !decide (i=j) else decide (i=j))) G| .non,.non=>q (.bl (!neg)) G| .non,.int _=>q (.bl neg) G| .int _,.non=>q (.bl neg) G| .non,.bl _=>q (.bl neg) G| .bl _,.non=>q (.bl neg) G| .non,.str _=>q (.bl neg) G| .str _,.non=>q (.bl neg) G| .int _,.str _=>q (.bl neg) G| .str _,.int _=>q (.bl neg) G| .tup xs,.tup h=>∃n g f b,n<=40/\snap G n (.tup xs)=du g/\snap G n (.tup h)=du f/\fQ n g f=du b/\q (.bl (if neg then !b else b)) G| .ref a,.ref c=>∃n g f b,n<=40/\snap G n (.ref a)=du g/\snap G n (.ref c)=du f/\fQ n g f=du b/\q (.bl (if neg then !b else b)) G| _,_=>b8
section
variable{X:Cx}{k:br}
def vy9:decide (V.int i=V.int j)=decide (i=j):=by
 by_cases h:i=j
 .subst h;simp
 .simp[h]
def vy8:decide (V.str i=V.str j)=decide (i=j):=by
 by_cases h:i=j
 .subst h;simp
 .simp[h]
def uh7(h:snap G n (.tup xs)=du f):iK f=eH:=by let#[_,_,_,rfl,_]:=aV h;rfl
def uh8(h:snap G n (.ref a)=du f):iK f=eH:=by let#[_,_,_,_,rfl,_]:=cy h;rfl
def w03{K:eM}{G:Gp}{H:Hp}{neg:cg}{q:DK}{d e:D}{x y:V}(t:gu neg d e G q)(o:af K H d x)(l:af K H e y):(De x y=dS/\q (.bl (if neg then !decide (x=y) else decide (x=y))) G)\/∃n f g b,n<=40/\snap G n d=du f/\snap G n e=du g/\fQ n f g=du b/\iK f=eH/\q (.bl (if neg then !b else b)) G:=by
 rcases d with _|b|i|s|xs|a|m <;> rcases e with _|b'|j|s'|ys|c|m' <;> first|exact Q9 t|((first|cases o.eP|cases o.cO|cases o.O|cases o.fi);(first|cases l.eP|cases l.cO|cases l.O|cases l.fi);exact .inl ⟨rfl,by first|exact t|(rw[vy9];exact t)|(rw[vy8];exact t)|(rw[v66];exact t)|(cases neg <;> exact t)⟩)|skip
 .let#[n,f,g,b,p,h,u,r,t]:=t;exact .inr #[n,f,g,b,p,h,u,r,uh7 h,t]
 .let#[n,f,g,b,p,h,u,r,t]:=t;exact .inr #[n,f,g,b,p,h,u,r,uh8 h,t]
def aP(m:aZ k X.A):gO X (L8 .Eq) (gu eH):=uc (Kh.or (x39 m)) <| by
 intro x y H Q #[d,e,G,q,i,g,c,t,f];rcases w03 t i g with⟨h,t⟩|⟨n,l,j,b,o,B,u,p,r,t⟩
 .exact .inl ⟨h,f _ _ _ _ af.nJ c (Le.j H) t⟩
 .exact .inr ⟨_,_,G,n,l,j,b,i,g,c,o,B,u,p,r,f _ _ _ _ af.nJ c (Le.j H) t⟩
def mI(m:aZ k X.A):gO X (L8 .NotEq) (gu dS):=uc (Kf.or (x37 m)) <| by
 intro x y H Q #[d,e,G,q,i,g,c,t,f];rcases w03 t i g with⟨h,t⟩|⟨n,l,j,b,o,B,u,p,r,t⟩
 .exact .inl ⟨h,f _ _ _ _ af.nJ c (Le.j H) t⟩
 .exact .inr ⟨_,_,G,n,l,j,b,i,g,c,o,B,u,p,r,f _ _ _ _ af.nJ c (Le.j H) t⟩
end
section
variable{X:Cx}{e:gI}{es:bf gI}{p pos:jU}{ts:eD}{k:br}{S:fS}{x m qual:gq}{st:hC}{ps:bf gq}{C:fy}
def emk{f g:gq}{d:FnAt X.K f g st ps}(M:Mk X.K C d.a)(j:X.mg x=du (.ref C))(G:bJ X.c X.w X.K X.mg X.Q qR k d.a d.fd ps (cU X.K S))(i:aZ (k+1) X.A)(o:A3 X (e::es) ts)(l:Gl X x:=by rfl)(h:(x==("__debug__" :gq))=eH:=by decide)
  (n:D2 (e::es) X.f=(eH,eval e X.f)::D2 es X.env:=by rfl) (q:(backTo pos (D2 es X.f)).any (·.1)=eH:=by rfl):E3 X (.Call (.Name x p) (e::es) [] pos) (GV C S [] ts):=
 w84 M G i l j d.b .nil (λ_=>.nil) o h n q
end
section
variable{X:Cx}{e:gI}{es:bf gI}{p pos:jU}{ts:eD}{k:br}{S:fS}{x m qual:gq}{st:hC}{ps:bf gq}{C f:fy}{fd:yO}
def uC3(M:Mk X.K C f)(j:X.mg x=du (.ref C))(o:∃t,Binds X.K fd ps [.int i t])(G:bJ X.c X.w X.K X.mg X.Q qR k f fd ps (cU X.K S))(h:aZ (k+1) X.A)(r:A3 X (e::es) ts)(l:Gl X x:=by rfl)(g:(x==("__debug__" :gq))=eH:=by decide)
  (n:D2 (e::es) X.f=(eH,eval e X.f)::D2 es X.env:=by rfl) (u:(backTo pos (D2 es X.f)).any (·.1)=eH:=by rfl):E3 X (.Call (.Name x p) (e::es) [] pos) (GV C S [.int i] ts):=by
 let#[t,q]:=o;exact w84 (fk:=[.int i]) M G h l j q (.cons #[t,rfl] .nil) (λ_=>.cons af.c8 .nil) r g n u
def zb(h:∃t,X.mg x=du (.int i t))(j:Gl X x:=by rfl)(g:(x==("__debug__" :gq))=eH:=by decide):E3 X (.Name x pos) (dC (.int i)):=by let#[t,h]:=h;exact xh8 j h (v:=.int i) #[t,rfl] (λ_=>af.c8) g
end
def fq{c A B:ck}[Decidable c](h1:c->A)(f:¬ c->B):if decide c=dS then A else B:=by
 by_cases h:c
 .simpa[h] using h1 h
 .simpa[h] using f h
def ve0:bt (du (.lst xs))=du xs:=rfl
def ve1:bt (du (.uB xs))=du xs:=rfl
def xj2{f:Type}{x:f}{xs:bf f}:cS (x::xs) 0=du x:=rfl
def xs2{f:Type}{x y:f}{xs:bf f}:cS (x::y::xs) 1=du y:=rfl
def xs1{f:Type}{x y z:f}{xs:bf f}:cS (x::y::z::xs) 2=du z:=rfl
def xs0{f:Type}{x y z u:f}{xs:bf f}:cS (x::y::z::u::xs) 3=du u:=rfl
def xr9{f:Type}{x y z u v:f}{xs:bf f}:cS (x::y::z::u::v::xs) 4=du v:=rfl
def xg3:jz 3 0=du 0:=rfl
def xg2:jz 3 1=du 1:=rfl
def xg1:jz 3 2=du 2:=rfl
def xg5:jz 2 0=du 0:=rfl
def xg4:jz 2 1=du 1:=rfl
def xg0{n j:br}(h:j<n):jz n (j:bz)=du j:=by unfold jz;rw[cu (),cu ()];simp
def wr3{n:br}{i:bz}(f:0<=i)(h:i<n):jz n i=du i.toNat:=by unfold jz;rw[cu f,cu h]
def vp6{f:Type}{xs:bf f}{i:bz}(g:0<=i)(h:i<xs.l):cS xs i=du (xs[i.i]'()):=by rw[Cy,wr3 g h];exact B6 _
def wv4{g j:Type}{f:g->j}{xs:bf g}{i:bz}(k:0<=i)(h:i<xs.l):cS (xs.t f) i=du (f (xs[i.i]'())):=by rw[vp6 k (by simpa using h)];simp
def AJ(f:0<=i)(h:i<18446744073709551616):kR i j:=.inl #[(),()]
def Qa(f:0<=j)(h:j<=1000):lL 1 j:=#[f,(),∅]
end L3
namespace L3
def iD{S:fS}{ds:bf D}{G G1:Gp}{v:D}{q:DK}(h:∀R:DK,R v G1->S ds G R)(k:q v G1):∃R,S ds G R/\∀d f,R d f->q d f:=#[λd f=>d=v/\f=G1,h _ #[rfl,rfl],λ_ _ ⟨i,g⟩=>by subst i;subst g;exact k]
def lh{S:fS}{ds:bf D}{G:Gp}{k0:DK}{q:DK}(h:∀R:DK,(∀d f,k0 d f->R d f)->S ds G R)(k:∀d f,k0 d f->q d f):∃R,S ds G R/\∀d f,R d f->q d f:=#[k0,h _ λ_ _ z=>z,k]
def jO{E:jr}(I:bf D->d9->Gp->ck)(l:I items f G)(nil:∀f G,I [] f G->ok G/\E.nx f G) (cons:∀x r f G,I (x::r) f G->(∀i k,I r i k->forL ok g tb E r i k)->ok G/\g x f G λj G1=>tb { E with nx:=forL ok g tb E r,ct:=forL ok g tb E r,bk:=E.nx} j G1):forL ok g tb E items f G:=by
 induction items generalizing f G with
 | nil=>exact nil f G l| cons x r m=>exact cons x r f G l λi k h=>m h
def jP(I:bf D->d9->Gp->ck)(l:I items i G)(nil:∀i G,I [] i G->ok G/\q (.ref p) G) (cons:∀x r i G,I (x::r) i G->(∀j k,I r j k->vw ok g tc te p q r j k)->ok G/\g x i G λf t=>tc f t λb n => if b=dS then te f n λd m=>(match m p with|some (.lst ys)=>ys.l<PySem.sizeLine/\vw ok g tc te p q r f (aC m p (.lst (ys++[d])))|_=>b8)
   else vw ok g tc te p q r f n):vw ok g tc te p q items i G:=by
 induction items generalizing i G with
 | nil=>exact nil i G l| cons x r o=>exact cons x r i G l λj k h=>o h
def Q_(I:br->d9->Gp->ck)(k:I m g G) (step:∀m g G N,I m g G->(∀f j i,m=i+1->I i f j->N f j)->c g G λb G1=>if b=dS then tb { E with nx:=N,ct:=N,bk:=E.nx} g G1 else E.nx g G1):WT c tb E g G:=by
 apply#[m+1,?_];induction m generalizing g G with
 | zero=>exact step 0 g G (Cs c tb E 0) k λf j i e=>cz e ()| succ m l=>exact step (m+1) g G (Cs c tb E (m+1)) k λf j i e h=>l (by cases e;exact h)
end L3
namespace L3
open PySem
def cW:(C5 a=C5 b)=(a=b):=propext #[λh=>by rw[B61,B61] at h;injection h with h;exact String.ext (List.map_inj_right (λx y e=>Char.ext (UInt32.toNat_inj.mp e)) |>.mp (cv oD h)),λh=>by rw[h]]
def str_beq:(C5 a==C5 b)=decide (a=b):=by rw[T8,beq_iff_eq,decide_eq_true_iff,cW]
end L3
namespace Rw
open PySem PyProof.Rows L2 L3
inductive kZ where
 | num (n:bz)|box (y:br)
 deriving DecidableEq
inductive k' where
 | add (x:br) (o:kZ)|take (x:br) (o:kZ)|turn (x i:br) (cs:bf (br×br))|swap (x y:br)|go (x:br) (n:bz) (k:br)|aL (x:br) (n:bz) (k:br)
 deriving DecidableEq
def kZ.d:kZ->D
 | .num n=>.tup [.str "num",.int n]| .box y=>.tup [.str "box",.int (y:bz)]
def cd(c:br×br):D:=.tup [.int (c.1:bz),.int (c.2:bz)]
def k'.d:k'->D
 | .add x o=>.tup [.str "add",.int (x:bz),o.d]| .take x o=>.tup [.str "take",.int (x:bz),o.d]| .turn x i f=>.tup [.str "turn",.int (x:bz),.int (i:bz),.tup (f.t cd)]| .swap x y=>.tup [.str "swap",.int (x:bz),.int (y:bz)]| .go x n k=>.tup [.str "go",.int (x:bz),.int n,.int (k:bz)]| .aL x n k=>.tup [.str "come",.int (x:bz),.int n,.int (k:bz)]
def kZ.ok(sz x:br):kZ->ck
 | .num n=>0<=n/\n<4294967296| .box y=>y<sz/\y≠x
def k'.ok(sz:br):k'->ck
 | .add x o=>x<sz/\o.ok sz x| .take x o=>x<sz/\o.ok sz x| .turn x i f=>x<sz/\i<32/\f.l<=2/\∀c∈f,c.1<sz/\c.1≠x/\c.2<32| .swap x y=>x<sz/\y<sz/\y≠x| .go x n _=>x<sz/\0<=n/\n<4294967296| .aL x n _=>x<sz/\0<=n/\n<4294967296
def k'.plain:k'->cg
 | .go _ _ _=>eH| .aL _ _ _=>eH| _=>dS
def gt(bs:bf bz)(x:br):bz:=bs.E x 0
def nv(v:bz)(j:br):bz:=v / 2^j%2
def fB(v:bz)(i:br):bz:=v+2^i*(1-2*nv v i)
def val(bs:bf bz):kZ->bz
 | .num n=>n| .box y=>gt bs y
def mH(bs:bf bz)(cs:bf (br×br)):cg:=cs.all λc=>!decide (nv (gt bs c.1) c.2=0)
def da(s:bz)(bs:bf bz):k'->bf bz
 | .add x o=>bs.I x ((gt bs x+s*val bs o)%4294967296)| .take x o=>bs.I x ((gt bs x-s*val bs o)%4294967296)| .turn x i f=>if mH bs f=dS then bs.I x (fB (gt bs x) i) else bs| .swap x y=>(bs.I x (gt bs y)).I y (gt bs x)| .go _ _ _=>bs| .aL _ _ _=>bs
structure cZ(sz:br)(bs:bf bz):Prop where
 len:bs.l=sz
 FJ:∀v∈bs,0<=v/\v<4294967296
def Fd{bs:bf bz}(h:x<bs.l):gt bs x=bs[x]:=by unfold gt;rw[F4,B6 h];rfl
def CG(h:cZ sz bs)(f:x<sz):0<=gt bs x/\gt bs x<4294967296:=by rw[Fd (by rw[h.len];exact f)];exact h.FJ _ (M4 _)
def nQ{bs:bf bz}(h:x<bs.l):gt (bs.I x v) y=if y=x then v else gt bs y:=by
 unfold gt;rw[F4,F4,KY];by_cases e:x=y
 .subst e;simp[h]
 .rw[cp e,cp (E1 e)]
def vB{bs:bf bz}{x:br}(h:x<bs.l):cS (bs.t D.int) (x:bz)=du (.int (gt bs x)):=by rw[vy (v:=.int (gt bs x))];rw[F5,B6 h,Fd h];rfl
def HH{bs:bf bz}{x:br}(h:x<bs.l):jz (bs.t D.int).l (x:bz)=du x:=xg0 (by simpa using h)
def zt{bs:bf bz}{x:br}{v:bz}:(bs.t D.int).I x (.int v)=(bs.I x v).t D.int:=by rw[LW]
def QU{rs:bf k'}{x:br}{r:k'}(h:rs[x]?=du r):cS (rs.t k'.d) (x:bz)=du r.d:=vy (by rw[F5,h];rfl)
def vb3:Pe v (1*2^i)=fB v i:=by rw[SI,bitXor_and,W.kbt_bit];unfold fB nv;rw[F1,SK,FO (2^i) (2*(v / 2^i%2)),Int.mul_assoc 2 (v / 2^i%2) (2^i)];omega
def vq0:Q6 (v / 2^j) 1=nv v j:=by rw[bitAnd_m1];rfl
def Fb(v:bz)(j:br):nv v j=0\/nv v j=1:=by unfold nv;omega
theorem pow_pos(i:br):(0:bz)<2^i:=Int.pow_pos ∅
def vd5(v:bz)(i:br):∃a r:bz,v=2^i*(2*a+nv v i)+r/\0<=r/\r<2^i:=by
 apply#[v / 2^i / 2,v%2^i,?_,Ph _ (FV (pow_pos i)),Z7 _ (pow_pos i)];let g:=Int.mul_ediv_add_emod v (2^i);let f:2*(v / 2^i / 2)+nv v i=v / 2^i:=by unfold nv;omega
 rw[f];omega
def xi2{a r p:bz}(f:0<p)(g:0<=r)(h1:r<p):(p*a+r) / p=a:=by rw[Int.add_comm,Int.add_mul_ediv_left _ _ (FV f),Int.ediv_eq_zero_of_lt g h1];omega
def w81(v:bz)(i:br):∃a r:bz,v=2^i*(2*a+nv v i)+r/\fB v i=2^i*(2*a+(1-nv v i))+r/\0<=r/\r<2^i:=by
 let#[a,r,h,g,f]:=vd5 v i;apply#[a,r,h,?_,g,f];let e:fB v i=v+2^i*(1-2*nv v i):=rfl;rw[e];rcases Fb v i with hb|hb
 .rw[hb] at h⊢;let:(2:bz)^i*(1-2*0)=2^i:=()
  let j:(2:bz)^i*(2*a+(1-0))=2^i*(2*a+0)+2^i:=by rw[Gy,Gy];omega
  omega
 .rw[hb] at h⊢;let:(2:bz)^i*(1-2*1)=- 2^i:=()
  let j:(2:bz)^i*(2*a+1)=2^i*(2*a+(1-1))+2^i:=by rw[Gy,Gy];omega
  omega
def wv2(v:bz)(i:br):nv (fB v i) i=1-nv v i:=by let#[a,r,h,e,g,f]:=w81 v i;show fB v i / 2^i%2=_;rw[e,xi2 (pow_pos i) g f];rcases Fb v i with hb|hb <;> rw[hb] <;> omega
def ws0(v:bz)(i:br):fB (fB v i) i=v:=by
 let e:fB (fB v i) i=fB v i+2^i*(1-2*nv (fB v i) i):=rfl;rw[e,wv2];let f:fB v i=v+2^i*(1-2*nv v i):=rfl;rw[f];let:(1-2*(1-nv v i))=-(1-2*nv v i):=()
 rw[this,Int.mul_neg];omega
def wr9(hi:i<32)(n:0<=v)(h1:v<4294967296):0<=fB v i/\fB v i<4294967296:=by
 let#[a,r,h,e,l,k]:=w81 v i;let f:=pow_pos i;let m:0<=a:=by
  by_cases q:0<=a
  .exact q
  .have:(2:bz)^i*(2*a+nv v i)<=2^i*(-1):=Z3 (by rcases Fb v i with hb|hb <;> omega) (X7 f);omega
 let g:(4294967296:bz)=2^i*(2*2^(31-i)):=by
  let j:(2:bz)*2^(31-i)=2^(32-i):=by rw[FO,<- Int.pow_succ];congr 1;omega
  rw[j,<- Int.pow_add];let:i+(32-i)=32:=()
  rw[this];rfl
 let o:a<2^(31-i):=by
  by_cases q:a<2^(31-i)
  .exact q
  .have:(2:bz)^i*(2*2^(31-i))<=2^i*(2*a+nv v i):=Z3 (by rcases Fb v i with hb|hb <;> omega) (X7 f);omega
 rw[e];constructor
 .have:0<=(2:bz)^i*(2*a+(1-nv v i)):=Int.mul_nonneg (X7 f) (by rcases Fb v i with hb|hb <;> omega);omega
 .have:(2:bz)^i*(2*a+(1-nv v i))<=2^i*(2*2^(31-i)-1):=Z3 (by rcases Fb v i with hb|hb <;> omega) (X7 f);rw[F1,<- g] at this;omega
def Xm{r:k'}(h:cZ sz bs)(k:r.ok sz):cZ sz (da s bs r):=by
 let f:∀{g:bf bz} {x:br} {v:bz},cZ sz g->0<=v->v<4294967296->cZ sz (g.I x v):=λ{g x v} h p n =>
  #[by rw[K2];exact h.len,λu m=>by
   rcases Ge m with q|q
   .exact h.FJ u q
   .subst q;exact⟨p,n⟩]
 cases r with
 | add x o=>exact f h (Ph _ ∅) (Z7 _ ∅)| take x o=>exact f h (Ph _ ∅) (Z7 _ ∅)| turn x i g =>
  show cZ sz (if mH bs g=dS then bs.I x (fB (gt bs x) i) else bs);split
  .let#[j,hi,_]:=k;let#[a,b]:=CG h j;let#[c,d]:=wr9 hi a b;exact f h c d
  .exact h
 | swap x y =>let#[j,l,_]:=k;let#[a,b]:=CG h j;let#[c,d]:=CG h l;exact f (f h c d) a b| go _ _ _=>exact h| aL _ _ _=>exact h
def Fq{bs:bf bz}{x:br}(h:x<bs.l):bs.I x (gt bs x)=bs:=by rw[Fd h,List.set_getElem_self]
def v31{s:bz}(E:s=1\/s=-1){sz:br}{bs:bf bz}{r:k'}(h:cZ sz bs)(m:r.ok sz):da (-s) (da s bs r) r=bs:=by
 let G:=h.len;cases r with
 | add x o =>
  let#[j,q]:=m;let p:val (bs.I x ((gt bs x+s*val bs o)%4294967296)) o=val bs o:=by
   cases o with
   | num n=>rfl| box y=>show gt _ y=gt bs y;rw[nQ (),cp q.2]
  show(bs.I x _).I x ((gt (bs.I x _) x+-s*val (bs.I x _) o)%4294967296)=bs;rw[p,nQ (),cu rfl,Pa];let k:=CG h j;let e:((gt bs x+s*val bs o)%4294967296+-s*val bs o)%4294967296=gt bs x:=by rw[qi,F2,Int.add_neg_cancel_right];exact Pp k.1 k.2
  rw[e,Fq ()]
 | take x o =>
  let#[j,q]:=m;let p:val (bs.I x ((gt bs x-s*val bs o)%4294967296)) o=val bs o:=by
   cases o with
   | num n=>rfl| box y=>show gt _ y=gt bs y;rw[nQ (),cp q.2]
  show(bs.I x _).I x ((gt (bs.I x _) x - -s*val (bs.I x _) o)%4294967296)=bs;rw[p,nQ (),cu rfl,Pa];let k:=CG h j;let e:((gt bs x-s*val bs o)%4294967296 - -s*val bs o)%4294967296=gt bs x:=by rw[F2,Int.sub_neg,qi,Int.sub_add_cancel];exact Pp k.1 k.2
  rw[e,Fq ()]
 | turn x i f =>
  let#[j,hi,_,B]:=m;show(if mH (if mH bs f=dS then bs.I x (fB (gt bs x) i) else bs) f=dS then _ else _)=bs;by_cases g:mH bs f=dS
  .have t:mH (bs.I x (fB (gt bs x) i)) f=dS:=by unfold mH at g⊢;rw[O5] at g⊢;intro c A;rw[nQ (),cp (B c A).2.1];exact g c A
   show(if mH (if mH bs f=dS then bs.I x (fB (gt bs x) i) else bs) f=dS then(if mH bs f=dS then bs.I x (fB (gt bs x) i) else bs).I x (fB (gt (if mH bs f=dS then bs.I x (fB (gt bs x) i) else bs) x) i) else(if mH bs f=dS then bs.I x (fB (gt bs x) i) else bs))=bs;rw[cu g,cu t,nQ (),cu rfl,Pa,ws0,Fq ()]
  .show(if mH (if mH bs f=dS then bs.I x (fB (gt bs x) i) else bs) f=dS then(if mH bs f=dS then bs.I x (fB (gt bs x) i) else bs).I x (fB (gt (if mH bs f=dS then bs.I x (fB (gt bs x) i) else bs) x) i) else(if mH bs f=dS then bs.I x (fB (gt bs x) i) else bs))=bs;rw[cp g,cp g]
 | swap x y =>
  let#[j,C,l]:=m;show(((bs.I x (gt bs y)).I y (gt bs x)).I x (gt ((bs.I x (gt bs y)).I y (gt bs x)) y)).I y (gt ((bs.I x (gt bs y)).I y (gt bs x)) x)=bs;rw[nQ (by rw[K2];omega),cu rfl,nQ (by rw[K2];omega),cp (E1 l),nQ (),cu rfl];rw[SW _ _ l,Pa,SW _ _ (E1 l)];let u:(bs.I x (gt bs y)).I x (gt bs x)=bs:=by rw[Pa,Fq ()]
  rw[SW _ _ l] at *;first
   | (rw[u];exact Fq ())
   | (rw[SW _ _ (E1 l),u];exact Fq ())
 | go _ _ _=>rfl| aL _ _ _=>rfl
end Rw
namespace Rw
open PySem L2 L3
def jb(lo:bz)(n:br):bW lo (n+1)=.int lo::bW (lo+1) n:=by
 unfold bW;rw[Kj,C1,L9];congr 1
 .simp
 .apply L5;intro i _;show D.int _=D.int _;congr 1;simp;omega
structure aj(G G':Gp):Prop where
 kp:∀b o,G b=du o->G' b=du o
def aj.refl:aj G G:=#[λ_ _ h=>h]
def aj.trans(a:aj G G1)(b:aj G1 f):aj G f:=#[λc o h=>b.kp c o (a.kp c o h)]
def aj.new(a:aj G G1)(h:G1 p=dv):aj G (aC G1 p o):=#[λb u e=>by rw[aA (aT (a.kp b u e) h)];exact a.kp b u e]
def aj.own(a:aj G G1)(h:G p=dv):aj G (aC G1 p o):=#[λb u e=>by rw[aA (aT e h)];exact a.kp b u e]
theorem aj.none(a:aj G G1)(h:G1 p=dv):G p=dv:=by
 cases e:G p with
 | none=>rfl| some o=>rw[a.kp p o e] at h;cases h
end Rw
namespace L3
open PySem PySem.Spec PyProof.Rows L2
def Um(i j G q):gu eH (.int i) (.int j) G q=q (.bl (decide (i=j))) G:=rfl
def Ul(i j G q):gu dS (.int i) (.int j) G q=q (.bl (!decide (i=j))) G:=rfl
def Uk(i j G q):gu eH (.str i) (.str j) G q=q (.bl (decide (i=j))) G:=rfl
def Uj(i j G q):gu dS (.str i) (.str j) G q=q (.bl (!decide (i=j))) G:=rfl
def Ui(a c G q):gu eH (.ref a) (.ref c) G q=∃n g f b,n<=40/\snap G n (.ref a)=du g/\snap G n (.ref c)=du f/\fQ n g f=du b/\q (.bl b) G:=rfl
def Uh(a c G q):gu dS (.ref a) (.ref c) G q=∃n g f b,n<=40/\snap G n (.ref a)=du g/\snap G n (.ref c)=du f/\fQ n g f=du b/\q (.bl (!b)) G:=rfl
def Ug(a c G q):gu eH (.tup a) (.tup c) G q=∃n g f b,n<=40/\snap G n (.tup a)=du g/\snap G n (.tup c)=du f/\fQ n g f=du b/\q (.bl b) G:=rfl
def Ue(a c G q):gu dS (.tup a) (.tup c) G q=∃n g f b,n<=40/\snap G n (.tup a)=du g/\snap G n (.tup c)=du f/\fQ n g f=du b/\q (.bl (!b)) G:=rfl
def Ud(i j G q):mJ (.int i) (.int j) G q=q (.int (i+j)) G:=rfl
def Uc(i j G q):yS (.int i) (.int j) G q=(kR i j/\q (.int (i*j)) G):=rfl
def xn8(a k G q):yS (.ref a) (.int k) G q=(match G a with|some (.lst xs)=>(-(2^63)<=k/\k<2^63/\xs.l*k.i<=iZ)/\∀p,G p=dv->q (.ref p) (aC G p (.lst (C7 k.i xs).C))|_=>b8):=rfl
def xn7(i j G q):Ur (.int i) (.int j) G q=q (.bl (decide (i<j))) G:=rfl
def xn6(ds i G q):yU (.tup ds) (.int i) G q=(match cS ds i with|some d=>q d G|none=>b8):=rfl
def xn5(a i G q):yU (.ref a) (.int i) G q=(match bt (G a) with|some ds=>(match cS ds i with|some d=>q d G|none=>b8)|none=>b8):=rfl
def xn4(xs G q):yT [.tup xs] G q=q (.int xs.l) G:=rfl
def xn3(a G q):yT [.ref a] G q=(match bt (G a) with|some xs=>q (.int xs.l) G|none=>b8):=rfl
def Ua(f i j G q):og f (.int i) (.int j) G q=q (.int (f i j)) G:=rfl
def T'(C f i j G q):AG C f (.int i) (.int j) G q=(C i j/\q (.int (f i j)) G):=rfl
def T_(i j G q):xLe (.int i) (.int j) G q=q (.bl (decide (i<=j))) G:=rfl
def TY(i j G q):xGt (.int i) (.int j) G q=q (.bl (decide (j<i))) G:=rfl
def TX(i j G q):xGe (.int i) (.int j) G q=q (.bl (decide (j<=i))) G:=rfl
def TV(i G q):yR (.int i) G q=q (.int (-i)) G:=rfl
def TU(a k v G q):Co (.ref a) (.int k) v G q=(match G a with|some (.lst ds)=>(match jz ds.l k with|some j=>q (aC G a (.lst (ds.I j v)))|none=>b8)|_=>b8):=rfl
def TR(a lo hi G q):Qq (.ref a) lo hi G q=(match bt (G a) with|some ds=>∀p,G p=dv->q (.ref p) (aC G p (.lst (cutD ds lo hi)))|none=>b8):=rfl
def TQ(ds lo hi G q):Qq (.tup ds) lo hi G q=(¬ (HT.cD ds.l 0 lo=0/\HT.cD ds.l ds.l hi=ds.l)/\q (.tup (cutD ds lo hi)) G):=rfl
def TN(x G q):GQ x .non G q=(match x with|.non=>q (.bl dS) G|_=>q (.bl eH) G):=rfl
def xn2(x b G q):GQ x (.bl b) G q=(match x with|.bl c=>q (.bl (decide (c=b))) G|_=>q (.bl eH) G):=rfl
def xn1(x G q):QI x .non G q=(match x with|.non=>q (.bl eH) G|_=>q (.bl dS) G):=rfl
def xn0(x b G q):QI x (.bl b) G q=(match x with|.bl c=>q (.bl (!decide (c=b))) G|_=>q (.bl dS) G):=rfl
def xm9(i G q):Cr [.int i] G q=q (.int (if i<0 then -i else i)) G:=rfl
def xm8(i j G q):XR [.int i,.int j] G q=(Ar i j/\q (.tup [.int (i / j),.int (i%j)]) G):=rfl
def xm7(i j G q):WK [.int i,.int j] G q=q (.int (if j>i then j else i)) G:=rfl
def xm6(i j G q):WM [.int i,.int j] G q=q (.int (if j<i then j else i)) G:=rfl
def xm5(i G q):Qr [.int i] G q=q (.int i) G:=rfl
def xm4(b G q):Qr [.bl b] G q=q (.int (if b then 1 else 0)) G:=rfl
def xm3(xs G q):QJ [.tup xs] G q=∀p,G p=dv->q (.ref p) (aC G p (.lst xs)):=rfl
def xm2(a G q):QJ [.ref a] G q=(match bt (G a) with|some xs=>∀p,G p=dv->q (.ref p) (aC G p (.lst xs))|none=>b8):=rfl
def xm1(xs G q):HG [.tup xs] G q=q (.tup xs) G:=rfl
def xm0(a G q):HG [.ref a] G q=(match bt (G a) with|some xs=>q (.tup xs) G|none=>b8):=rfl
def xl9(a G q):Cq [.ref a] G q=(match bt (G a) with|some xs=>(match Cw xs with|some bs=>q (.bl (bs.all id)) G|none=>b8)|none=>b8):=rfl
def xl8(x T G q):XT [x,.ty T] G q=((T = "int" \/ T = "str" \/ T = "bool" \/ T = "list" \/ T = "tuple" \/ T = "dict")/\(match AE G x with|some n=>q (.bl (j4 n T)) G|none=>b8)):=rfl
def xl7(a d G q):Hn (.ref a) [d] G q=(match G a with|some (.lst xs)=>xs.l<iZ/\q .non (aC G a (.lst (xs++[d])))|_=>b8):=rfl
def xl6(a b G q):Qw (.ref a) [.ref b] G q=(match G a,G b with|some (.lst xs),du (.lst ys)=>xs.l+ys.l<=iZ/\q .non (aC G a (.lst (xs++ys)))|_,_=>b8):=rfl
def xl5(a G q):Qv (.ref a) [] G q=(match G a with|some (.lst _)=>q .non (aC G a (.lst []))|_=>b8):=rfl
def ZA{g h:Type}(f:g->h)(a:g)(l:bf g):EI f (a::l)=f a::EI f l:=rfl
def Zz{h g:Type}(f:h->g):EI f []=[]:=rfl
end L3
namespace L2
open PySem PySem.Spec PyProof.Rows
section
variable{X:Cx}{e:gI}{st:gI}{te:TE}{ts:TO}{pos p2:jU}
def vg1(its:bf fx):Sy its.e dv dv (du (-1))=its.ff.e:=by
 unfold Sy Ck sliceRange;simp only[OB,show¬ ((-1:bz)>0) by decide,if_false,E5];congr 1;let u:(if(its.l:bz)-1 > -1 then((its.l:bz)-1 - -1 - -1-1) / (- -1) else 0).i=its.l:=by
  cases its with
  | nil=>rfl| cons x xs =>rw[cu (by simp;omega)];simp
 rw[u,KL];apply List.ext_getElem?;intro i;let t:∀(n:br) (f:br->b0 fx),(∀k,k<n->∃v,f k=du v)->∀i,((D3 n).filterMap f)[i]?=if i<n then f i else dv:=by
  intro n f h;obtain⟨g,o⟩:∃g:br->fx,∀k,k<n->f k=du (g k):=#[λk=>(f k).E .none,λk j=>by let#[v,r]:=h k j;show f k=du ((f k).E .none);rw[r];rfl];let e:(D3 n).filterMap f=(D3 n).t g:=by
   let go:∀l:bf br,(∀k∈l,k<n)->l.filterMap f=l.t g:=by
    intro l;induction l with
    | nil=>intro _;rfl| cons k l p=>intro m;rw[Tz,o k (m k D0),C1,p λz q=>m z (C2 _ q)]
   exact go _ λk j=>K0.mp j
  intro i;rw[e,F5];by_cases hi:i<n
  .rw[sW hi,cu hi,o i hi];rfl
  .rw[M9 (by simpa using hi),cp hi];rfl
 rw[t]
 .by_cases hi:i<its.l
  .rw[cu hi,sg hi];show its.e[((its.l:bz)-1+-1*(i:bz)).i]?=_;let:((its.l:bz)-1+-1*(i:bz)).i=its.l-1-i:=()
   rw[this];simp
  .rw[cp hi,M9 (by simpa using hi)]
 .intro k j;show∃v,its.e[((its.l:bz)-1+-1*(k:bz)).i]?=du v;let:((its.l:bz)-1+-1*(k:bz)).i=its.l-1-k:=()
  rw[this];exact#[its[its.l-1-k]'(),by simp]
def wy9(K:eM)(te:TE)(ts:TO):TE:=λg H Q=>te g H λx h=>ts g h λk f=>k=du (-1)/\∃a xs,x=.ref a/\fb K f a xs/\∀p,f p=dv->Q (.ref p) (l6 f p (.lst xs.ff))
def wo0(N:PE X e te)(M:PO X (du st) ts):PE X (.Subscript e (.Slice dv dv (du st) p2) pos) (wy9 X.K te ts):=by intro kI s g H Q I h;apply SD (bu (N kI s g H _ I h) λv t ⟨x,S,O,u,B⟩=>?_);apply wpAny_Slice ?_;rw[xp];apply C8 (C8 (bu (M kI t g S _ O B) λl f ⟨k,R,I3,C,y⟩=>?_));let#[rfl,a,xs,rfl,L,q]:=y;cases u;let j:lp X kI g R { f with heap:=f.o.R { cls:=.type "slice",data:=.fields [.none,.none,l].e}}:=I3.kept (t':=f.H) λb G q=>B8 _ q;let#[its,r,m,J]:=j.list L;let n:=r.l;show i3 (model X.c X.w) X.A (SU e (.Slice dv dv (du st) p2) (.ref a) (.ref f.o.h.v)) (EP X kI g Q) X.xe { f with heap:=f.o.R { cls:=.type "slice",data:=.fields [.none,.none,l].e}};apply vr (ops:=[.ref a,.ref f.o.h.v]) m.Y.B wh.lookup ?_ (by with_unfolding_all rfl);apply wpAny_getItem_list_slice m.Y (YN ..) .none .none C ∅ ?_ (by rw[E5] <;> omega);rw[vg1];apply#[.ref _,_,j.laid (t':=f.H) (o:=.lst xs.ff) (λb G q=>B8 _ q) (B9 _) ?_,rfl,q _ (j.aB.y (B9 _))];exact#[by rw[T6];exact J,_,0,r.ff,E7 _ rfl]
end
end L2
namespace L3
open PySem PySem.Spec PyProof.Rows L2
section
variable{X:Cx}{e:gI}{te:bI}{pos p2 p3 p4:jU}{K:eM}{σ:L2.St}{H:Hp}{Q:VK}
def Uw(te:bI):bI:=λσ G q=>te σ G λx f=>match x with
 | .ref a=>(match bt (f a) with|some g=>∀p,f p=dv->q (.ref p) (aC f p (.lst g.ff))|none=>b8)
 | _=>b8
def vx4(h:aQ K (Uw te) σ H Q):wy9 K (aQ K te) (rS K (PJ (Sb yR (dC (.int 1))))) σ H Q:=by
 let#[g,G,q,k,c,t,f]:=h;apply#[g,G,_,k,c,t,λx n v I u c1 l i=>#[g,n,λo m=>o=du (-1)/\m=n,k.le l,c1,#[rfl,rfl],λo m E c2 A B=>?_]];let#[rfl,rfl]:=B;apply#[rfl,?_];split at i
 .rename_i a;split at i
  .rename_i C e;let#[xs,r,y]:=ft c2 e;exact#[a,xs,u.ao,r,λp j=>f _ _ _ _ af.fG (c2.cY j y.ff) ((l.u A).u (Le.y j)) (i p (c2.y j))]
  .exact i.n
 .exact i.n
def xi1(f:E3 X e te):E3 X (.Subscript e (.Slice dv dv (du (.UnaryOp .USub (.Constant (.int 1) k p3) p4)) p2) pos) (Uw te):=dW (wo0 f (Fi (sv EZ ax))) λ_ _ _=>vx4
end
def strsOf:bf D->b0 (bf gq)
 | []=>du []| .str x::r=>(strsOf r).t (x::·)| _=>dv
def intsOf:bf D->b0 (bf bz)
 | []=>du []| .int x::r=>(intsOf r).t (x::·)| _=>dv
section
variable{X:Cx}{K:eM}{H:Hp}
theorem YC:∀{ds:bf D} {f:bf gq} {vs:bf V},strsOf ds=du f->ah K H ds vs->vs=f.t V.str
 | [],f,vs,e,r=>by cases e;rw[r.aX];rfl
 | .str b::ds,f,vs,e,r=>by let#[x,xs,rfl,i,h]:=r.aq;let#[g,j,rfl]:=F6.mp (show(strsOf ds).t (b::·)=du f from e);rw[i.fi,YC j h];rfl| .non::_,_,_,e,_=>by cases e
 | .bl _::_,_,_,e,_=>by cases e
 | .int _::_,_,_,e,_=>by cases e
 | .tup _::_,_,_,e,_=>by cases e
 | .ref _::_,_,_,e,_=>by cases e
 | .ty _::_,_,_,e,_=>by cases e
theorem Yz:∀{ds:bf D} {f:bf bz} {vs:bf V},intsOf ds=du f->ah K H ds vs->vs=f.t V.int
 | [],f,vs,e,r=>by cases e;rw[r.aX];rfl
 | .int b::ds,f,vs,e,r=>by let#[x,xs,rfl,i,h]:=r.aq;let#[g,j,rfl]:=F6.mp (show(intsOf ds).t (b::·)=du f from e);rw[i.O,Yz j h];rfl| .non::_,_,_,e,_=>by cases e
 | .bl _::_,_,_,e,_=>by cases e
 | .str _::_,_,_,e,_=>by cases e
 | .tup _::_,_,_,e,_=>by cases e
 | .ref _::_,_,_,e,_=>by cases e
 | .ty _::_,_,_,e,_=>by cases e
def vl2{w:gq}{f:bf gq}:FQ (V.str w) (f.t V.str)=decide (w∈f):=by
 unfold FQ;induction f with
 | nil=>rfl| cons x xs g =>
  rw[C1,P7,g];show((x==w)||decide (w∈xs))=_;by_cases h:x=w
  .subst h;simp
  .have i:¬ w=x:=λe=>h e.M;let:(x==w)=eH:=by simpa using h
   rw[this];simp[i]
def vl3{w:bz}{f:bf bz}:FQ (V.int w) (f.t V.int)=decide (w∈f):=by
 unfold FQ;induction f with
 | nil=>rfl| cons x xs g =>
  rw[C1,P7,g];show((x==w)||decide (w∈xs))=_;by_cases h:x=w
  .subst h;simp
  .have i:¬ w=x:=λe=>h e.M;let:(x==w)=eH:=by simpa using h
   rw[this];simp[i]
theorem Yt:∀f:bf gq,(f.t V.str).all vx=dS
 | []=>rfl| _::f=>by rw[C1,V7,Yt f];rfl
theorem Ys:∀f:bf bz,(f.t V.int).all vx=dS
 | []=>rfl| _::f=>by rw[C1,V7,Ys f];rfl
def gs(neg:cg):R3:=λx y G q=>match x,y with
 | .str w,.tup g=>(match strsOf g with|some f=>q (.bl (if neg then !decide (w∈f) else decide (w∈f))) G|none=>b8)
 | .str w,.ref a=>(match bt (G a) with|some g=>(match strsOf g with|some f=>q (.bl (if neg then !decide (w∈f) else decide (w∈f))) G|none=>b8)|none=>b8)
 | .int w,.tup g=>(match intsOf g with|some f=>q (.bl (if neg then !decide (w∈f) else decide (w∈f))) G|none=>b8)
 | .int w,.ref a=>(match bt (G a) with|some g=>(match intsOf g with|some f=>q (.bl (if neg then !decide (w∈f) else decide (w∈f))) G|none=>b8)|none=>b8)
 | _,_=>b8
def w75{neg:cg}{x y:V}{Q:VK}(h:oC K (gs neg) x y H Q):YW K neg x y H Q:=by
 let#[d,e,G,q,m,l,c,t,f]:=h;unfold gs at t;cases d <;> cases e <;> first|exact t.n|dsimp only at t
 .rename_i w n;split at t
  .rename_i g k;let#[a,xs,rfl,i,j]:=l.aU;cases m.O;obtain rfl:=Yz k j;exact#[a,_,rfl,.inr i,rfl,Ys g,f _ _ _ _ (by rw[vl3];exact af.nJ) c (Le.j H) t]
  .exact t.n
 .rename_i w a;split at t
  .rename_i n eq;split at t
   .rename_i g k;let#[xs,i,j]:=ft c eq;cases m.O;obtain rfl:=Yz k j;exact#[a,_,l.ao,.inl i,rfl,Ys g,f _ _ _ _ (by rw[vl3];exact af.nJ) c (Le.j H) t]
   .exact t.n
  .exact t.n
 .rename_i w n;split at t
  .rename_i g k;let#[a,xs,rfl,i,j]:=l.aU;cases m.fi;obtain rfl:=YC k j;exact#[a,_,rfl,.inr i,rfl,Yt g,f _ _ _ _ (by rw[vl2];exact af.nJ) c (Le.j H) t]
  .exact t.n
 .rename_i w a;split at t
  .rename_i n eq;split at t
   .rename_i g k;let#[xs,i,j]:=ft c eq;cases m.fi;obtain rfl:=YC k j;exact#[a,_,l.ao,.inl i,rfl,Yt g,f _ _ _ _ (by rw[vl2];exact af.nJ) c (Le.j H) t]
   .exact t.n
  .exact t.n
def k_(_:aZ k A):gO X (L8 .In) (gs eH):=uc vh1 λ_ _ _ _ h=>w75 h
def vb6(_:aZ k A):gO X (L8 .NotIn) (gs dS):=uc uu9 λ_ _ _ _ h=>w75 h
end
end L3
namespace L2
open PySem PySem.Spec PyProof.Rows
def BU(K:eM)(a:fy):It:=#[λi H=>∃xs x,fb K H a xs/\xs[i]?=du x,λi H v f=>∃p x,v=.ref p/\H p=dv/\f=l6 H p (.tup [.int (i:bz),x])/\∀xs,fb K H a xs->xs[i]?=du x,λi H=>∃xs,fb K H a xs/\xs.l<=i]
def lp.zm{h':hR}(I:lp X kI l H s)(k:∀b o,b≠e->b≠it->s.o.r b=du o->h'.r b=du o) (f:∀b∈[e,it],ja X kI H b) (new:bC X.c X.w (l6 H s.o.h.v o) h' s.o.h.v o):lp X kI l (l6 H s.o.h.v o) { s with heap:=h',toks:=t'}:=by
 let t:H s.o.h.v=dv:=I.aB.y (B9 _);let f1:=f e (by simp);let f2:=f it (by simp);let old:∀b u,H b=du u->b≠s.o.h.v:=λb u q z=>by rw[z,t] at q;cases q
 let j:∀b u,H b=du u->b≠e/\b≠it:=λb u q=>#[λz=>(by rw[z,f1.1] at q;cases q),λz=>(by rw[z,f2.1] at q;cases q)];let h:∀{b:fy},b∉[e,it]->b≠e/\b≠it:=λg=>#[λz=>g (by simp[z]),λz=>g (by simp[z])];apply I.step (g':=s.gens) (d':=s.drawn) (ch:=[e,it]) (λb i=>?_) (λb o _ _ g q _=>k b o (h g).1 (h g).2 q) (λb o _ _ g q _=>#[o.slots,k b o (h g).1 (h g).2 q]) (λb u _ q n=>?_)
  (λb o g q=>#[o,k b o (h g).1 (h g).2 q]) (λb xs q=>?_) (λb o u q=>?_) (λb G q=>#[[].e,?_]) (λm x=>?_) (λb u q=>?_) I.bare
 .let#[J,g1,g2,g3,B,A]:=f b i;exact#[g3,g1,B,A]
 .rw[dj (J7 (E4 q))];exact n
 .rw[dj (old b _ q)];exact q
 .rw[dj (old b _ q)];exact q
 .rw[dj (old b _ q),q];simp
 .let#[o,C,E,p,r]:=x;exact#[o,C,E,k _ o (E1 f1.2.1) (E1 f2.2.1) p,r]
 .by_cases i:b=s.o.h.v
  .subst i;rw[iL] at q;cases q;exact new
  .rw[dj i] at q;apply(I.aB b u q).gw (λc v g z=>?_) (λc z=>by rw[dj (old c _ z)];exact z) (λc xs z=>by rw[dj (old c _ z)];exact z) λc _ _ z=>by rw[dj (old c _ z)];exact z
   rcases g with y|y
   .subst y;exact k _ v (j _ u q).1 (j _ u q).2 z
   .exact k c v (j c _ y).1 (j c _ y).2 z
def vc9{P:hH}{w:hL}{K:eM}{m:bf gI}{Z}{pos:jU}(a e it:fy)(S:e≠it):Turn P w K (.Tuple m Z pos) (BU K a) [e,it] e (λi h=>(∃old,IsEnum h e it (i:bz) old)/\h.IsListIter it a i) where
 mem:=by simp
 obj:=λi h st b g=>by
  let#[#[old,j],f]:=st;rcases D9.mp g with q|q
  .subst q;exact⟨_,j,λv z=>by let Y:z3 _=z4 v:=z;cases Y⟩
  .have q:b=it:=by simpa using q
   subst q;let#[o,e,c,d]:=f;exact#[o,e,λv z=>by rw[d] at z;cases z]
 keep:=λi h h' st k=>#[st.1.n λold q=>#[old,k e (by simp) _ q],st.2.at λo q=>k it (by simp) o q]
 item:=by
  intro X M hw N Q i kI s U H E I t st L;subst M hw N;let#[#[old,j],f]:=st;let#[xs,x,r,C]:=L;let#[its,B,p,hz]:=I.list r;let#[u,hu,ru]:=B.get C;let l:e<s.o.h.v:=E4 j;let hn:H s.o.h.v=dv:=I.aB.y (B9 _);apply wpAny_pyNext_enum_item j f p.Y (x:=u) (by simpa using hu) S λh1 ho A J lV D'=>?_;apply#[_,rfl,wpAny_letOwnedTupleGo_enum ho λR Lu n=>?_];replace n:V4 e h1 R:=n;let Bq:∀b o,b≠e->b≠it->s.o.r b=du o->R.r b=du o:=λb o O wg q=>(n.2 b O).u (D' b o O wg q);let G:=(n.2 s.o.h.v (Z5 l)).u J;apply#[.ref s.o.h.v,l6 H s.o.h.v (.tup [.int (i:bz),x]),I.zm (t':=s.H+1) Bq t ?_,rfl,#[_,x,rfl,hn,rfl,λys hy=>by rw[I.kz hy r];exact C],#[#[u,by simpa using Lu],?_],λb g=>?_]
  .exact#[show 2<=iZ by decide,[.int i s.H,u],.cons #[s.H,rfl] (.cons ru .nil),#[_,G,rfl,#[_,rfl],rfl]]
  .exact A.at λo q=>(n.2 it (E1 S)).u q
  .rw[dj ?_];exact(t b g).1;intro z;rcases D9.mp g with q|q
   .exact J7 l (q▸z)
   .have q:b=it:=by simpa using q
    let#[o,y,_]:=f;exact J7 (E4 y) (q▸z)
 done:=by intro X M hw N Q i kI s U H E I t st L;subst M hw N;let#[#[old,j],f]:=st;let#[xs,r,C]:=L;let#[its,B,p,hz]:=I.list r;let#[f0,f1,f2,f3,f4,f5]:=t it (by simp);let hl:=B.l;exact wpAny_pyNext_enum_end (I.ok.hd Q) j f p.Y (by simp;omega) λh' eb=>#[rfl,I.turned (t':=s.H) (λb o g q=>eb b o g q) f0 f1 f3 f4 f5]
 self:=λ_ _ _ _ _ st h=>st.1.n λ_ q=>wpAny_pyIter_enum q h
def xh0(K:eM)(i:TA):TI:=λg H R=>i g H λh f=>∃a,h=[.ref a]/\(∃xs,fb K f a xs)/\R (BU K a) f
def vp4:R9 "enumerate" = du (.type "enumerate"):=∅
def wm7{X:Cx}{g:bf gI}{u}{A:jU}{a:gI}{n:TA}{p pos:jU}(M:Gl X "enumerate")(J:X.mg "enumerate" = dv)(N:PA X [a] n)(E:D2 [a] X.f=[(eH,eval a X.f)]:=by rfl):
  PI X (.Tuple g u A) (.Call (.Name "enumerate" p) [a] [] pos) (xh0 X.K n):=by
 intro kI s m H R I h;apply Call_ (sI I M J vp4 (J9 (bu (N pos kI s m H _ I h) λU f ⟨S,t,j,y,B⟩=>?_) E rfl));let#[l,e,#[xs,G],q]:=B;subst e;cases y with
 | cons r x =>
  cases x;cases r;let#[its,Z,C,hz]:=j.list G;apply call_enumerate_list C.Y λO o k hsz L=>?_;apply wpAny_pyIter_enum o ?_;let Q:lp X kI m t { f with heap:=O}:=j.kept (t':=f.H) L;apply#[f.o.h.v+1,[f.o.h.v+1,f.o.h.v],_,_,t,rfl,Q,vc9 l _ _ (Nat.succ_ne_self _),#[#[.none,o],k],λb i=>?_,q];let i:f.o.h.v<=b:=by
   rcases D9.mp i with z|z
   .rw[z];exact U4 _
   .have e:b=f.o.h.v:=by simpa using z
    rw[e];exact B9 _
  exact j.oM i (j.aB.y i)
end L2
namespace L3
open PySem PySem.Spec PyProof.Rows L2
def wo:br->bf D->bf D
 | _,[]=>[]| i,d::r=>.tup [.int (i:bz),d]::wo (i+1) r
theorem Yy:∀{i:br} {ds:bf D},(wo i ds).l=ds.l
 | _,[]=>rfl| _,_::r=>by show(wo _ r).l+1=r.l+1;rw[Yy]
theorem vm2:∀{j i:br} {ds:bf D} {d:D},ds[i]?=du d->(wo j ds)[i]?=du (.tup [.int ((j+i:br):bz),d])
 | j,0,d::r,_,h=>by cases h;rfl
 | j,i+1,d::r,e,h=>by let:=vm2 (j:=j+1) (i:=i) (ds:=r) (d:=e) (by simpa using h);show(wo (j+1) r)[i]?=_;rw[this,show j+1+i=j+(i+1) by omega]| _,_,[],_,h=>by simp at h
def va0{K:eM}{h:Hp}{a:fy}{ds:bf D}:jq K h #[wo 0 ds,λG=>bt (G a)=du ds] (BU K a) where
 go:=λi G H l c ok hi=>by let#[xs,s,r]:=ft c ok;rw[Yy] at hi;exact#[xs,xs[i]'(by rw[<- r.l];exact hi),s,B6 _]
 stop:=λi G H l c ok hi=>by let#[xs,s,r]:=ft c ok;rw[Yy] at hi;exact#[xs,s,by rw[<- r.l];exact hi]
 qS:=λi G H x k l c ok hi y=>by let#[p,v,rfl,f,rfl,y]:=y;let#[xs,s,r]:=ft c ok;let#[d,g,rd]:=r.at_ (y xs s);apply#[c.side f,Le.y f,.tup [.int (i:bz),d],by rw[vm2 g,L6],?_];rw[af];exact#[p,_,rfl,eR.of iL,.cons af.c8 (.cons (af.le (Le.y f) rd) .nil)]
def E_(t:eD):uH:=λh G r=>t h G λf g=>match f with
 | [.ref a]=>(match bt (g a) with|some f=>r #[wo 0 f,λG=>bt (G a)=du f] g|none=>b8)
 | _=>b8
def vj3{K:eM}{t:eD}{j:L2.St}{H:Hp}{R:It->Hp->ck}(h:nA K (E_ t) j H R):xh0 K (eB K t) j H R:=by
 let#[i,G,q,m,c,t,f]:=h;apply#[i,G,_,m,c,t,λp y r x n c1 o g=>?_];split at g
 .rename_i a;split at g
  .rename_i p e;let#[v,rfl,l]:=n.one;cases l.ao;let#[xs,k,u]:=ft c1 e;exact#[a,rfl,#[xs,k],f _ _ _ _ va0 c1 o g]
  .exact g.n
 .exact g.n
def Rg{g}(k:Gl X "enumerate")(j:X.mg "enumerate" = dv)(l:A3 X [a] h)(i:D2 [a] X.f=[(eH,eval a X.f)]:=by rfl):
  I3 X (.Tuple f g m) (.Call (.Name "enumerate" p) [a] [] pos) (E_ h):=CD (wm7 k j l i) λ_ _ _=>vj3
end L3
namespace L2
open PySem PySem.Spec PyProof.Rows
def BV(K:eM)(a:fy)(n:br):It:=#[λi H=>i<n/\∃xs,fb K H a xs/\xs.l=n,λi H x f=>f=H/\∀xs,fb K H a xs->xs[n-1-i]?=du x,λi _=>n<=i]
def vs4{P:hH}{w:hL}{K:eM}{tg:gI}(a it:fy)(n:br):Turn P w K tg (BV K a n) [it] it (λi h=>i<=n/\h.IsRevIter it a ((n:bz)-1-(i:br))) where
 mem:=by simp
 obj:=λi h st b f=>by
  let e:b=it:=by simpa using f
  subst e;let#[o,e,c,d]:=st.2;exact#[o,e,λv z=>by rw[d] at z;cases z]
 keep:=λi h m st k=>#[st.1,st.2.at λo e=>k it (by simp) o e]
 item:=by
  intro X r hw t Q i kI s J H E I l st j;subst r hw t;let#[hi,xs,O,hn]:=j;let#[its,L,p,hz]:=I.list O;let hl:=L.l;let#[C,f1,f2,B,A,y]:=l it (by simp);let N:xs[n-1-i]?=du (xs[n-1-i]'()):=B6 _;let#[u,hu,U]:=L.get N;let G:(n:bz)-1-(i:br)=((n-1-i:br):bz):=()
  let g:=st.2;rw[G] at g;apply wpAny_pyNext_rev_item g p.Y (x:=u) (by simpa using hu) λm M S=>?_;let I1:lp X kI J H { s with heap:=m}:=I.turned (t':=s.H) (λb o f e=>(S.2 b f).u e) C f1 B A y;let#[o,e,c,d]:=id M;apply#[u,rfl,ES (s:={ s with heap:=m}) e c d ∅ #[_,H,I1,U,#[rfl,λys Z=>by rw[I.kz Z O];exact N],#[(),?_],λb f=>(l b f).1]];let e2:(n:bz)-1-((i+1:br):bz)=((n-1-i:br):bz)-1:=()
  rw[e2];exact M
 done:=by
  intro X r hw t Q i kI s J H E I l st j;subst r hw t;let j:n<=i:=j;let#[C,f1,f2,B,A,y]:=l it (by simp);let G:(n:bz)-1-(i:br)=-1:=by let:=st.1;omega
  let g:=st.2;rw[G] at g;exact wpAny_pyNext_rev_end (I.ok.hd Q) g λm eb=>#[rfl,I.turned (t':=s.H) (λb o f q=>eb b o f q) C f1 B A y]
 self:=λ_ _ _ _ _ st h=>wpAny_pyIter_revIter st.2 h
def KD(K:eM)(i:TA):TI:=λg H R=>i g H λh f=>∃a xs,h=[.ref a]/\fb K f a xs/\R (BV K a xs.l) f
def x15{X:Cx}{tg:gI}{a:gI}{j:TA}{p pos:jU}(C:Gl X "reversed")(B:X.mg "reversed" = dv)(G:PA X [a] j)(y:D2 [a] X.f=[(eH,eval a X.f)]:=by rfl):
  PI X tg (.Call (.Name "reversed" p) [a] [] pos) (KD X.K j):=by
 intro kI s i H R I h;apply Call_ (sI I C B boot_reversed (J9 (bu (G pos kI s i H _ I h) λN f ⟨M,k,g,t,u⟩=>?_) y rfl));let#[l,xs,e,A,q]:=u;subst e;cases t with
 | cons r n =>
  cases n;cases r;let#[its,m,x,Q]:=g.list A;let S:=m.l;apply call_reversed_list x.Y ?_;let st:(f.o.R (revObj l ((its.e.v:bz)-1))).IsRevIter f.o.h.v l ((its.e.v:bz)-1):=#[_,E7 _ rfl,rfl,rfl];let L:lp X kI i k { f with heap:=f.o.R (revObj l ((its.e.v:bz)-1))}:=g.kept (t':=f.H) λb o e=>B8 _ e;apply wpAny_pyIter_revIter st ?_;apply#[f.o.h.v,[f.o.h.v],_,_,k,rfl,L,vs4 l _ xs.l,#[J8 _,?_],λb E=>?_,q]
  .have J:(xs.l:bz)-1-((0:br):bz)=(its.e.v:bz)-1:=by simp;omega
   rw[J];exact st
  .have e:b=f.o.h.v:=by simpa using E
   subst e;exact g.oM (B9 _) (g.aB.y (B9 _))
end L2
namespace L3
open PySem PySem.Spec PyProof.Rows L2
def vk9{K:eM}{h:Hp}{a:fy}{ds:bf D}{n:br}(f:ds.l=n):jq K h #[ds.ff,λG=>bt (G a)=du ds] (BV K a n) where
 go:=λi G H l c ok hi=>by let#[xs,s,r]:=ft c ok;rw[T6] at hi;exact#[(),xs,s,by rw[<- r.l];exact f]
 stop:=λi G H l c ok hi=>by rw[T6] at hi;show n<=i;omega
 qS:=λi G H x k l c ok hi y=>by let#[rfl,y]:=y;let#[xs,s,r]:=ft c ok;rw[T6] at hi;let#[d,g,rd]:=r.at_ (y xs s);apply#[c,Le.j _,d,?_,rd];rw[sg hi,f];exact g
def Ct(t:eD):uH:=λh G r=>t h G λf g=>match f with
 | [.ref a]=>(match bt (g a) with|some f=>r #[f.ff,λG=>bt (G a)=du f] g|none=>b8)
 | _=>b8
def vv7{K:eM}{t:eD}{j:L2.St}{H:Hp}{R:It->Hp->ck}(h:nA K (Ct t) j H R):KD K (eB K t) j H R:=by
 let#[i,G,q,m,c,t,f]:=h;apply#[i,G,_,m,c,t,λr y u x n c1 p g=>?_];split at g
 .rename_i a;split at g
  .rename_i r e;let#[v,rfl,l]:=n.one;cases l.ao;let#[xs,k,o]:=ft c1 e;exact#[a,xs,rfl,k,f _ _ _ _ (vk9 o.l) c1 p g]
  .exact g.n
 .exact g.n
def va2(i:Gl X "reversed")(h:X.mg "reversed" = dv)(j:A3 X [a] f)(g:D2 [a] X.f=[(eH,eval a X.f)]:=by rfl):
  I3 X tg (.Call (.Name "reversed" p) [a] [] pos) (Ct f):=CD (x15 i h j g) λ_ _ _=>vv7
end L3
namespace L2
open PySem PySem.Spec PyProof.Rows
section
variable{X:Cx}
def uw7:bK X (.builtin "isinstance") (λxs H Q=>∃a ys T,xs=[.ref a,.ty T]/\eR X.K H a ys/\(T = "int" \/ T = "str" \/ T = "bool" \/ T = "list" \/ T = "tuple" \/ T = "dict")/\Q (.bl (j4 "tuple" T)) H):=by intro kI s n H xs t Q I r h;let#[a,ys,T,rfl,j,k,q]:=h;let#[u,w,rfl,g,i]:=vals2 r;cases i;cases g;let#[its,x,p,y]:=I.tuple j;let#[o,m,l,_]:=p;exact W.kia_one W.kitx_tuple I.jf #[o,m,l] (zd (by simp) k) (λz=>nomatch z) λf=>#[.bl (j4 "tuple" T),H,I.tok f,rfl,q]
end
end L2
namespace L3
open PySem PySem.Spec PyProof.Rows L2
section
variable{X:Cx}
def Yo:C3:=λf G q=>match f with
 | [.tup _,.ty T]=>(T = "int" \/ T = "str" \/ T = "bool" \/ T = "list" \/ T = "tuple" \/ T = "dict")/\q (.bl (j4 "tuple" T)) G| _=>b8
def vb7:Call3 X (.builtin "isinstance") Yo:=nR uw7 λxs H Q ⟨l,G,q,r,c,t,f⟩=>by
 unfold Yo at t;split at t
 .rename_i d T;let#[v,u,rfl,j,g]:=r.two;rw[af] at g;subst g;let#[a,h,rfl,i,k]:=j.aU;exact#[a,h,T,rfl,i,t.1,f _ _ _ _ af.nJ c (Le.j H) t.2]
 .exact t.n
end
end L3
namespace Law
open PySem L2 L3 Rw
def gv(h:0<=v):∃x:br,v=(x:bz):=#[v.i,()]
structure b9(G:Gp)(st:fy):Prop where
 ex:∃(a:fy) (ns:bf bz) (k r:bz),G st=du (.lst [.ref a,.int k,.int r])/\G a=du (.uB (ns.t .int))/\0<=k/\0<=r/\a≠st/\ns.l<=63
structure cJ(st:fy)(G G':Gp):Prop where
 at_:b9 G' st
 kp:∀b o,b≠st->G b=du o->G' b=du o
structure Af(a:fy)(bs:bf bz)(G G':Gp):Prop where
 at_:G' a=du (.lst (bs.t .int))
 kp:∀b,b≠a->G' b=G b
def dH(f g:fy)(s:br):bf (gq×D):=[("rows",.ref f),("held",.ref g),("spot",.int (s:bz))]
structure bT(C:fy)(G:Gp)(p ra ha:fy)(rs:bf k')(bs:bf bz)(s:br):Prop where
 ob:G p=du (.ins C (dH ra ha s))
 ro:G ra=du (.lst (rs.t k'.d))
 he:G ha=du (.lst (bs.t .int))
 ne:ra≠ha
structure kQ(sz:br)(rs:bf k')(bs:bf bz)(s:br):Prop where
 bo:cZ sz bs
 ro:∀r∈rs,r.ok sz
 le:s<=rs.l
def bD(rs:bf k')(bs:bf bz)(s:br):cg:=match rs[s]? with
 | none=>eH| some (.aL x n _)=>!decide (gt bs x=n)| some _=>dS
def fi(rs:bf k')(bs:bf bz)(s:br):cg:=if s=0 then eH else match rs[s-1]? with
 | none=>eH| some (.go x n _)=>!decide (gt bs x=n)| some _=>dS
def cf(rs:bf k')(bs:bf bz)(s:br):br×bf bz:=match rs[s]? with
 | some (.go x n k)=>if gt bs x=n then(k+1,bs) else(s+1,bs)| some r=>(s+1,da 1 bs r)| none=>(s,bs)
def eN(rs:bf k')(bs:bf bz)(s:br):br×bf bz:=match rs[s-1]? with
 | some (.aL x n k)=>if gt bs x=n then(k,bs) else(s-1,bs)| some r=>(s-1,da (-1) bs r)| none=>(s,bs)
def bT.pr(h:bT C G p f g rs bs s):p≠f:=by intro e;let:=h.ob;rw[e,h.ro] at this;cases this
def bT.ph(h:bT C G p g f rs bs s):p≠f:=by intro e;let:=h.ob;rw[e,h.he] at this;cases this
def b9.new(h:b9 G st)(f:G p=dv):b9 (aC G p o) st:=by let#[a,j,k,r,i,g,l]:=h.ex;exact#[a,j,k,r,by rw[aA (aT i f)];exact i,by rw[aA (aT g f)];exact g,l]
def b9.ne(h:b9 G st)(f:G p=dv):p≠st:=by let#[a,i,k,r,g,l,j]:=h.ex;exact E1 (aT g f)
def b9.set(h:b9 G st)(i:G p=du (.lst xs))(m:p≠st):b9 (aC G p (.lst ys)) st:=by
 let#[a,g,k,r,l,f,j]:=h.ex;let:a≠p:=by intro e;rw[e,i] at f;cases f
 exact#[a,g,k,r,by rw[aA (E1 m)];exact l,by rw[aA this];exact f,j]
def cJ.refl(h:b9 G st):cJ st G G:=#[h,λ_ _ _ e=>e]
def cJ.trans(a:cJ st G G1)(b:cJ st G1 g):cJ st G g:=#[b.at_,λc o f e=>b.kp c o f (a.kp c o f e)]
theorem cJ.new(a:cJ st G G1)(f:G1 p=dv):cJ st G (aC G1 p o):=#[a.at_.S f,λc u g e=>by rw[aA (aT (a.kp c u g e) f)];exact a.kp c u g e]
def cJ.own(a:cJ st G G1)(f:G p=dv)(h1:G1 p=du (.lst xs))(h:p≠st):cJ st G (aC G1 p (.lst ys)):=#[a.at_.I h1 h,λc u g e=>by rw[aA (aT e f)];exact a.kp c u g e]
theorem cJ.none(a:cJ st G G1)(f:G1 p=dv)(g:p≠st):G p=dv:=by
 cases e:G p with
 | none=>rfl| some o=>rw[a.kp p o g e] at f;cases f
def Qk{rs:bf k'}(h:s<rs.l)(f:rs[s].plain=dS):bD rs bs s=dS/\cf rs bs s=(s+1,da 1 bs rs[s]):=by let g:=B6 h;revert f;unfold bD cf;rw[g];cases rs[s] <;> intro f <;> first|exact⟨rfl,rfl⟩|cases f
def w65{rs:bf k'}(h:s<rs.l)(f:rs[s].plain=dS):fi rs bs (s+1)=dS/\eN rs bs (s+1)=(s,da (-1) bs rs[s]):=by let g:=B6 h;revert f;unfold fi eN;rw[cp (),L0,g];cases rs[s] <;> intro f <;> first|exact⟨rfl,rfl⟩|cases f
def Ek:bD rs bs rs.l=eH:=by unfold bD;rw[M9 (B9 _)]
def bT.grow(h:bT C G p f i rs bs s)(g:aj G j):bT C j p f i rs bs s:=⟨g.kp _ _ h.ob,g.kp _ _ h.ro,g.kp _ _ h.he,h.ne⟩
structure Kept(p ha:fy)(G G':Gp):Prop where
 kp:∀b o,b≠p->b≠ha->G b=du o->G' b=du o
def Kept.refl:Kept p f G G:=⟨λ_ _ _ _ h=>h⟩
def Kept.trans(a:Kept p f G G1)(b:Kept p f G1 j):Kept p f G j:=⟨λc o i g h=>b.kp c o i g (a.kp c o i g h)⟩
def Kept.grow(a:Kept p f G G1)(b:aj G1 j):Kept p f G j:=⟨λc o i g h=>b.kp c o (a.kp c o i g h)⟩
def Kept.eqs(a:Kept p f G G1)(b:∀c,c≠p->c≠f->j c=G1 c):Kept p f G j:=⟨λc o i g h=>by rw[b c i g];exact a.kp c o i g h⟩
theorem Kept.none(a:Kept p f G G1)(h1:q≠p)(g:q≠f)(h:G1 q=dv):G q=dv:=by
 cases e:G q with
 | none=>rfl| some o=>rw[a.kp q o h1 g e] at h;cases h
end Law
namespace Rw
open PySem L2 L3
theorem Yb{i j:Type}{f:i->b0 j}:∀{xs:bf i},(∀x∈xs,∃y,f x=du y)->∃ys,xs.mapM f=du ys
 | [],_=>#[[],rfl]| x::xs,h=>by let#[y,l]:=h x D0;let#[ys,g]:=Yb (xs:=xs) λz k=>h z (C2 _ k);exact#[y::ys,by rw[V8,l,g];rfl]
theorem Ya:∀{ys:bf Sn},(∀y∈ys,fQ n y y=du dS)->∃bs,((ys.zip ys).mapM λp=>fQ n p.1 p.2)=du bs/\bs.all id=dS
 | [],_=>#[[],rfl,rfl]| y::ys,h=>by let#[bs,e,q]:=Ya (ys:=ys) λz f=>h z (C2 _ f);apply#[dS::bs,?_,by rw[V7,q];rfl];rw[Q8,V8,e,h y D0];rfl
theorem Yc{l k:Type}{f:l->b0 k}:∀{xs:bf l} {ys:bf k},xs.mapM f=du ys->∀y∈ys,∃x,f x=du y
 | [],ys,h,y,g=>by
  let:ys=[]:=by simpa using h.M
  subst this;cases g
 | x::xs,ys,h,y,g=>by
  rw[V8] at h;cases i:f x with
  | none=>rw[i] at h;cases h
  | some z =>
   rw[i] at h;cases j:xs.mapM f with
   | none=>rw[j] at h;cases h
   | some r =>
    rw[j] at h;let e:z::r=ys:=E8 h;subst e;rcases D9.mp g with rfl|q
    .exact⟨x,i⟩
    .exact Yc j y q
theorem Hj{G:Gp}:∀(n:br) {d:D} {s:Sn},snap G n d=du s->fQ n s s=du dS
 | n,.non,s,h=>by cases n <;> (cases h;rfl)
 | n,.bl b,s,h=>by cases n <;> (cases h;cases b <;> rfl)
 | n,.int i,s,h=>by cases n <;> (cases h;exact cv du (beq_self_eq_true i))
 | n,.str i,s,h=>by cases n <;> (cases h;exact cv du (beq_self_eq_true i))
 | n,.ty _,s,h=>by cases n <;> cases h
 | 0,.tup _,s,h=>by cases h
 | 0,.ref _,s,h=>by cases h
 | n+1,.tup j,s,h=>by
  let#[f,e,rfl]:=F6.mp (show(j.mapM (snap G n)).t Sn.tup=du s from h);let#[g,m,q]:=Ya (n:=n) (ys:=f) λy k=>by let#[x,l]:=Yc e y k;exact Hj n l
  show(if f.l=f.l then((f.zip f).mapM λp=>fQ n p.1 p.2).t (λg=>g.all id) else dv)=_;rw[cu rfl,m,OC,q]
 | n+1,.ref a,s,h=>by
  let#[j,o,h]:=vl.mp (show((bt (G a)).bind λj=>(j.mapM (snap G n)).t Sn.lst)=du s from h);let#[f,e,rfl]:=F6.mp h;let#[g,m,q]:=Ya (n:=n) (ys:=f) λy k=>by let#[x,l]:=Yc e y k;exact Hj n l
  show(if f.l=f.l then((f.zip f).mapM λp=>fQ n p.1 p.2).t (λg=>g.all id) else du eH)=_;rw[cu rfl,m,OC,q]
def aV{G:Gp}{n:br}{ds:bf D}(h:∀d∈ds,∃s,snap G n d=du s):∃s,snap G (n+1) (.tup ds)=du s:=by let#[f,e]:=Yb h;exact#[.tup f,by show(ds.mapM (snap G n)).t Sn.tup=_;rw[e];rfl]
def mN:∃s,snap G n (.int i)=du s:=by cases n <;> exact#[_,rfl]
def zh:∃s,snap G n (.str i)=du s:=by cases n <;> exact#[_,rfl]
def all1{p:D->ck}{a:D}(h:p a):∀d∈[a],p d:=λd f=>by cases D8.mp f;exact h
def all2{p:D->ck}{a:D}{r:bf D}(h:p a)(f:∀d∈r,p d):∀d∈a::r,p d:=λd g=>by
 rcases D9.mp g with rfl|q
 .exact h
 .exact f d q
def v37(o:kZ):∃s,snap G (n+1) o.d=du s:=by
 cases o with
 | num m=>exact aV (all2 zh (all1 mN))| box y=>exact aV (all2 zh (all1 mN))
def v36{G:Gp}{n:br}(r:k'):∃s,snap G (n+3) r.d=du s:=by
 cases r with
 | add x o=>exact aV (all2 zh (all2 mN (all1 (v37 o))))| take x o=>exact aV (all2 zh (all2 mN (all1 (v37 o))))| turn x i g =>apply aV (all2 zh (all2 mN (all2 mN (all1 (aV λd f=>?_)))));let#[c,_,rfl]:=D6.mp f;exact aV (all2 mN (all1 mN))| swap x y=>exact aV (all2 zh (all2 mN (all1 mN)))| go x m k=>exact aV (all2 zh (all2 mN (all2 mN (all1 mN))))| aL x m k=>exact aV (all2 zh (all2 mN (all2 mN (all1 mN))))
def vd8{G:Gp}{n:br}{a:fy}{rs:bf k'}(h:bt (G a)=du (rs.t k'.d)):∃s,snap G (n+4) (.ref a)=du s:=by
 let#[g,e]:=Yb (f:=snap G (n+3)) (xs:=rs.t k'.d) λd i=>by let#[r,_,rfl]:=D6.mp i;exact v36 r
 exact#[.lst g,by show((bt (G a)).bind λj=>(j.mapM (snap G (n+3))).t Sn.lst)=_;rw[h,TB,e];rfl]
def cy(h:bt (G a)=bt (G b)):snap G n (.ref a)=snap G n (.ref b):=by
 cases n with
 | zero=>rfl| succ n=>show((bt (G a)).bind _)=((bt (G b)).bind _);rw[h]
def vz4{G:Gp}{a b:fy}{rs:bf k'}{i:bz}{Q:cg->ck}(h1:bt (G a)=du (rs.t k'.d))(k:bt (G b)=du (rs.t k'.d))(h:Q dS): ∃n j g r,n<=40/\snap G n (.tup [.int i,.ref a])=du j/\snap G n (.tup [.int i,.ref b])=du g/\fQ n j g=du r/\Q r:=by
 let e:snap G 4 (.ref a)=snap G 4 (.ref b):=cy (by rw[h1,k]);let#[s,f]:=aV (G:=G) (n:=4) (ds:=[.int i,.ref a]) (all2 mN (all1 (vd8 h1)));apply#[5,s,s,dS,∅,f,?_,Hj 5 f,h];rw[<- f];show(([D.int i,.ref b].mapM (snap G 4)).t Sn.tup)=(([D.int i,.ref a].mapM (snap G 4)).t Sn.tup)
 rw[V8,V8,V8,V8,e]
end Rw
namespace Law
open PySem L2 L3 Rw
structure Pairs(rs:bf k'):Prop where
 go:∀(j x:br) (n:bz) (k:br),rs[j]?=du (k'.go x n k)->rs[k]?=du (.aL x n j)
 co:∀(j x:br) (n:bz) (k:br),rs[j]?=du (k'.aL x n k)->rs[k]?=du (.go x n j)
def oh{f:Type}{xs:bf f}{i:br}{x:f}(h:xs[i]?=du x):i<xs.l:=(N1.mp h).1
def wp2(h:bD rs bs s=dS):s<rs.l:=by
 by_cases q:s<rs.l
 .exact q
 .unfold bD at h;rw[M9 ()] at h;cases h
def vv5(h:fi rs bs s=dS):s≠0:=by intro e;subst e;cases h
def xo5{rs:bf k'}{bs:bf bz}{s sz:br}(u:Pairs rs)(c:kQ sz rs bs s)(m:bD rs bs s=dS): kQ sz rs (cf rs bs s).2 (cf rs bs s).1/\fi rs (cf rs bs s).2 (cf rs bs s).1=dS/\eN rs (cf rs bs s).2 (cf rs bs s).1=(s,bs):=by
 let j:=wp2 m;let g:=B6 j;let r:=c.ro _ (M4 j);let B:∀row:k',rs[s]=row->row.plain=dS->cf rs bs s=(s+1,da 1 bs row)/\(fi rs (da 1 bs row) (s+1)=dS/\eN rs (da 1 bs row) (s+1)=(s,bs)):=by intro row f q;let p:=Qk (bs:=bs) j (by rw[f];exact q);let l:=w65 (bs:=da 1 bs row) j (by rw[f];exact q);rw[f] at p l;rw[f] at r;apply#[p.2,l.1,?_];rw[l.2,v31 (.inl rfl) c.bo r]
 let l':∀row:k',rs[s]=row->row.plain=dS->kQ sz rs (cf rs bs s).2 (cf rs bs s).1/\fi rs (cf rs bs s).2 (cf rs bs s).1=dS/\eN rs (cf rs bs s).2 (cf rs bs s).1=(s,bs):=by intro row f q;let#[p,l,A]:=B row f q;rw[p];rw[f] at r;exact#[#[Xm c.bo r,c.ro,j],l,A]
 cases f:rs[s] with
 | add x o=>exact l' _ f rfl| take x o=>exact l' _ f rfl| turn x i E=>exact l' _ f rfl| swap x y=>exact l' _ f rfl| go x n k =>
  let t:=u.go s x n k (by rw[g,f]);let C:=oh t;by_cases h:gt bs x=n
  .have e:cf rs bs s=(k+1,bs):=by unfold cf;rw[g,f];simp[h]
   rw[e];apply#[#[c.bo,c.ro,C],?_,?_]
   .show fi rs bs (k+1)=dS;unfold fi;rw[cp (),L0,t]
   .show eN rs bs (k+1)=(s,bs)
    unfold eN;rw[L0,t];simp[h]
  .have e:cf rs bs s=(s+1,bs):=by unfold cf;rw[g,f];simp[h]
   rw[e];apply#[#[c.bo,c.ro,j],?_,?_]
   .show fi rs bs (s+1)=dS;unfold fi;rw[cp (),L0,g,f];simp[h]
   .show eN rs bs (s+1)=(s,bs)
    unfold eN;rw[L0,g,f];rfl
 | aL x n k =>
  let h:¬ gt bs x=n:=by unfold bD at m;rw[g,f] at m;simpa using m
  let e:cf rs bs s=(s+1,bs):=by unfold cf;rw[g,f];rfl
  rw[e];apply#[#[c.bo,c.ro,j],?_,?_]
  .show fi rs bs (s+1)=dS;unfold fi;rw[cp (),L0,g,f]
  .show eN rs bs (s+1)=(s,bs)
   unfold eN;rw[L0,g,f];simp[h]
def xo6{rs:bf k'}{bs:bf bz}{s sz:br}(C:Pairs rs)(c:kQ sz rs bs s)(l:fi rs bs s=dS): kQ sz rs (eN rs bs s).2 (eN rs bs s).1/\bD rs (eN rs bs s).2 (eN rs bs s).1=dS/\cf rs (eN rs bs s).2 (eN rs bs s).1=(s,bs):=by
 let m:=c.le;obtain⟨t,rfl⟩:∃t,s=t+1:=#[s-1,by let:=vv5 l;omega];let j:t<rs.l:=m;let g:=B6 j;let r:=c.ro _ (M4 j);let l':∀row:k',rs[t]=row->row.plain=dS->kQ sz rs (eN rs bs (t+1)).2 (eN rs bs (t+1)).1/\bD rs (eN rs bs (t+1)).2 (eN rs bs (t+1)).1=dS/\cf rs (eN rs bs (t+1)).2 (eN rs bs (t+1)).1=(t+1,bs):=by intro row f B;let A:=w65 (bs:=bs) j (by rw[f];exact B);let q:=Qk (bs:=da (-1) bs row) j (by rw[f];exact B);rw[f] at q A r;rw[A.2];let u:=v31 (s:=-1) (.inr rfl) c.bo r;rw[show(-(-1):bz)=1 from rfl] at u;apply#[#[Xm c.bo r,c.ro,O4 j],q.1,?_];show cf rs (da (-1) bs row) t=_;rw[q.2,u]
 cases f:rs[t] with
 | add x o=>exact l' _ f rfl| take x o=>exact l' _ f rfl| turn x i G=>exact l' _ f rfl| swap x y=>exact l' _ f rfl| aL x n k =>
  let p:=C.co t x n k (by rw[g,f]);let E:=oh p;by_cases h:gt bs x=n
  .have e:eN rs bs (t+1)=(k,bs):=by unfold eN;rw[L0,g,f];simp[h]
   rw[e];apply#[#[c.bo,c.ro,O4 E],?_,?_]
   .show bD rs bs k=dS;unfold bD;rw[p]
   .show cf rs bs k=(t+1,bs)
    unfold cf;rw[p];simp[h]
  .have e:eN rs bs (t+1)=(t,bs):=by unfold eN;rw[L0,g,f];simp[h]
   rw[e];apply#[#[c.bo,c.ro,O4 j],?_,?_]
   .show bD rs bs t=dS;unfold bD;rw[g,f];simp[h]
   .show cf rs bs t=(t+1,bs)
    unfold cf;rw[g,f];rfl
 | go x n k =>
  let h:¬ gt bs x=n:=by unfold fi at l;rw[cp (),L0,g,f] at l;simpa using l
  let e:eN rs bs (t+1)=(t,bs):=by unfold eN;rw[L0,g,f];rfl
  rw[e];apply#[#[c.bo,c.ro,O4 j],?_,?_]
  .show bD rs bs t=dS;unfold bD;rw[g,f]
  .show cf rs bs t=(t+1,bs)
   unfold cf;rw[g,f];simp[h]
def od:b0 k'->D
 | none=>.non| some r=>r.d
end Law
namespace Law
open PySem L2 L3 Rw
def v75{f:Type}{xs:bf f}{x:f}:cS (xs++[x]) (-1)=du x:=by
 rw[Cy];unfold jz;rw[cp ∅,B4,Q5,cu (),TB];let:((-1:bz)+((xs.l+1:br):bz)).i=xs.l:=()
 rw[this,F9 (B9 _),Z8];rfl
def b9.grow(h:b9 G st)(g:aj G m):b9 m st:=by let#[a,f,k,r,l,j,i]:=h.ex;exact#[a,f,k,r,g.kp _ _ l,g.kp _ _ j,i]
def lN{s:br}:K1 ("rows" :gq) (dH f g s)=du (D.ref f)/\K1 ("held" :gq) (dH f g s)=du (D.ref g)/\K1 ("spot" :gq) (dH f g s)=du (D.int (s:bz)) /\ K1 ("place" :gq) (dH f g s)=dv/\K1 ("boxes" :gq) (dH f g s)=dv/\K1 ("forth" :gq) (dH f g s)=dv/\K1 ("back" :gq) (dH f g s)=dv/\K1 ("at_end" :gq) (dH f g s)=dv/\K1 ("at_begin" :gq) (dH f g s)=dv /\ K1 ("may_forth" :gq) (dH f g s)=dv/\K1 ("may_back" :gq) (dH f g s)=dv/\(∀v:D,putD ("spot" :gq) v (dH f g s)=([("rows",.ref f),("held",.ref g),("spot",v)]:bf (gq×D))):=by
 apply#[?_,?_,?_,?_,?_,?_,?_,?_,?_,?_,?_,λv=>?_] <;> simp only[dH,cW,str_beq,C4,decide_false,decide_true,beq_self_eq_true,J0,P8,putD,if_false,if_true]
def WU:(dH f g s).l<1000:=show 3<1000 by decide
def xe7(r:k'):(∃x m k,r=.go x m k)\/∃w rest,r.d=.tup (.str w::rest)/\(w=("go" :gq))=b8/\∀(rs:bf k') (bs:bf bz) (s:br),rs[s]?=du r->cf rs bs s=(s+1,da 1 bs r):=by
 cases r with
 | go x m k=>exact .inl #[x,m,k,rfl]| aL x m k=>exact .inr #[_,_,rfl,c_ ∅,λrs bs s h=>by unfold cf;rw[h]]| add x o=>exact .inr #[_,_,rfl,c_ ∅,λrs bs s h=>by unfold cf;rw[h]]| take x o=>exact .inr #[_,_,rfl,c_ ∅,λrs bs s h=>by unfold cf;rw[h]]| turn x i f=>exact .inr #[_,_,rfl,c_ ∅,λrs bs s h=>by unfold cf;rw[h]]| swap x y=>exact .inr #[_,_,rfl,c_ ∅,λrs bs s h=>by unfold cf;rw[h]]
def xe8(r:k'):(∃x m k,r=.aL x m k)\/∃w rest,r.d=.tup (.str w::rest)/\(w=("come" :gq))=b8/\∀(rs:bf k') (bs:bf bz) (s:br),rs[s-1]?=du r->eN rs bs s=(s-1,da (-1) bs r):=by
 cases r with
 | aL x m k=>exact .inl #[x,m,k,rfl]| go x m k=>exact .inr #[_,_,rfl,c_ ∅,λrs bs s h=>by unfold eN;rw[h]]| add x o=>exact .inr #[_,_,rfl,c_ ∅,λrs bs s h=>by unfold eN;rw[h]]| take x o=>exact .inr #[_,_,rfl,c_ ∅,λrs bs s h=>by unfold eN;rw[h]]| turn x i f=>exact .inr #[_,_,rfl,c_ ∅,λrs bs s h=>by unfold eN;rw[h]]| swap x y=>exact .inr #[_,_,rfl,c_ ∅,λrs bs s h=>by unfold eN;rw[h]]
def vR(r:k'):(∃x m k,r=.go x m k)\/(∃x m k,r=.aL x m k)\/∃w rest,r.d=.tup (.str w::rest)/\(w=("go" :gq))=b8/\(w=("come" :gq))=b8/\r.plain=dS:=by
 cases r with
 | go x m k=>exact .inl #[x,m,k,rfl]| aL x m k=>exact .inr (.inl #[x,m,k,rfl])| add x o=>exact .inr (.inr #[_,_,rfl,c_ ∅,c_ ∅,rfl])| take x o=>exact .inr (.inr #[_,_,rfl,c_ ∅,c_ ∅,rfl])| turn x i f=>exact .inr (.inr #[_,_,rfl,c_ ∅,c_ ∅,rfl])| swap x y=>exact .inr (.inr #[_,_,rfl,c_ ∅,c_ ∅,rfl])
end Law
namespace L3
open PySem PySem.Spec PyProof.Rows L2
theorem Rb:∀ks:bf bz,intsOf (ks.t D.int)=du ks
 | []=>rfl| k::ks=>by show(intsOf (ks.t D.int)).t (k::·)=_;rw[Rb ks];rfl
def Ko{w a b:gq}:decide (w∈[a,b])=(decide (w=a)||decide (w=b)):=by
 by_cases g:w=a
 .simp[g]
 .by_cases f:w=b
  .simp[f]
  .simp[g,f]
def kU:(∀w a b G q,gs eH (.str w) (.tup [.str a,.str b]) G q=q (.bl (decide (w=a)||decide (w=b))) G)/\(∀w a b G q,gs dS (.str w) (.tup [.str a,.str b]) G q=q (.bl (!(decide (w=a)||decide (w=b)))) G) /\ (∀v a G q,gs dS (.int v) (.ref a) G q=(match bt (G a) with|some ds=>(match intsOf ds with|some f=>q (.bl (!decide (v∈f))) G|none=>b8)|none=>b8)) /\
  (∀v a G q,gs eH (.int v) (.ref a) G q=(match bt (G a) with|some ds=>(match intsOf ds with|some f=>q (.bl (decide (v∈f))) G|none=>b8)|none=>b8)) /\
  (∀i j G q,gu dS (.bl i) (.bl j) G q=q (.bl (!decide (i=j))) G)/\(∀i j G q,gu eH (.bl i) (.bl j) G q=q (.bl (decide (i=j))) G) /\
  (∀a b G q,mJ (.ref a) (.ref b) G q=(match G a,G b with|some (.lst xs),du (.lst ys)=>xs.l+ys.l<=iZ/\∀p,G p=dv->q (.ref p) (aC G p (.lst (xs++ys)))|_,_=>b8))/\((2<=iZ)=dm):=by
 apply#[λw a b G q=>?_,λw a b G q=>?_,λ_ _ _ _=>rfl,λ_ _ _ _=>rfl,λ_ _ _ _=>rfl,λ_ _ _ _=>rfl,λ_ _ _ _=>rfl,eq_true ∅]
 .show q (.bl (decide (w∈[a,b]))) G=_;rw[Ko]
 .show q (.bl (!decide (w∈[a,b]))) G=_;rw[Ko]
theorem QV:∀m:br,Cw (C7 m (.bl dS))=du (C7 m dS)
 | 0=>rfl| m+1=>by rw[K4,Cw,QV m];rfl
def Xt(m:br):(C7 m dS).all id=dS:=by simp
def WQ{a p:fy}{h:Gp}{u7:bf bz}{Ew:bz}{te:bI}{l:d9}{q:DK}(n:∀(v:bz) (G:Gp) (q:DK),q (.bl (decide (v<Ew))) G->te (du (.int v)::l) G q)(B:bt (h a)=du (u7.t .int))(A:a≠p)(J:u7.l<=1000)(u:∀k∈u7,k<Ew) (E:q (.ref p) (aC h p (.lst (C7 u7.l (.bl dS))))) (y:b0 D):vw (λG=>bt (G a)=du (u7.t .int)) (sH 0) wx te p q (u7.t .int) (y::l) (aC h p (.lst [])):=by
 apply jP (λr i x=>∃(f:bf bz) (m:br) (v:b0 D),r=f.t .int/\f.l+m=u7.l/\(∀k∈f,k<Ew)/\x=aC h p (.lst (C7 m (.bl dS)))/\i=v::l) #[u7,0,y,rfl,(),u,rfl,rfl] ?_ ?_
 .intro i x #[f,m,v,e,t,_,rfl,rfl];let g:f=[]:=by simpa using e.M
  subst g;apply#[by rw[aA A];exact B,?_];let o:m=u7.l:=by simpa using t
  rw[o];exact E
 .rintro z r i x ⟨f,m,v,e,t,g,rfl,rfl⟩ C;cases f with
  | nil=>cases e
  | cons k f =>cases e;apply#[by rw[aA A];exact B,?_];let I:decide (k<Ew)=dS:=cA (g k D0);simp only[sH,wx,C14,if_true];apply n k _ _ ?_;rw[I];simp only[ay];rw[C0] at t;apply#[by rw[O2];exact C6 (m:=1000) () ∅,?_];apply C _ _ #[f,m+1,_,rfl,(),λj H=>g j (C2 _ H),?_,rfl];rw[gb,List.replicate_succ']
end L3
namespace Rw
open PySem L2 L3
def rb:k'->bf bz
 | .add _ (.box y)=>[(y:bz)]| .take _ (.box y)=>[(y:bz)]| .turn _ _ f=>f.t λc=>(c.1:bz)| .swap _ y=>[(y:bz)]| _=>[]
def kh:k'->bf bz
 | .turn _ i f=>(i:bz)::f.t λc=>(c.2:bz)| _=>[]
def hV:k'->bf bz
 | .add _ (.num n)=>[n]| .take _ (.num n)=>[n]| .go _ n _=>[n]| .aL _ n _=>[n]| _=>[]
def k'.x:k'->br
 | .add x _=>x| .take x _=>x| .turn x _ _=>x| .swap x _=>x| .go x _ _=>x| .aL x _ _=>x
def ve7(r:k'):∃w rest,r.d=.tup (.str w::.int (r.x:bz)::rest):=by cases r <;> exact#[_,_,rfl]
def w62{r:k'}(h:r.ok sz):(rb r).l<=2:=by
 cases r with
 | add x o=>cases o <;> exact E9 rfl
 | take x o=>cases o <;> exact E9 rfl
 | turn x i f=>show(f.t _).l<=2;rw[B0];exact h.2.2.1| swap x y=>exact E9 rfl| go x n k=>exact E9 rfl| aL x n k=>exact E9 rfl
def vf3{r:k'}(h:r.ok sz):(kh r).l<=3:=by
 cases r with
 | turn x i f=>show(_::f.t _).l<=3;rw[C0,B0];let:=h.2.2.1;omega| add x o=>exact E9 rfl| take x o=>exact E9 rfl| swap x y=>exact E9 rfl| go x n k=>exact E9 rfl| aL x n k=>exact E9 rfl
def ve8:(hV r).l<=1:=by
 cases r with
 | add x o=>cases o <;> exact E9 rfl
 | take x o=>cases o <;> exact E9 rfl
 | turn x i f=>exact E9 rfl| swap x y=>exact E9 rfl| go x n k=>exact E9 rfl| aL x n k=>exact E9 rfl
def Zn{sz:br}{r:k'}(h:r.ok sz):r.x<sz:=by cases r <;> exact h.1
def x42{sz:br}{r:k'}(h:r.ok sz):∀k∈rb r,k<(sz:bz)/\k≠(r.x:bz):=by
 intro k f;cases r with
 | add x o =>
  cases o with
  | num n=>cases f
  | box y=>replace f:=D8.mp f;subst f;let:=h.2;exact#[by let:=this.1;omega,by let:=this.2;show(y:bz)≠(x:bz);omega]
 | take x o =>
  cases o with
  | num n=>cases f
  | box y=>replace f:=D8.mp f;subst f;let:=h.2;exact#[by let:=this.1;omega,by let:=this.2;show(y:bz)≠(x:bz);omega]
 | turn x i j =>let#[c,g,rfl]:=D6.mp f;let:=h.2.2.2 c g;exact#[by let:=this.1;omega,by let:=this.2.1;show(c.1:bz)≠(x:bz);omega]| swap x y=>replace f:=D8.mp f;subst f;let:=h.2;exact#[by let:=this.1;omega,by let:=this.2;show(y:bz)≠(x:bz);omega]| go x n k=>cases f
 | aL x n k=>cases f
def x69{r:k'}(h:r.ok sz):∀k∈kh r,k<32:=by
 intro k hk;cases r with
 | turn x i g =>
  rcases D9.mp hk with rfl|hk
  .have:=h.2.1;omega
  .let#[c,f,rfl]:=D6.mp hk;let:=(h.2.2.2 c f).2.2;omega
 | add x o=>cases hk
 | take x o=>cases hk
 | swap x y=>cases hk
 | go x n k=>cases hk
 | aL x n k=>cases hk
def x68{r:k'}(h:r.ok sz):∀k∈hV r,k<4294967296:=by
 intro k f;cases r with
 | add x o =>
  cases o with
  | num n=>replace f:=D8.mp f;subst f;exact h.2.2| box y=>cases f
 | take x o =>
  cases o with
  | num n=>replace f:=D8.mp f;subst f;exact h.2.2| box y=>cases f
 | turn x i g=>cases f
 | swap x y=>cases f
 | go x n k=>replace f:=D8.mp f;subst f;exact h.2.2| aL x n k=>replace f:=D8.mp f;subst f;exact h.2.2
def w78(r:k'):(∃w x o,(r=.add x o\/r=.take x o)/\r.d=.tup [.str w,.int (x:bz),o.d]/\(decide (w=("add" :gq))||decide (w=("take" :gq)))=dS)\/(∃x i cs,r=.turn x i cs)\/(∃x y,r=.swap x y) \/ ∃w x n k,(r=.go x n k\/r=.aL x n k)/\r.d=.tup [.str w,.int (x:bz),.int n,.int (k:bz)]/\(decide (w=("add" :gq))||decide (w=("take" :gq)))=eH/\(w=("turn" :gq))=b8/\(w=("swap" :gq))=b8/\(decide (w=("go" :gq))||decide (w=("come" :gq)))=dS:=by
 cases r with
 | add x o=>exact .inl #[_,x,o,.inl rfl,rfl,∅]| take x o=>exact .inl #[_,x,o,.inr rfl,rfl,∅]| turn x i cs=>exact .inr (.inl #[x,i,cs,rfl])| swap x y=>exact .inr (.inr (.inl #[x,y,rfl]))| go x n k=>exact .inr (.inr (.inr #[_,x,n,k,.inl rfl,rfl,∅,c_ ∅,c_ ∅,∅]))| aL x n k=>exact .inr (.inr (.inr #[_,x,n,k,.inr rfl,rfl,∅,c_ ∅,c_ ∅,∅]))
def xe9(r:k'):(∃x i cs,r=.turn x i cs)\/∃w rest,r.d=.tup (.str w::rest)/\(w=("turn" :gq))=b8/\kh r=[]:=by
 cases r with
 | turn x i cs=>exact .inl #[x,i,cs,rfl]| add x o=>exact .inr #[_,_,rfl,c_ ∅,rfl]| take x o=>exact .inr #[_,_,rfl,c_ ∅,rfl]| swap x y=>exact .inr #[_,_,rfl,c_ ∅,rfl]| go x n k=>exact .inr #[_,_,rfl,c_ ∅,rfl]| aL x n k=>exact .inr #[_,_,rfl,c_ ∅,rfl]
def vo4{G:Gp}{xs ys:bf D}{r:k'}{Q:cg->ck}(h1:D.tup xs=r.d)(j:D.tup ys=r.d)(h:Q dS): ∃n i g b,n<=40/\snap G n (.tup xs)=du i/\snap G n (.tup ys)=du g/\fQ n i g=du b/\Q b:=by
 let#[s,f]:=v36 (G:=G) (n:=0) r;rw[h1,j];exact#[3,s,s,dS,∅,f,f,Hj 3 f,h]
end Rw
namespace Law
open PySem L2 L3 Rw
def dZ(fw:cg)(rs:bf k')(bs:bf bz)(s:br):cg:=if fw=dS then bD rs bs s else fi rs bs s
def dG(fw:cg)(rs:bf k')(bs:bf bz)(s:br):br×bf bz:=if fw=dS then cf rs bs s else eN rs bs s
def EY(f:Pairs rs)(c:kQ sz rs bs s)(g:dZ fw rs bs s=dS): kQ sz rs (dG fw rs bs s).2 (dG fw rs bs s).1/\dZ (!fw) rs (dG fw rs bs s).2 (dG fw rs bs s).1=dS/\dG (!fw) rs (dG fw rs bs s).2 (dG fw rs bs s).1=(s,bs):=by
 cases fw with
 | true=>exact xo5 f c g| false=>exact xo6 f c g
def om(m:br):k'->k'
 | .add x o=>.take x o| .take x o=>.add x o| .go x n k=>.aL x n (m-1-k)| .aL x n k=>.go x n (m-1-k)| r=>r
def j3(rs:bf k'):bf k':=(rs.t (om rs.l)).ff
def AO:(j3 rs).l=rs.l:=by unfold j3;rw[T6,B0]
def Qm(h:rs[j]?=du r):(j3 rs)[rs.l-1-j]?=du (om rs.l r):=by let f:=oh h;unfold j3;rw[sg (by rw[B0];exact C6 (vb _ _) (Nat.sub_lt (Nat.zero_lt_of_lt f) Nat.one_pos)),B0,show rs.l-1-(rs.l-1-j)=j from Tn (TH f),F5,h];rfl
def w17(h:(j3 rs)[j]?=du r):∃f,rs[rs.l-1-j]?=du f/\r=om rs.l f:=by let g:=oh h;rw[AO] at g;let k:=B6 (l:=rs) (i:=rs.l-1-j) ();apply#[_,k,?_];let q:=Qm k;rw[show rs.l-1-(rs.l-1-j)=j from Tn (TH g),h] at q;exact E8 q
def Pairs.lt{rs:bf k'}(f:Pairs rs){j:br}{r:k'}(h:rs[j]?=du r):∀x n k,(r=.go x n k\/r=.aL x n k)->k<rs.l:=by
 intro x n k g;rcases g with rfl|rfl
 .exact oh (f.go _ _ _ _ h)
 .exact oh (f.co _ _ _ _ h)
def wa9{r:k'}(h:r.ok sz):(om m r).ok sz:=by cases r <;> exact h
def w16(h:∀r∈rs,r.ok sz):∀r∈j3 rs,r.ok sz:=by intro r f;unfold j3 at f;let#[g,i,rfl]:=D6.mp (s_.mp f);exact wa9 (h g i)
def uu0(l:Pairs rs):Pairs (j3 rs):=by
 apply#[λj x n k e=>?_,λj x n k e=>?_]
 .have h:=oh e;rw[AO] at h;let#[g,i,f]:=w17 e;cases g with
  | aL m o p =>cases f;let q:=l.co _ _ _ _ i;let:=Qm q;rw[this];show du (k'.aL x n (rs.l-1-(rs.l-1-j)))=_;rw[show rs.l-1-(rs.l-1-j)=j from Tn (TH (by first|assumption|omega))]
  | add _ _=>cases f
  | take _ _=>cases f
  | turn _ _ _=>cases f
  | swap _ _=>cases f
  | go _ _ _=>cases f
 .have h:=oh e;rw[AO] at h;let#[g,i,f]:=w17 e;cases g with
  | go m o p =>cases f;let q:=l.go _ _ _ _ i;let:=Qm q;rw[this];show du (k'.go x n (rs.l-1-(rs.l-1-j)))=_;rw[show rs.l-1-(rs.l-1-j)=j from Tn (TH (by first|assumption|omega))]
  | add _ _=>cases f
  | take _ _=>cases f
  | turn _ _ _=>cases f
  | swap _ _=>cases f
  | aL _ _ _=>cases f
def YD(m:Pairs rs)(q:s<=rs.l):bD (j3 rs) bs (rs.l-s)=fi rs bs s/\(fi rs bs s=dS->cf (j3 rs) bs (rs.l-s)=(rs.l-(eN rs bs s).1,(eN rs bs s).2)):=by
 cases s with
 | zero =>apply#[?_,λh=>by cases h];show bD (j3 rs) bs (rs.l-0)=eH;rw[EN,<- AO (rs:=rs)];exact Ek
 | succ t =>
  let g:=B6 (show t<rs.l by omega);let j:=Qm g;rw[show rs.l-1-t=rs.l-(t+1) by omega] at j;let p:=m.lt g;let f:rs.l-(t+1)+1=rs.l-t:=()
  unfold bD fi cf eN;rw[cp (),L0,g,j];cases l:rs[t] with
  | add x o =>
   apply#[rfl,λ_=>?_];show(rs.l-(t+1)+1,bs.I x ((gt bs x-1*val bs o)%4294967296))=(rs.l-t,bs.I x ((gt bs x+-1*val bs o)%4294967296))
   rw[f,show gt bs x-1*val bs o=gt bs x+-1*val bs o by omega]
  | take x o =>
   apply#[rfl,λ_=>?_];show(rs.l-(t+1)+1,bs.I x ((gt bs x+1*val bs o)%4294967296))=(rs.l-t,bs.I x ((gt bs x - -1*val bs o)%4294967296))
   rw[f,show gt bs x - -1*val bs o=gt bs x+1*val bs o by omega]
  | turn x i r=>exact#[rfl,λ_=>by rw[<- f];rfl]| swap x y=>exact#[rfl,λ_=>by rw[<- f];rfl]| go x n k =>
   apply#[rfl,λ_=>?_];show(rs.l-(t+1)+1,bs)=(rs.l-t,bs)
   rw[f]
  | aL x n k =>
   let u:=p x n k (.inr l);apply#[rfl,λ_=>?_];show(if gt bs x=n then(rs.l-1-k+1,bs) else(rs.l-(t+1)+1,bs))=(rs.l-(if gt bs x=n then(k,bs) else(t,bs)).1,(if gt bs x=n then(k,bs) else(t,bs)).2)
   by_cases h:gt bs x=n
   .rw[cu h,cu h,show rs.l-1-k+1=rs.l-k by omega]
   .rw[cp h,cp h,f]
end Law
namespace L2
open PySem PySem.Spec PyProof.Rows
section
variable{X:Cx}
def vp2(E:X.calm=dS):bK X (.builtin "max") (λxs H Q=>∃(p:fy) (ns:bf bz),xs=[.ref p]/\fb X.K H p (ns.t V.int)/\0<ns.l/\∀M:bz,M∈ns->(∀a∈ns,a<=M)->Q (.int M) H):=by
 intro kI s L H xs N Q I r h;let#[p,ns,rfl,A,J,q]:=h;let#[u,rfl,n]:=vals1 r;cases n;let#[its,o,x,R]:=I.list A;let hi:x_ its ns:=intsAre_of o;let#[f,i]:=hi.allInts.items;let m:s.o.IsList p (zH f):=i▸x.Y;let g:ns=f.L.t (·.1):=by rw[<- xG,<- i];exact(show numsOf its.e.L=ns from hi.numsOf).M
 let hsz:0<f.v:=by let l:=J;rw[g,B0,L4] at l;exact l
 apply max_intList (I.ok.hd E) m hsz λv U O y B=>?_;let#[t,rfl]:=intItems_at y;let#[S,G]:=argBest_gt (numAt f) (f.v-1);apply#[.int _,H,I.kept B,#[_,rfl],q _ ?_ λa k=>?_]
 .rw[g,Sv];exact getD_mem (by rw[B0,L4];omega)
 .rw[g] at k;let#[j,C,rfl]:=mem_getD k;rw[B0,L4] at C;rw[<- Sv];exact G j ()
def vp0(E:X.calm=dS):bK X (.builtin "min") (λxs H Q=>∃(p:fy) (ns:bf bz),xs=[.ref p]/\fb X.K H p (ns.t V.int)/\0<ns.l/\∀M:bz,M∈ns->(∀a∈ns,M<=a)->Q (.int M) H):=by
 intro kI s L H xs N Q I r h;let#[p,ns,rfl,A,J,q]:=h;let#[u,rfl,n]:=vals1 r;cases n;let#[its,o,x,R]:=I.list A;let hi:x_ its ns:=intsAre_of o;let#[f,i]:=hi.allInts.items;let m:s.o.IsList p (zH f):=i▸x.Y;let g:ns=f.L.t (·.1):=by rw[<- xG,<- i];exact(show numsOf its.e.L=ns from hi.numsOf).M
 let hsz:0<f.v:=by let l:=J;rw[g,B0,L4] at l;exact l
 apply min_intList (I.ok.hd E) m hsz λv U O y B=>?_;let#[t,rfl]:=intItems_at y;let#[S,G]:=argBest_lt (numAt f) (f.v-1);apply#[.int _,H,I.kept B,#[_,rfl],q _ ?_ λa k=>?_]
 .rw[g,Sv];exact getD_mem (by rw[B0,L4];omega)
 .rw[g] at k;let#[j,C,rfl]:=mem_getD k;rw[B0,L4] at C;rw[<- Sv];exact G j ()
end
end L2
namespace L3
open PySem PySem.Spec PyProof.Rows L2
section
variable{X:Cx}
def GZ:C3:=λg G q=>match g with
 | [.ref a]=>(match bt (G a) with|some xs=>(match AI xs with|some f=>0<f.l/\∀M:bz,M∈f->(∀z∈f,z<=M)->q (.int M) G|none=>b8)|none=>b8)
 | _=>b8
def WL:C3:=λg G q=>match g with
 | [.ref a]=>(match bt (G a) with|some xs=>(match AI xs with|some f=>0<f.l/\∀M:bz,M∈f->(∀z∈f,M<=z)->q (.int M) G|none=>b8)|none=>b8)
 | _=>b8
def w05(j:X.calm=dS:=by rfl):Call3 X (.builtin "max") GZ:=nR (vp2 j) λxs H Q ⟨n,G,q,r,c,t,f⟩=>by
 unfold GZ at t;split at t
 .let#[v,rfl,h]:=r.one;cases h.ao;split at t
  .rename_i n e;let#[p,g,i]:=ft c e;split at t
   .rename_i o m;let:=Ra m i;subst this;exact#[_,o,rfl,g,t.1,λM l k=>f _ _ _ _ af.c8 c (Le.j H) (t.2 M l k)]
   .exact t.n
  .exact t.n
 .exact t.n
def ww2(j:X.calm=dS:=by rfl):Call3 X (.builtin "min") WL:=nR (vp0 j) λxs H Q ⟨n,G,q,r,c,t,f⟩=>by
 unfold WL at t;split at t
 .let#[v,rfl,h]:=r.one;cases h.ao;split at t
  .rename_i n e;let#[p,g,i]:=ft c e;split at t
   .rename_i o m;let:=Ra m i;subst this;exact#[_,o,rfl,g,t.1,λM l k=>f _ _ _ _ af.c8 c (Le.j H) (t.2 M l k)]
   .exact t.n
  .exact t.n
 .exact t.n
theorem FC:∀ks:bf bz,AI (ks.t D.int)=du ks
 | []=>rfl| k::ks=>by show(AI (ks.t D.int)).t (k::·)=_;rw[FC ks];rfl
end
end L3
namespace Law
open PySem L2 L3 Rw
def mv(a:br):k'->k'
 | .go x n k=>.go x n (k+a)| .aL x n k=>.aL x n (k+a)| r=>r
def dJ(acc rs:bf k'):bf k':=acc++rs.t (mv acc.l)
def jT:bf k'->bf (bf k')->bf k'
 | acc,[]=>acc| acc,f::r=>jT (dJ acc f) r
structure cE where
 sz:br
 ra:fy
 rs:bf k'
def cE.d(c:cE):D:=.tup [.int (c.sz:bz),.ref c.ra]
def ni(cs:bf cE):br:=cs.foldr (λc n=>max c.sz n) 0
def Qh(h:c∈cs):c.sz<=ni cs:=by
 induction cs with
 | nil=>cases h
 | cons d cs f =>
  show c.sz<=max d.sz (ni cs);rcases D9.mp h with rfl|h
  .omega
  .have:=f h;omega
def wo8{cs:bf cE}(h:0<cs.l):∃c∈cs,c.sz=ni cs:=by
 induction cs with
 | nil=>cases h
 | cons d cs f =>
  by_cases i:0<cs.l
  .let#[c,g,e]:=f i;by_cases j:d.sz<=ni cs
   .exact#[c,C2 _ g,by show c.sz=max d.sz (ni cs);omega]
   .exact#[d,D0,by show d.sz=max d.sz (ni cs);omega]
  .have:cs=[]:=E6 ();subst this;exact#[d,D0,by show d.sz=max d.sz 0;omega]
def xe0{cs:bf cE}(h:0<cs.l)(h1:M∈cs.t λc=>(c.sz:bz))(i:∀z∈cs.t (λc=>(c.sz:bz)),z<=M):M=(ni cs:bz):=by let#[c,g,e]:=D6.mp h1;let#[d,f,j]:=wo8 h;let a:=Qh g;let b:=i (d.sz:bz) (D6.mpr #[d,f,rfl]);omega
def x78{sz g:br}{r:k'}(h:sz<=g)(f:r.ok sz):r.ok g:=by
 let op:∀{x:br} {o:kZ},o.ok sz x->o.ok g x:=λ{x o} j=>by
  cases o with
  | num n=>exact j| box y=>exact#[C9 j.1 h,j.2]
 cases r with
 | add x o=>exact#[C9 f.1 h,op f.2]| take x o=>exact#[C9 f.1 h,op f.2]| turn x i m=>exact#[C9 f.1 h,f.2.1,f.2.2.1,λc l=>#[C9 (f.2.2.2 c l).1 h,(f.2.2.2 c l).2]]| swap x y=>exact#[C9 f.1 h,C9 f.2.1 h,f.2.2]| go x n k=>exact#[C9 f.1 h,f.2]| aL x n k=>exact#[C9 f.1 h,f.2]
def xq8{r:k'}(h:r.ok sz):(mv a r).ok sz:=by cases r <;> exact h
def QK:(dJ acc rs).l=acc.l+rs.l:=by unfold dJ;rw[B4,B0]
def Xs{acc rs:bf k'}{j:br}{r:k'}(h:acc[j]?=du r):(dJ acc rs)[j]?=du r:=by unfold dJ;rw[J4 (oh h)];exact h
def BW(h:rs[j]?=du r):(dJ acc rs)[acc.l+j]?=du (mv acc.l r):=by unfold dJ;rw[F9 (),show acc.l+j-acc.l=j by omega,F5,h];rfl
def vq2(h:(dJ acc rs)[j]?=du r):acc[j]?=du r\/∃i f,j=acc.l+i/\rs[i]?=du f/\r=mv acc.l f:=by
 by_cases g:j<acc.l
 .left;unfold dJ at h;rw[J4 g] at h;exact h
 .right;unfold dJ at h;rw[F9 (),F5] at h;cases e:rs[j-acc.l]? with
  | none=>rw[e] at h;cases h
  | some f=>rw[e] at h;cases h;exact#[j-acc.l,f,(),e,rfl]
def va9(h1:Pairs acc)(l:Pairs rs):Pairs (dJ acc rs):=by
 apply#[λj x n k e=>?_,λj x n k e=>?_]
 .rcases vq2 e with q|⟨i,g,rfl,q,f⟩
  .exact Xs (h1.go _ _ _ _ q)
  .cases g with
   | go m o h =>cases f;let:=BW (acc:=acc) (l.go _ _ _ _ q);rw[Q0 h acc.l,this,Q0 acc.l i];rfl
   | add _ _=>cases f
   | take _ _=>cases f
   | turn _ _ _=>cases f
   | swap _ _=>cases f
   | aL _ _ _=>cases f
 .rcases vq2 e with q|⟨i,g,rfl,q,f⟩
  .exact Xs (h1.co _ _ _ _ q)
  .cases g with
   | aL m o h =>cases f;let:=BW (acc:=acc) (l.co _ _ _ _ q);rw[Q0 h acc.l,this,Q0 acc.l i];rfl
   | add _ _=>cases f
   | take _ _=>cases f
   | turn _ _ _=>cases f
   | swap _ _=>cases f
   | go _ _ _=>cases f
theorem Yu:∀{L:bf (bf k')} {acc:bf k'},Pairs acc->(∀rs∈L,Pairs rs)->Pairs (jT acc L)
 | [],_,h,_=>h| rs::L,acc,h,f=>Yu (L:=L) (va9 h (f rs D0)) λr g=>f r (C2 _ g)
theorem WX:∀{L:bf (bf k')} {acc:bf k'},(∀r∈acc,r.ok sz)->(∀rs∈L,∀r∈rs,r.ok sz)->∀r∈jT acc L,r.ok sz
 | [],_,h,_=>h| rs::L,acc,h,g=>WX (L:=L) (λr f=>by
   unfold dJ at f;rcases F7.mp f with q|q
   .exact h r q
   .let#[i,j,rfl]:=D6.mp q;exact xq8 (g rs D0 i j)) λr f=>g r (C2 _ f)
theorem vk4:∀{L:bf (bf k')} {acc:bf k'},∃t,jT acc L=acc++t
 | [],acc=>#[[],by rw[D7];rfl]| rs::L,acc=>by let#[t,e]:=vk4 (L:=L) (acc:=dJ acc rs);exact#[rs.t (mv acc.l)++t,by show jT (dJ acc rs) L=_;rw[e,dJ,D5]]
def xf7(h:rs[j]?=du r):(jT acc (rs::L))[acc.l+j]?=du (mv acc.l r):=by let#[t,e]:=vk4 (L:=L) (acc:=dJ acc rs);show(jT (dJ acc rs) L)[acc.l+j]?=_;let:=BW (acc:=acc) h;rw[e,J4 (oh this)];exact this
def Pairs.nil:Pairs []:=#[λj x n k e=>by simp at e,λj x n k e=>by simp at e]
def y_{b r:bf bz}(h:x<b.l):gt (b++r) x=gt b x:=by unfold gt;rw[F4,F4,J4 h]
def vc4{b r:bf bz}{o:kZ}(h:o.ok b.l x):val (b++r) o=val b o:=by
 cases o with
 | num n=>rfl| box y=>exact y_ h.1
theorem vo1{b r:bf bz}:∀{cs:bf (br×br)},(∀c∈cs,c.1<b.l)->mH (b++r) cs=mH b cs
 | [],_=>rfl| c::cs,h=>by unfold mH;rw[V7,V7,y_ (h c D0)];congr 1;exact vo1 λd f=>h d (C2 _ f)
def QG{b r:bf bz}{row:k'}(h:row.ok b.l):da s (b++r) row=da s b row++r:=by
 cases row with
 | add x o=>show(b++r).I x _=b.I x _++r;rw[X8 _ _ h.1,y_ h.1,vc4 h.2]| take x o=>show(b++r).I x _=b.I x _++r;rw[X8 _ _ h.1,y_ h.1,vc4 h.2]| turn x i f =>show(if mH (b++r) f=dS then(b++r).I x _ else b++r)=(if mH b f=dS then b.I x _ else b)++r;rw[vo1 λc g=>(h.2.2.2 c g).1,y_ h.1,X8 _ _ h.1];split <;> rfl| swap x y =>show((b++r).I x _).I y _=(b.I x _).I y _++r;rw[X8 _ _ h.1,X8 _ _ (by rw[K2];exact h.2.1),y_ h.1,y_ h.2.1]| go x n k=>rfl| aL x n k=>rfl
def xq3(hw:∀(j:br) (row:k'),rs[j]?=du row->W[a+j]?=du (mv a row))(c:kQ sz rs b s)(l:s<rs.l): bD W (b++r) (a+s)=bD rs b s/\(bD rs b s=dS->cf W (b++r) (a+s)=(a+(cf rs b s).1,(cf rs b s).2++r)):=by
 let m:=B6 l;let p:=hw s _ m;let f:=c.ro _ (M4 l);rw[<- c.bo.len] at f;unfold bD cf;rw[m,p];cases g:rs[s] with
 | add x o=>rw[g] at f;exact#[rfl,λ_=>by show(a+s+1,da 1 (b++r) (.add x o))=_;rw[QG f];rfl]| take x o=>rw[g] at f;exact#[rfl,λ_=>by show(a+s+1,da 1 (b++r) (.take x o))=_;rw[QG f];rfl]| turn x i q=>rw[g] at f;exact#[rfl,λ_=>by show(a+s+1,da 1 (b++r) (.turn x i q))=_;rw[QG f];rfl]| swap x y=>rw[g] at f;exact#[rfl,λ_=>by show(a+s+1,da 1 (b++r) (.swap x y))=_;rw[QG f];rfl]| go x n k =>
  rw[g] at f;apply#[rfl,λ_=>?_];show(if gt (b++r) x=n then(k+a+1,b++r) else(a+s+1,b++r))=(a+(if gt b x=n then(k+1,b) else(s+1,b)).1,(if gt b x=n then(k+1,b) else(s+1,b)).2++r)
  rw[y_ f.1];by_cases h:gt b x=n
  .rw[cu h,cu h,show k+a+1=a+(k+1) by omega]
  .rw[cp h,cp h];rfl
 | aL x n k =>rw[g] at f;apply#[?_,λ_=>rfl];show(!decide (gt (b++r) x=n))=!decide (gt b x=n);rw[y_ f.1]
def hJ{n len d:br}(h:n<=len):HT.cD len d (du (n:bz))=n:=by
 unfold HT.cD;simp only[];split
 .omega
 .rw[O6];omega
def rn(fw:cg)(rs:bf k'):br->br->bf bz->br×br×bf bz
 | 0,s,f=>(0,s,f)| n+1,s,f=>if dZ fw rs f s=dS then((rn fw rs n (dG fw rs f s).1 (dG fw rs f s).2).1+1,(rn fw rs n (dG fw rs f s).1 (dG fw rs f s).2).2) else(0,s,f)
def GU(fw:cg)(rs:bf k')(bs:bf bz)(s:br):gq:=if s=(if fw=dS then rs.l else 0) then(if fw=dS then "end" else "begin") else if dZ fw rs bs s=dS then "tired" else "torn"
def outD(fw:cg)(rs:bf k')(r:br×br×bf bz)(q:fy):D:=.tup [.str (GU fw rs r.2.2 r.2.1),.int (r.2.1:bz),.ref q,.int (r.1:bz)]
def ua(h:dZ fw rs bs s=dS):rn fw rs (n+1) s bs=((rn fw rs n (dG fw rs bs s).1 (dG fw rs bs s).2).1+1,(rn fw rs n (dG fw rs bs s).1 (dG fw rs bs s).2).2):=by show(if dZ fw rs bs s=dS then _ else _)=_;rw[cu h]
def yi(h:dZ fw rs bs s=eH):rn fw rs n s bs=(0,s,bs):=by
 cases n with
 | zero=>rfl| succ n=>show(if dZ fw rs bs s=dS then _ else _)=_;rw[cp (by rw[h];exact D1)]
theorem Xi(f:Pairs rs):∀{n s:br} {bs:bf bz},kQ sz rs bs s->kQ sz rs (rn fw rs n s bs).2.2 (rn fw rs n s bs).2.1
 | 0,_,_,c=>c| n+1,s,bs,c=>by
  cases h:dZ fw rs bs s with
  | false=>rw[yi h];exact c| true=>rw[ua h];exact Xi f (EY f c h).1
structure Aj(fw:cg)(rs:bf k')(most s0:br)(Eu:bf bz)(k s:br)(bs:bf bz):Prop where
 le:k<=most
 eq:rn fw rs most s0 Eu=(k+(rn fw rs (most-k) s bs).1,(rn fw rs (most-k) s bs).2)
def Aj.init:Aj fw rs most f g 0 f g:=#[J8 _,by rw[EN,L6]]
def Aj.step(h:Aj fw rs most f j k s bs)(i:k<most)(g:dZ fw rs bs s=dS):Aj fw rs most f j (k+1) (dG fw rs bs s).1 (dG fw rs bs s).2:=by apply#[i,?_];rw[h.eq,show most-k=(most-(k+1))+1 by omega,ua g];show(k+((rn fw rs (most-(k+1)) _ _).1+1),_)=_;rw[show∀a:br,k+(a+1)=k+1+a from λa=>()]
def Aj.stop(h:Aj fw rs most f g k s bs)(hk:¬ k<most\/dZ fw rs bs s=eH):rn fw rs most f g=(k,s,bs):=by
 let e:rn fw rs (most-k) s bs=(0,s,bs):=by
  rcases hk with hk|hk
  .have:=h.le;rw[show most-k=0 by omega];rfl
  .exact yi hk
 rw[h.eq,e];rfl
theorem vf1(i:Pairs rs):∀{n s:br} {bs:bf bz} (m:br),kQ sz rs bs s->(rn dS rs n s bs).1<=m -> rn eH rs m (rn dS rs n s bs).2.1 (rn dS rs n s bs).2.2=((rn dS rs n s bs).1+(rn eH rs (m-(rn dS rs n s bs).1) s bs).1,(rn eH rs (m-(rn dS rs n s bs).1) s bs).2)
 | 0,s,bs,m,_,_=>by show rn eH rs m s bs=(0+(rn eH rs (m-0) s bs).1,(rn eH rs (m-0) s bs).2);rw[L6,EN]| n+1,s,bs,m,c,j=>by
  cases h:dZ dS rs bs s with
  | false =>
   rw[yi h];show rn eH rs m s bs=(0+(rn eH rs (m-0) s bs).1,(rn eH rs (m-0) s bs).2)
   rw[L6,EN]
  | true =>
   let f:=EY i c h;rw[ua h] at j⊢;let g:(rn dS rs n (dG dS rs bs s).1 (dG dS rs bs s).2).1+1<=m:=j;let k:=vf1 i (n:=n) m f.1 ();show rn eH rs m (rn dS rs n (dG dS rs bs s).1 (dG dS rs bs s).2).2.1 (rn dS rs n (dG dS rs bs s).1 (dG dS rs bs s).2).2.2=((rn dS rs n (dG dS rs bs s).1 (dG dS rs bs s).2).1+1+_,_)
   rw[k];generalize (rn dS rs n (dG dS rs bs s).1 (dG dS rs bs s).2).1=a at g⊢;let o:dZ eH rs (dG dS rs bs s).2 (dG dS rs bs s).1=dS:=f.2.1;let l:dG eH rs (dG dS rs bs s).2 (dG dS rs bs s).1=(s,bs):=f.2.2;rw[show m-a=(m-(a+1))+1 by omega,ua o,l];show(a+((rn eH rs (m-(a+1)) s bs).1+1),_)=(a+1+(rn eH rs (m-(a+1)) s bs).1,_)
   rw[show∀b:br,a+(b+1)=a+1+b from λb=>()]
end Law
namespace L3
open PySem PySem.Spec PyProof.Rows L2 Rw
def vF(k m:br):cg:=k==0||m.p (k-1)
def pc(b m:br):br:=(D3 b).countP λi=>m.p i
def wo2(b m:br):pc (b+1) m=m%2+pc b (m / 2):=by
 unfold pc;rw[Kj,List.countP_cons,List.countP_map];let e:((λi=>m.p i)∘Nat.succ)=λi=>(m / 2).p i:=by funext i;show m.p (i+1)=_;rw[NB]
 rw[e,Pn];rcases t9 m with h|h <;> simp[h] <;> omega
def wo1(b:br):pc b 0=0:=by simp[pc]
def Xu(a b:br):Q6 (a:bz) (b:bz)=((a &&& b:br):bz):=by unfold Q6;simp
def w69(a b:br):Pc (a:bz) (b:bz)=((a ||| b:br):bz):=by
 let g:∀x:br,¬ (0<=O9 (x:bz)):=λx=>by unfold O9;omega
 let f:∀x:bz,O9 (O9 x)=x:=λx=>by unfold O9;omega
 unfold Pc Q6;simp only[g,decide_false,f,O6]
def wv5(m i:br):(Q6 (m:bz) (1*2^i)=0)↔m.p i=eH:=by
 let e:(1*2^i:bz)=((2^i:br):bz):=by simp
 rw[e,Xu];let q:(m &&& 2^i=0)↔m.p i=eH:=by
  constructor
  .intro h;let:=cv (λx=>Nat.testBit x i) h;simpa[Tf,Nr] using this
  .intro h;apply P6 λj=>?_;rw[Tf,Pl,T7];by_cases f:i=j
   .subst f;rw[h];rfl
   .simp[f]
 rw[<- q];omega
def pD(p:gq×bz):D:=.tup [.str p.1,.int p.2]
end L3
namespace L2
open PySem PySem.Spec PyProof.Rows
abbrev yh(h:hR)(z TI TO T:fy)(f:cg):ck:=h.r z=du { cls:=.type "zip",data:=.fields [rawInt (T:bz),.bool f,.bool eH,.ref TI,.ref TO].e}
end L2
namespace L3
open PySem PySem.Spec PyProof.Rows L2
section
variable{X:Cx}{o:gI}{to:bI}{apos aS:jU}
def Cp:U3:=λx G q=>match x with|.int i=>q (.int (O9 i)) G|_=>b8
def xo3:Ag X (Gr .Invert) (vQ X.K Cp):=w07 wx4 <| by
 intro x H Q #[d,G,q,g,c,t,f];unfold Cp at t;split at t
 .exact#[_,g.O,f _ _ _ _ af.c8 c (Le.j H) t]
 .exact t.n
end
end L3
namespace L3
open PySem PySem.Spec PyProof.Rows L2 Rw
abbrev Mv:=cg×br
def mP(p:Mv):gq×bz:=(if p.1 then "lay" else "clear",(p.2:bz))
def mD(p:Mv):D:=pD (mP p)
def nD(x:br):D:=.int (x:bz)
def d_(k m:br):cg:=m.p (k-1)
def xr(m k:br):br:=m ^^^ 2^(k-1)
def hi(m:br):br:=if m=0 then 0 else m.log2+1
def x29{m i:br}(h:m.p i=eH):m ||| 2^i=m ^^^ 2^i:=P6 λj=>by
 rw[NO,Te,T7];by_cases e:i=j
 .subst e;rw[h];simp
 .simp[e]
def x30{m i:br}(h:m.p i=dS):m ||| 2^i=m:=P6 λj=>by
 rw[NO,T7];by_cases e:i=j
 .subst e;rw[h];rfl
 .simp[e]
def vp9{m i:br}(h:m.p i=dS):m &&& 2^i=2^i:=P6 λj=>by
 rw[Tf,T7];by_cases e:i=j
 .subst e;rw[h];rfl
 .simp[e]
def xj4{m i:br}(h:m.p i=eH):m &&& 2^i=0:=P6 λj=>by
 rw[Tf,T7,Pl];by_cases e:i=j
 .subst e;rw[h];rfl
 .simp[e]
theorem Xr:∀{i m:br},m.p i=dS->(m ^^^ 2^i)+2^i=m
 | 0,m,h=>by
  let n:m%2=1:=by rw[Pn] at h;simpa using h
  let f:(m ^^^ 1) / 2=m / 2:=by rw[NH];simp
  let g:(m ^^^ 1)%2=0:=by
   let:(m ^^^ 1).p 0=eH:=by rw[Te,h];rfl
   rw[Pn] at this;let:=of_decide_eq_false this;omega
  show(m ^^^ 1)+1=m;omega
 | i+1,m,h=>by
  let k:(m / 2).p i=dS:=by rw[<- NB];exact h
  let j:=Xr k;let l:2^(i+1) / 2=2^i:=by rw[EM];omega
  let f:(m ^^^ 2^(i+1)) / 2=m / 2 ^^^ 2^i:=by rw[NH,l]
  let g:(m ^^^ 2^(i+1))%2=m%2:=by
   let a:(m ^^^ 2^(i+1)).p 0=m.p 0:=by rw[Te,T7];simp
   rw[Pn,Pn] at a;let b:=decide_eq_decide.mp a;rcases t9 (m ^^^ 2^(i+1)) with p|p <;> rcases t9 m with q|q <;> rw[p,q] at b⊢ <;> simp at b
  rw[EM] at f g⊢;generalize m ^^^ 2^i*2=x at f g⊢;generalize m / 2 ^^^ 2^i=y at f j;generalize 2^i=p at j⊢;omega
def xor_int(m i:br):Pe (m:bz) (1*2^i)=((m ^^^ 2^i:br):bz):=by
 let e:(1*2^i:bz)=((2^i:br):bz):=by simp
 unfold Pe;rw[e,w69,Xu];cases h:m.p i with
 | true =>rw[x30 h,vp9 h];let:=Xr h;omega| false =>rw[x29 h,xj4 h];simp
def wu4{m i:br}(h:m.p i=dS):Q6 (m:bz) (O9 (1*2^i))=((m ^^^ 2^i:br):bz):=by
 let e:(1*2^i:bz)=((2^i:br):bz):=by simp
 let j:(0:bz)<=((2^i:br):bz):=P5 _;let f:¬ (0<=O9 ((2^i:br):bz)):=by unfold O9;omega
 let g:O9 (O9 ((2^i:br):bz))=((2^i:br):bz):=by unfold O9;omega
 rw[e];unfold Q6;simp only[f,decide_false,g,P5,decide_true,O6];rw[vp9 h];let:=Xr h
 (omega)
def wr0{m i:br}(h:m.p i=eH):Pc (m:bz) (1*2^i)=((m ^^^ 2^i:br):bz):=by
 let e:(1*2^i:bz)=((2^i:br):bz):=by simp
 rw[e,w69,x29 h]
def l':br->bf Mv->br
 | m,[]=>m| m,p::r=>l' (xr m p.2) r
def low:br->bf Mv->br
 | m,[]=>hi m| m,p::r=>min (low (xr m p.2) r) (hi m)
def YF:br->bf Mv->bf Mv
 | _,[]=>[]| m,p::r=>if p.2<=low (xr m p.2) r then p::YF (xr m p.2) r else YF (xr m p.2) r
def once(w:bf Mv):bf Mv:=YF 0 w
def Rl:br->bf Mv->bf br
 | _,[]=>[]| m,p::r=>xr m p.2::Rl (xr m p.2) r
theorem ud:∀{l r:bf Mv} {m:br},l' m (l++r)=l' (l' m l) r
 | [],_,_=>rfl| p::l,r,m=>by show l' (xr m p.2) (l++r)=_;rw[ud];rfl
def v74{f:Type}(ns:bf f)(c:f):cS (ns++[c]) (-1)=du c:=by
 rw[Cy];unfold jz;rw[cp ∅,cu (by simp;omega)];let e:(-1+((ns++[c]).l:bz)).i=ns.l:=by simp;omega
 rw[TB,e];simp
def at_getD{f:Type}{xs:bf f}(h:0<=v)(h1:v<(xs.l:bz)):∃x,x∈xs/\cS xs v=du x:=by
 let g:v.i<xs.l:=()
 apply#[xs[v.i],M4 _,?_];rw[Cy];unfold jz;rw[cu h,cu h1,TB,B6 g]
def hD(x:br):D:=nD (hi x)
end L3
namespace L2
open PySem PySem.Spec PyProof.Rows
section
variable{X:Cx}
def v08:bK X (.builtin "sorted") (λxs H Q=>∃(p:fy) (ns:bf bz),xs=[.ref p]/\fb X.K H p (ns.t V.int)/\ns.l<64/\∀(l:fy) (f:bf bz),H l=dv->f.Perm ns->f.Pairwise (·<=·)->Q (.ref l) (l6 H l (.lst (f.t V.int)))):=by intro kI s A H xs B Q I r h;let#[p,ns,rfl,o,E,q]:=h;let#[u,rfl,m]:=vals1 r;cases m;let#[its,i,n,j]:=I.list o;let hi:x_ its ns:=intsAre_of i;let g:=i.l;rw[B0] at g j;apply sorted_ints n.Y hi () λout f y k x=>?_;let#[c,e]:=sortedAll_at s.o its out;apply#[.ref (s.o.h.v+1),_,I.laid (t':=s.H) (λb u t=>sortedAll_old t) (U4 _) (show bC X.c X.w _ _ _ (.lst (f.t V.int)) from #[by rw[B0,k.length_eq];exact j,out.L,c,QZ y,e]),rfl,q _ _ (I.aB.y (U4 _)) k x]
end
end L2
namespace L3
open PySem PySem.Spec PyProof.Rows L2
section
variable{X:Cx}{K:eM}{H:Hp}
@[reducible] def w97:C3:=λh G q=>∃(a:fy) (f:bf bz),h=[.ref a]/\bt (G a)=du (f.t .int)/\f.l<64/\∀(p:fy) (g:bf bz),G p=dv->g.Perm f->g.Pairwise (·<=·)->q (.ref p) (aC G p (.lst (g.t .int)))
theorem Yg{H:Hp}:∀ns:bf bz,ah K H (ns.t D.int) (ns.t V.int)
 | []=>.nil| _::ns=>.cons af.c8 (Yg ns)
theorem uh2{H:Hp}:∀{ns:bf bz} {xs:bf V},ah K H (ns.t D.int) xs->xs=ns.t V.int
 | [],xs,r=>r.aX| n::ns,xs,r=>by let#[x,h,rfl,g,f]:=r.aq;rw[g.O,uh2 f];rfl
def vr0:Call3 X (.builtin "sorted") w97:=nR v08 <| by intro xs H Q #[y,G,q,r,c,t,f];let#[a,l,rfl,m,u,t]:=t;let#[v,rfl,j]:=r.one;cases j.ao;let#[x,i,k]:=ft c m;obtain rfl:=uh2 k;exact#[_,l,rfl,i,u,λp h g o n=>f _ _ _ _ af.fG (c.cY g (Yg h)) (Le.y g) (t p h (c.y g) o n)]
end
end L3
namespace L3
open PySem PySem.Spec PyProof.Rows L2 Rw
def mx:br->br->br
 | 0,_=>0| n+1,m=>mx n m+(if m.p n then 1 else 0)
theorem Ha:∀{n m:br},mx n m<=n
 | 0,_=>B9 _| n+1,m=>by let:=@Ha n m;rw[mx];split <;> omega
theorem XY:∀{n m f:br},(∀i,i<n->m.p i=f.p i)->mx n m=mx n f
 | 0,_,_,_=>rfl| n+1,m,f,h=>by rw[mx,mx,XY (n:=n) λi hi=>h i (),h n ()]
def lM:(xr m k).p j=(m.p j ^^ decide (k-1=j)):=by unfold xr;rw[Te,T7]
theorem AK:∀{n m k:br},1<=k->k<=n->d_ k m=eH->mx n (xr m k)=mx n m+1
 | 0,_,_,f,j,_=>()| n+1,m,k,f,j,h=>by
  unfold d_ at h;by_cases e:k-1=n
  .subst e;let l:mx (k-1) (xr m k)=mx (k-1) m:=XY λi hi=>by
    let:¬ (k-1=i):=()
    rw[lM];simp[this]
   rw[mx,mx,l,lM,h];simp
  .have g:=AK (n:=n) (m:=m) f () h;rw[mx,mx,g,lM];simp[e];omega
theorem Hz:∀{n m k:br},1<=k->k<=n->d_ k m=dS->mx n (xr m k)+1=mx n m
 | 0,_,_,f,g,_=>()| n+1,m,k,f,g,h=>by
  unfold d_ at h;by_cases e:k-1=n
  .subst e;let j:mx (k-1) (xr m k)=mx (k-1) m:=XY λi hi=>by
    let:¬ (k-1=i):=()
    rw[lM];simp[this]
   rw[mx,mx,j,lM,h];simp
  .have l:=Hz (n:=n) (m:=m) f () h;rw[mx,mx,lM];simp[e];omega
def nY(n s m:br)(p:Mv):ck:=(1<=p.2/\p.2<=n)/\(p.2=1\/m.p (p.2-2)=dS)/\p.1=(!d_ p.2 m)/\(p.1=dS->mx n m<s)
def gh(n s:br):br->bf Mv->ck
 | _,[]=>dm| m,p::r=>nY n s m p/\gh n s (xr m p.2) r
theorem dt:∀{l r:bf Mv} {m:br},gh n s m (l++r)↔gh n s m l/\gh n s (l' m l) r
 | [],r,m=>by show gh n s m r↔dm/\gh n s m r;simp| p::l,r,m=>by show nY n s m p/\gh n s (xr m p.2) (l++r)↔(nY n s m p/\gh n s (xr m p.2) l)/\gh n s (l' (xr m p.2) l) r;rw[dt,and_assoc]
theorem vm0:∀{w:bf Mv} {m:br},l' m w∈m::Rl m w
 | [],m=>by simp[l']| p::r,m=>C2 _ (vm0 (w:=r) (m:=xr m p.2))
theorem w59:∀{w:bf Mv} {m:br},m<2^n->(∀p∈w,1<=p.2/\p.2<=n)->∀x∈m::Rl m w,x<2^n
 | [],m,h,_,x,hx=>by
  let:x=m:=by simpa[Rl] using hx
  subst this;exact h
 | p::r,m,h,hw,x,hx=>by
  rcases D9.mp hx with e|hx
  .subst e;exact h
  .apply w59 (m:=xr m p.2) ?_ (λq f=>hw q (C2 _ f)) x hx;let:=hw p (by simp);exact Tw h (TF ∅ ())
theorem Hm:∀{w:bf Mv} {m:br},gh n s m w->∀p∈w,1<=p.2/\p.2<=n
 | [],_,_,p,hp=>by simp at hp| q::r,m,⟨g,f⟩,p,hp=>by
  rcases D9.mp hp with e|hp
  .subst e;exact g.1
  .exact Hm f p hp
def gp(w:bf Mv):bf Mv:=(w.t λp=>(!p.1,p.2)).ff
def wz1:d_ k (xr m k)=!d_ k m:=by unfold d_;rw[lM];simp
def xn9:xr (xr m k) k=m:=P6 λj=>by rw[lM,lM];cases m.p j <;> cases decide (k-1=j) <;> rfl
theorem vk1:∀{w:bf Mv} {m:br},mx n m<=s->gh n s m w->mx n (l' m w)<=s
 | [],_,h,_=>h| p::r,m,h,⟨⟨f,_,g,j⟩,i⟩=>by
  apply vk1 (m:=xr m p.2) ?_ i;cases e:d_ p.2 m with
  | true=>let:=Hz f.1 f.2 e;omega| false =>rw[e] at g;rw[AK f.1 f.2 e];exact j g
theorem Hl:∀{w:bf Mv} {m:br},mx n m<=s->gh n s m w->gh n s (l' m w) (gp w)/\l' (l' m w) (gp w)=m
 | [],_,_,_=>#[trivial,rfl]| p::r,m,h,⟨⟨f,h2,g,k⟩,y⟩=>by
  let j:mx n (xr m p.2)<=s:=by
   cases e:d_ p.2 m with
   | true=>let:=Hz f.1 f.2 e;omega| false =>rw[e] at g;rw[AK f.1 f.2 e];exact k g
  let#[o,i]:=Hl j y;let e:gp (p::r)=gp r++[(!p.1,p.2)]:=by unfold gp;rw[C1,X6]
  let l:l' m (p::r)=l' (xr m p.2) r:=rfl;rw[e,l,dt,ud,i];apply#[#[o,#[f,?_,?_,λx=>?_],trivial],xn9]
  .rcases h2 with h2|h2
   .exact .inl h2
   .by_cases u:p.2=1
    .exact .inl u
    .right;show(xr m p.2).p (p.2-2)=dS;rw[lM,h2];let:¬ (p.2-1=p.2-2):=by(omega)
     simp[this]
  .show(!p.1)=!d_ p.2 (xr m p.2);rw[wz1,g]
  .have t:p.1=eH:=by simpa using x
   rw[t] at g;let q:d_ p.2 m=dS:=by simpa using g.M
   let:=Hz f.1 f.2 q;omega
def Fl:(gp w).l=w.l:=by simp[gp]
def Rf:∀{a b:bf bz},a.Perm b->a.Pairwise (·<=·)->b.Pairwise (·<=·)->a=b:=by intro a b h g f;exact h.eq_of_pairwise (λx y _ _ g f=>Int.le_antisymm g f) g f
def Qx(h:∀p,p∈ps↔nY n s m p/\p.2<=i)(f:nY n s m (b,i+1)):∀p,p∈ps++[(b,i+1)]↔nY n s m p/\p.2<=i+1:=by
 intro p;rw[F7,h p,D8];constructor
 .rintro(⟨a,c⟩|rfl)
  .exact#[a,()]
  .exact#[f,B9 _]
 .rintro⟨a,c⟩;by_cases e:p.2<=i
  .exact .inl #[a,e]
  .right;let#[b',k]:=p;let l:k=i+1:=by let:k<=i+1:=c;let:¬ k<=i:=e;omega
   subst l;let j:b'=!d_ (i+1) m:=a.2.2.1;let g:b=!d_ (i+1) m:=f.2.2.1;rw[j,g]
def W_{n s m i:br}{ps:bf Mv}(h:∀p,p∈ps↔nY n s m p/\p.2<=i)(f:∀b,¬ nY n s m (b,i+1)):∀p,p∈ps↔nY n s m p/\p.2<=i+1:=by
 intro p;rw[h p];constructor
 .rintro⟨a,c⟩;exact#[a,()]
 .rintro⟨a,c⟩;apply#[a,?_];by_cases e:p.2<=i
  .exact e
  .let#[b',k]:=p;let g:k=i+1:=by let:k<=i+1:=c;let:¬ k<=i:=e;omega
   subst g;exact cz a (f b')
def vq9(h:G a=du (.lst xs))(g:G b=du (.lst ys))(f:xs.l+ys.l<=iZ)(k:∀p,G p=dv->q (.ref p) (aC G p (.lst (xs++ys)))):mJ (.ref a) (.ref b) G q:=by unfold mJ;simp only[h,g];exact#[f,k]
def vb4{G:Gp}{a:fy}{ns:bf bz}{q:DK}(h:bt (G a)=du (ns.t .int))(f:0<ns.l)(k:∀M:bz,M∈ns->(∀z∈ns,z<=M)->q (.int M) G):GZ [.ref a] G q:=by unfold GZ;simp only[h,FC];exact#[f,k]
def vb1{G:Gp}{a:fy}{ns:bf bz}{q:DK}(h:bt (G a)=du (ns.t .int))(k:q (.int ns.sum) G):vq [.ref a] G q:=by unfold vq;simp only[h,FC];exact k
theorem zg:∀{n:br},mx n 0=0
 | 0=>rfl| n+1=>by rw[mx,zg,Pl];rfl
def gK:br->cg->br
 | 0,_=>0| s+1,dS=>2^s| s+1,eH=>2^(s+1)-1
def qq(f l s:br)(b:cg)(w:bf Mv):ck:=∀n S m,l<=n->(f=0\/m.p (f-1)=dS)->(∀i,f<=i->i<l->m.p i=eH)->mx n m+s<=S ->
 gh n S m w/\(∀i,(i<f\/l<=i)->(l' m w).p i=m.p i)/\(l' m w).p (l-1)=dS/\(b=dS->∀i,f<=i->i+1<l->(l' m w).p i=eH)
def wa3(l:1<=s):qq f (f+1) s b [(dS,f+1)]:=by
 intro n S m k o j p;let g:=j f (B9 _) (T9 _);apply#[#[#[#[by show 1<=f+1;omega,k],?_,?_,λ_=>()],trivial],λi hi=>?_,?_,λ_ i t r=>()]
 .rcases o with h|h
  .left;show f+1=1;omega
  .by_cases q:f=0
   .left;show f+1=1;omega
   .right;show m.p (f+1-2)=dS;let:f+1-2=f-1:=by(omega)
    rw[this];exact h
 .show dS=!m.testBit f;rw[g];rfl
 .show(xr m (f+1)).p i=_;let:¬ (f+1-1=i):=()
  rw[lM,c7 this,pf]
 .show(xr m (f+1)).p (f+1-1)=dS;rw[lM];show(m.p f ^^ decide (f=f))=dS;rw[g];simp
def qq.kB(u:f<l)(h:qq f l s dS w){n S m:br}(j:l<=n)(k:f=0\/m.p (f-1)=dS)(g:∀i,f<=i->i<l->m.p i=eH)(o:mx n m+s<=S):l' m w=xr m l:=by
 let#[_,t,r,q]:=h n S m j k g o;apply P6 λi=>?_;rw[lM];by_cases e:l-1=i
 .subst e;rw[r,g _ () ()];simp
 .have:decide (l-1=i)=eH:=c7 e;rw[this,pf];by_cases p:i<f\/l<=i
  .exact t i p
  .rw[q rfl i () (),g i () ()]
def w94:xr (xr m k) l=xr (xr m l) k:=P6 λj=>by rw[lM,lM,lM,lM];cases m.p j <;> cases decide (k-1=j) <;> cases decide (l-1=j) <;> rfl
def vA(h:¬ k-1=i):(xr m k).p i=m.p i:=by rw[lM,c7 h,pf]
def Hy{m k:br}(h:m.p (k-1)=eH):(xr m k).p (k-1)=dS:=by rw[lM,h];simp
def vc2(h1:f<c)(B:c<l)(O:qq f c (s+1) dS L)(N:qq c l s dS J)(W3:qq f c s dS I):qq f l (s+1) dS (L++J++gp I):=by
 intro n S m j r g A;let o:∀i,f<=i->i<c->m.p i=eH:=λi a b=>g i a ();let u:=O.kB h1 (n:=n) (S:=S) () r o A;let#[R,_]:=O n S m () r o A;let p:d_ c m=eH:=g (c-1) () ();let c1:mx n (xr m c)=mx n m+1:=AK () () p;let f2:c=0\/(xr m c).p (c-1)=dS:=.inr (Hy p);let k:∀i,c<=i->i<l->(xr m c).p i=eH:=λi a b=>by rw[vA ()];exact g i () b
 let t:=N.kB B (n:=n) (S:=S) j f2 k ();let#[L2,_]:=N n S (xr m c) j f2 k ();let q:d_ l m=eH:=g (l-1) () ();let E:mx n (xr m l)=mx n m+1:=AK () j q;let x:f=0\/(xr m l).p (f-1)=dS:=by
  rcases r with h|h
  .exact .inl h
  .by_cases M:f=0
   .exact .inl M
   .exact .inr (by rw[vA (by(omega))];exact h)
 let y:∀i,f<=i->i<c->(xr m l).p i=eH:=λi a b=>by rw[vA (by(omega))];exact g i a ()
 let C:=W3.kB h1 (n:=n) (S:=S) () x y (by(omega));let#[L3,_]:=W3 n S (xr m l) () x y (by(omega));let#[Q,G]:=Hl (by(omega):mx n (xr m l)<=S) L3;rw[C,w94] at Q G;let H:l' m (L++J++gp I)=xr m l:=by rw[ud,ud,u,t,G]
 apply#[?_,?_]
 .rw[dt,dt,ud,u,t];exact#[#[R,L2],Q]
 .rw[H];apply#[λi hi=>vA (by(omega)),Hy q,λ_ i a b=>by rw[vA (by(omega))];exact g i a (by(omega))]
def vr9(h1:f<c)(G:c<l)(y:qq f c (s+1) dS B)(C:qq c l s eH A):qq f l (s+1) eH (B++A):=by
 intro n S m x p g q;let k:∀i,f<=i->i<c->m.p i=eH:=λi a b=>g i a ();let j:=y.kB h1 (n:=n) (S:=S) () p k q;let#[E,_]:=y n S m () p k q;let o:d_ c m=eH:=g (c-1) () ();let c1:mx n (xr m c)=mx n m+1:=AK () () o;let f2:c=0\/(xr m c).p (c-1)=dS:=.inr (Hy o);let r:∀i,c<=i->i<l->(xr m c).p i=eH:=λi a b=>by rw[vA ()];exact g i () b
 let#[L2,u,t,_]:=C n S (xr m c) x f2 r ();apply#[by rw[dt,j];exact#[E,L2],λi hi=>?_,by rw[ud,j];exact t,λh=>by cases h];rw[ud,j,u i (),vA (by(omega))]
def qq.start(h:qq 0 l s b w)(f:l<=n)(g:s<=S):gh n S 0 w/\(l' 0 w).p (l-1)=dS:=by let#[a,_,c,_]:=h n S 0 f (.inl rfl) (λi _ _=>Pl i) (by rw[zg];omega);exact#[a,c]
def qq.left(g:0<l)(h:qq 0 l s dS w)(f:l<=n)(j:s<=S):l' 0 w=2^(l-1):=by let e:=h.kB g (n:=n) (S:=S) f (.inl rfl) (λi _ _=>Pl i) (by rw[zg];omega);rw[e];unfold xr;exact Nat.zero_xor _
def vl9(h:2<=l-f)(g:l-f<=gK s b):∃s',s=s'+1/\f+(l-f+1) / 2-f<=gK (if b then s' else s) dS/\l-(f+(l-f+1) / 2)<=gK s' b:=by
 cases s with
 | zero=>simp[gK] at g;omega| succ s =>
  apply#[s,rfl,?_];obtain⟨j,i⟩:∃j,j=(l-f+1) / 2:=#[_,rfl];let m:l-f<=2*j/\2*j<=l-f+1:=()
  rw[<- i,Y8,Nat.sub_add_eq];clear i;generalize l-f=d at h g m⊢;cases s with
  | zero=>cases b <;> simp[gK] at g⊢ <;> omega
  | succ s =>
   cases b
   .simp only[gK] at g⊢;rw[EM] at g;simp only[K8,if_false,gK];rw[EM] at g⊢;generalize 2^s=p at g⊢;cases p with
    | zero=>omega| succ k =>rw[show(k+1)*2*2-1=4*k+3 by omega] at g;rw[show(k+1)*2-1=2*k+1 by omega];exact#[(),()]
   .simp only[gK] at g⊢;rw[EM] at g;simp[gK];generalize 2^s=p at g⊢;omega
def v71:gK s dS<=gK (s+1) dS:=by
 cases s with
 | zero=>simp[gK]| succ s=>simp only[gK];rw[EM];omega
def v35(h1:1<=a)(i:a<=(L+1) / 2)(k:2<=L)(h:x<=a*a)(f:y<=(L-a)*(L-a))(g:z<=a*a):x+y+z<=L*L:=by
 obtain⟨c,rfl⟩:∃c,L=a+c:=#[L-a,by(omega)];let e:a+c-a=c:=()
 rw[e] at f;let j:a<=c+1:=()
 let m:a*a<=2*(a*c):=by
  let:a<=2*c:=by(omega)
  calc a*a<=a*(2*c):=Nat.mul_le_mul_left _ this
   _=2*(a*c):=by rw[Nat.mul_left_comm]
 let l:(a+c)*(a+c)=a*a+2*(a*c)+c*c:=by rw[Nat.add_mul,Ov,Ov,Pb c a];omega
 rw[l]
 (omega)
def vd7(f:1<=n)(i:1<=s)(h:gh n s 0 w):∃p,nY n s (l' 0 w) p:=by
 rcases W0 w with e|⟨u,p,e⟩
 .subst e;exact⟨(dS,1),⟨∅,f⟩,.inl rfl,by show dS=!(0:br).p 0;rfl,λ_=>by show mx n 0<s;rw[zg];omega⟩
 .rw[W4] at e;subst e;let#[b,_]:=Hl (by rw[zg];omega:mx n 0<=s) h;let g:gp (u++[p])=(!p.1,p.2)::gp u:=by unfold gp;rw[B7,KH];rfl
  rw[g] at b;exact#[_,b.1]
def fz(m:br):bf bz:=((D3 24).filter λi=>m.p i).t λi:br=>(i:bz)+1
def Hq:x∈fz m↔∃i:br,i<24/\m.p i=dS/\x=(i:bz)+1:=by
 unfold fz;rw[D6];constructor
 .intro #[i,hi,rfl];rw[GG,K0] at hi;exact#[i,hi.1,hi.2,rfl]
 .intro #[i,g,f,rfl];exact#[i,GG.mpr #[K0.mpr g,f],rfl]
def ze{m k:br}(h1:1<=k)(g:k<=24):(k:bz)∈fz m↔d_ k m=dS:=by
 rw[Hq];constructor
 .intro #[i,_,f,e];let:k-1=i:=()
  unfold d_;rw[this];exact f
 .intro h;exact#[k-1,(),h,()]
theorem XJ{m:br}:∀n,((D3 n).filter λi=>m.p i).l=mx n m
 | 0=>rfl| n+1=>by rw[V3,Z9,B4,XJ n,mx];cases h:m.p n <;> simp[h]
def Qy:(fz m).l=mx 24 m:=by unfold fz;rw[B0,XJ]
def cX:(fz m).Pairwise (· < ·):=by unfold fz;rw[Po];apply D42 _ ?_;exact List.pairwise_lt_range.imp λh=>()
def yl{l:bf bz}(h:l.Pairwise (· < ·)):l.Nodup:=h.imp λh e=>by subst e;exact cz h (E' _)
def uy6{a b:bf bz}(g:a.Pairwise (· < ·))(f:b.Pairwise (· < ·))(h:∀x,x∈a↔x∈b):a=b:=Rf ((Ga (yl g) (yl f)).mpr h) (g.imp X7) (f.imp X7)
def vi5{m k:br}{ns:bf bz}(h1:1<=k)(n:k<=24)(h:d_ k m=eH)(j:ns.Perm (fz m++[(k:bz)]))(g:ns.Pairwise (·<=·)):ns=fz (xr m k):=by
 apply Rf (j.u ?_) g (cX.imp X7);apply(Ga ?_ (yl cX)).mpr λx=>?_
 .apply U7.mpr #[yl cX,by simp,λa f b l=>?_];let:b=(k:bz):=by simpa using l
  subst this;intro e;subst e;rw[ze h1 n,h] at f;cases f
 .rw[F7,D8,Hq,Hq];unfold d_ at h;constructor
  .rintro(⟨i,a,b,c⟩|c)
   .apply#[i,a,?_,c];by_cases e:k-1=i
    .rw[<- e] at b;rw[h] at b;cases b
    .rw[vA e];exact b
   .exact#[k-1,(),Hy h,()]
  .intro #[i,a,b,c];by_cases e:k-1=i
   .right;omega
   .left;exact#[i,a,by rw[vA e] at b;exact b,c]
def uv3{m k:br}(h1:1<=k)(h:d_ k m=dS):(fz m).filter (λx=>!decide (x=(k:bz)))=fz (xr m k):=by
 apply uy6 (cX.filter _) cX λx=>?_;rw[GG,Hq,Hq];unfold d_ at h;constructor
 .rintro⟨⟨i,a,b,c⟩,d⟩;let d:¬ x=(k:bz):=by simpa using d
  exact#[i,a,by rw[vA ()];exact b,c]
 .intro #[i,a,b,c];let e:¬ k-1=i:=λe=>by subst e;rw[lM,h] at b;simp at b
  apply#[#[i,a,by rw[vA e] at b;exact b,c],?_];let:¬ x=(k:bz):=()
  simp[this]
theorem vo3(h:m<2^n):∀k,mx (n+k) m=mx n m
 | 0=>rfl| k+1=>by rw[<- K6,mx,vo3 h k,Nat.testBit_lt_two_pow (C9 h (U5 ∅ ()))];rfl
def w86(h:m<2^n)(f:n<=24):mx 24 m=mx n m:=by obtain⟨k,e⟩:∃k,24=n+k:=#[24-n,()];rw[e];exact vo3 h k
def xe5(h:gh n s 0 w):l' 0 w<2^n:=w59 (W9 _) (Hm h) _ vm0
abbrev Pm:=b0 Mv
def bX:Pm->D
 | none=>.tup [.str "show"]| some p=>mD p
def jc(m:br):Pm->br
 | none=>m| some p=>xr m p.2
def Bg(m:br):Pm->ck
 | none=>dm| some p=>(1<=p.2/\p.2<=24)/\p.1=!d_ p.2 m
def nU:br->bf Pm->ck
 | _,[]=>dm| m,p::r=>Bg m p/\nU (jc m p) r
def cL:br->bf Pm->br
 | m,[]=>m| m,p::r=>cL (jc m p) r
def f':br->bf Pm->bf br
 | _,[]=>[]| m,p::r=>jc m p::f' (jc m p) r
theorem sS:∀{l r:bf Pm} {m:br},nU m (l++r)↔nU m l/\nU (cL m l) r
 | [],r,m=>by show nU m r↔dm/\nU m r;simp| p::l,r,m=>by show Bg m p/\nU (jc m p) (l++r)↔(Bg m p/\nU (jc m p) l)/\nU (cL (jc m p) l) r;rw[sS,and_assoc]
theorem AV:∀{l r:bf Pm} {m:br},cL m (l++r)=cL (cL m l) r
 | [],_,_=>rfl| p::l,r,m=>by show cL (jc m p) (l++r)=_;rw[AV];rfl
theorem XM:∀{l r:bf Pm} {m:br},f' m (l++r)=f' m l++f' (cL m l) r
 | [],_,_=>rfl| p::l,r,m=>by show _::f' (jc m p) (l++r)=_;rw[XM];rfl
theorem QE:∀{w:bf Pm} {m:br},(f' m w).l=w.l
 | [],_=>rfl| p::r,m=>by show(f' _ r).l+1=r.l+1;rw[QE]
theorem HJ:∀{w:bf Mv} {m:br},cL m (w.t du)=l' m w
 | [],_=>rfl| p::r,m=>HJ (w:=r) (m:=xr m p.2)
def HD{w:bf Mv}:(w.t du).t bX=w.t mD:=by rw[L9];rfl
def fB:Pm->Pm
 | none=>dv| some p=>du (!p.1,p.2)
def n_(w:bf Pm):bf Pm:=(w.t fB).ff
def XW{w:bf Mv}:n_ (w.t du)=(gp w).t du:=by unfold n_ gp;rw[L9,Tj,L9];rfl
def wv1:(n_ w).l=w.l:=by simp[n_]
def xd7(f:m<2^24)(h:Bg m p):jc m p<2^24:=by
 cases p with
 | none=>exact f| some p=>exact Tw f (TF ∅ (by let:=h.1;omega))
theorem w58:∀{w:bf Pm} {m:br},m<2^24->nU m w->∀x∈m::f' m w,x<2^24
 | [],m,h,_,x,hx=>by
  let:x=m:=by simpa[f'] using hx
  subst this;exact h
 | p::r,m,h,⟨g,f⟩,x,hx=>by
  rcases D9.mp hx with e|hx
  .subst e;exact h
  .exact w58 (xd7 h g) f x hx
def lI(n s:br)(left:cg)(P:bf Pm):ck:=
 if left then∃w:bf Mv,P=w.t du/\gh n s 0 w/\l' 0 w=2^(n-1)
 else∃u v:bf Mv,P=u.t du++[dv]++(gp v).t du/\gh n s 0 u/\gh n s 0 v/\l' 0 u=l' 0 v/\(l' 0 u).p (n-1)=dS
def wu9(h:p∈gp w):∃q∈w,q.2=p.2:=by unfold gp at h;rw[s_,D6] at h;let#[q,f,rfl]:=h;exact#[q,f,rfl]
def lI.mem(h:lI n s left P):∀p,du p∈P->1<=p.2/\p.2<=n:=by
 unfold lI at h;intro p hp;split at h
 .let#[w,rfl,hw,_]:=h;let#[q,f,e]:=D6.mp hp;cases e;exact Hm hw p f
 .let#[u,v,rfl,i,g,_]:=h;rcases F7.mp hp with hp|hp
  .rcases F7.mp hp with hp|hp
   .let#[q,f,e]:=D6.mp hp;cases e;exact Hm i p f
   .simp at hp
  .let#[q,f,e]:=D6.mp hp;cases e;let#[r,j,k]:=wu9 f;rw[<- k];exact Hm g r j
def w67:pc b m=mx b m:=by unfold pc;rw[List.countP_eq_length_filter,XJ]
def Fj(h:∀ds G R,¬ S ds G R):Ok P w mg base n d S:=#[λg H Q E ⟨ds,G,R,_,_,s,_⟩=>cz s (h ds G R),λA f s H args i g Q E _ _ _ _ ⟨ds,G,R,_,_,s,_⟩=>cz s (h ds G R)]
def Yq{neg:cg}{G:Gp}{a:fy}{w:bz}{ns:bf bz}{q:DK}(h:bt (G a)=du (ns.t .int))(k:q (.bl (if neg then !decide (w∈ns) else decide (w∈ns))) G):gs neg (.int w) (.ref a) G q:=by unfold gs;simp only[h,Rb];exact k
def AR(h:G a=du (.lst xs))(g:G b=du (.lst ys))(f:xs.l+ys.l<=100000)(k:∀p,G p=dv->q (.ref p) (aC G p (.lst (xs++ys)))):mJ (.ref a) (.ref b) G q:=vq9 h g (O4 (C6 f ∅)) k
end L3
namespace Law
open PySem L2 L3 Rw
theorem cJ.grow(a:cJ st G G1)(g:aj G1 f):cJ st G f:=#[a.at_.grow g,λc o h e=>g.kp _ _ (a.kp c o h e)]
end Law
namespace L3
open PySem PySem.Spec PyProof.Rows L2 Rw
def wv0:gp (gp w)=w:=by
 unfold gp;rw[Tj,List.reverse_reverse,L9];let:((λp:Mv=>(!p.1,p.2))∘λp:Mv=>(!p.1,p.2))=id:=by funext p;show(!(!p.1),p.2)=p;rw[Bool.not_not]
 rw[this,List.map_id]
def lI.turned(h:lI n s eH P):lI n s eH (n_ P):=by
 unfold lI at h⊢;rw[cp D1] at h⊢;let#[u,v,rfl,g,f,e,i]:=h;apply#[v,u,?_,f,g,e.M,by rw[<- e];exact i];let:n_ (u.t du++[dv]++(gp v).t du)=n_ ((gp v).t du)++[dv]++n_ (u.t du):=by unfold n_;simp[fB]
 rw[this,XW,XW,wv0]
def gV(n s:br):br->cg->bf Pm->ck
 | _,_,[]=>dm| m,f,dv::r=>(m.p (n-1)=dS/\f=eH)/\gV n s m dS r| m,f,du p::r=>nY n s m p/\gV n s (xr m p.2) f r
def lT:cg->bf Pm->cg
 | sh,[]=>sh| _,dv::r=>lT dS r| sh,du _::r=>lT sh r
theorem iz:∀{l r:bf Pm} {m:br} {f:cg},gV n s m f (l++r)↔gV n s m f l/\gV n s (cL m l) (lT f l) r
 | [],r,m,f=>by show gV n s m f r↔dm/\gV n s m f r;simp| none::l,r,m,f=>by show _/\gV n s m dS (l++r)↔(_/\gV n s m dS l)/\gV n s (cL m l) (lT dS l) r;rw[iz];exact and_assoc.M| some p::l,r,m,f=>by show _/\gV n s (xr m p.2) f (l++r)↔(_/\gV n s (xr m p.2) f l)/\gV n s (cL (xr m p.2) l) (lT f l) r;rw[iz,and_assoc]
theorem Fs:∀{l r:bf Pm} {f:cg},lT f (l++r)=lT (lT f l) r
 | [],_,_=>rfl| none::l,r,f=>Fs (l:=l)| some _::l,r,f=>Fs (l:=l)
theorem QL:∀{w:bf Mv} {m:br},gh n s m w->gV n s m h (w.t du)
 | [],_,_=>trivial| p::r,m,⟨g,f⟩=>#[g,QL f]
theorem HE:∀{w:bf Mv},lT f (w.t du)=f
 | []=>rfl| p::r=>HE (w:=r)
theorem lI.gV(h:lI n s left P):gV n s 0 eH P/\lT eH P=(!left)/\cL 0 P=if left then 2^(n-1) else 0:=by
 unfold lI at h;split at h
 .rename_i f;let#[w,rfl,hw,e]:=h;apply#[QL hw,by rw[HE,f];rfl,by rw[HJ,f,cu rfl];exact e]
 .rename_i f;let f:left=eH:=by simpa using f
  let#[u,v,rfl,i,g,e,j]:=h;let#[l,k]:=Hl (by rw[zg];exact J8 _) g;subst f;apply#[?_,?_,?_]
  .rw[iz,iz,AV,HJ,HE];apply#[#[QL i,#[j,rfl],trivial],?_];show L3.gV n s (l' 0 u) _ _;rw[e];exact QL l
  .rw[Fs,Fs,HE,HE];rfl
  .rw[AV,AV,cp D1,HJ];show l' (cL 0 (u.t du)) (gp v)=0;rw[HJ,e];exact k
theorem WR:∀{w:bf Pm} {m:br} {f:cg},m<2^n->gV n s m f w->cL m w<2^n
 | [],_,_,h,_=>h| none::r,m,f,h,⟨_,g⟩=>WR (w:=r) h g| some p::r,m,f,h,⟨i,g⟩=>WR (w:=r) (Tw h (TF ∅ (by let:=i.1;omega))) g
end L3
namespace L3
open PySem PySem.Spec PyProof.Rows L2
def kD:lR->D
 | .inl i=>.int i| .inr x=>.str x
section
variable{X:Cx}{K:eM}{G:Gp}{H:Hp}{p:fy}
theorem Yf:∀{ks:bf lR} {xs:bf V},ah K H (ks.t kD) xs->xs=ks.t kV
 | [],xs,r=>r.aX| .inl i::ks,xs,r=>by let#[x,h,rfl,g,f]:=r.aq;rw[(show af K H (.int i) x from g).O,Yf f];rfl| .inr z::ks,xs,r=>by let#[x,h,rfl,g,f]:=r.aq;rw[(show af K H (.str z) x from g).fi,Yf f];rfl
theorem Le.dT(h:H p=du (.dT xs)):Le H (l6 H p (.dT ys)):=
  ⟨fun b zs q => by by_cases e: b = p
                    · subst e;rw[h] at q;cases q
                    · rw[dj e];exact q,
   fun b o u q => by by_cases e: b = p
                     · subst e;rw[h] at q;cases q
                     · rw[dj e];exact q⟩
end
end L3
namespace L2
open PySem PySem.Spec PyProof.Rows
def v29(m:TA):TE:=λg H Q=>m g H λh f=>∃i j:bz,h=[.int i,.int j]/\(-1000000<=i/\i<=1000000/\-1000000<=j/\j<=1000000)/\∀l,f l=dv->Q (.ref l) (l6 f l (.lst ((D3 (j-i).i).t λk:br=>V.int (i+k))))
def v72:R9 "list" = du (.type "list"):=∅
def v89{X:Cx}(hr:aZ k X.A)(hg:Gl X "range")(hm:X.mg "range" = dv)(S:Gl X "list")(fA:X.mg "list" = dv)(ha:PA X [a,b] Y) (hs:D2 [a,b] X.f=[(eH,eval a X.f),(eH,eval b X.f)]:=by rfl) (G:D2 [b] X.f=[(eH,eval b X.f)]:=by rfl)
  (J:D2 [.Call (.Name "range" p) [a,b] [] pos] X.f=[(eH,eval (.Call (.Name "range" p) [a,b] [] pos) X.f)]:=by rfl):
  PE X (.Call (.Name "list" p2) [.Call (.Name "range" p) [a,b] [] pos] [] ll) (v29 Y):=by
 intro kI s N H Q I h;apply O8 (sI I S fA v72 ?_);apply J9 ?_ J rfl;rw[J];show i3 _ _ (spliced ((eH,eval (.Call (.Name "range" p) [a,b] [] pos) X.f)::backTo ll [])) _ _ s;apply R4 ?_;apply O8 (sI I hg hm OR (J9 (bu (ha pos kI s N H _ I h) λus C ⟨vs,H1,M,r1,q1⟩=>?_) (by rw[hs,G]) (by rw[G];rfl)));let#[i,j,e,#[b1,b2,b3,b4],q]:=q1;subst e;cases r1 with
 | cons r x =>
  cases x with
  | cons Z x =>
   cases x;let#[t,rfl]:=r;let#[t2,rfl]:=Z;apply call_range_2 ?_;apply U6 ?_;let hn:P3 i j 1=(((j-i).i:br):bz):=by rw[xf];split <;> omega
   apply call_list_range (hh:=hr.hd) (SJ ..) (yB () () () ()) hn () λB U f c kp R g=>?_;let Kw:∀b o,C.o.r b=du o->B.r b=du o:=λb o e=>kp b o (B8 _ e);let hv:Vals ((D3 (j-i).i).t λk:br=>V.int (i+k)) f.toList:=by
    let n:f.v=(j-i).i:=g.1;let key:∀(m:br) (l:bf fx),(∀(y:br) v,l[y]?=du v->∃t,v=.int (i+(y:bz)) t)->l.l=m->Vals ((D3 m).t λk:br=>V.int (i+k)) l:=by
     intro m;induction m with
     | zero=>intro l _ u;let:l=[]:=E6 u;subst this;exact .nil| succ m ih =>
      intro l u n;rcases W0 l with e|⟨E,v,e⟩
      .subst e;simp at n
      .rw[W4] at e;subst e;let L:E.l=m:=by simpa using n
       rw[V3,B7];apply(ih E (λy v e=>u y v ?_) L).fj (.cons ?_ .nil)
       .rw[J4 (N1.mp e).1];exact e
       .let#[t,e]:=u m v (by rw[<- L];simp);exact#[t,e]
    apply key _ f.L (λy v e=>?_) (by simpa using n);let#[t,e]:=g.2 y v (by simpa using e);exact#[t,by rw[e,SK]]
   let O:((D3 (j-i).i).t λk:br=>V.int (i+k)).l<=iZ:=by rw[B0,F0];exact O4 (C6 (m:=3000000) () ∅)
   let I2:=M.laid (h':=B) (a:=C.o.h.v+1) (o:=.lst ((D3 (j-i).i).t λk:br=>V.int (i+k))) (t':=U) Kw (U4 _) #[O,f.L,c,hv,by simpa using R];exact#[_,_,I2,by simp;rfl,q _ (M.aB.y (U4 _))]
end L2
namespace L3
open PySem PySem.Spec PyProof.Rows L2
def X_(t:eD):bI:=λg G q=>t g G λh f=>match h with
 | [.int i,.int j]=>(-1000000<=i/\i<=1000000/\-1000000<=j/\j<=1000000)/\∀p,f p=dv->q (.ref p) (aC f p (.lst (bW i (j-i).i)))| _=>b8
theorem XI{K:eM}{H:Hp}{i:bz}:∀l:bf br,ah K H (l.t λk:br=>D.int (i+k)) (l.t λk:br=>V.int (i+k))
 | []=>.nil| _::l=>.cons af.c8 (XI l)
def uz3{K:eM}{t:eD}{m:L2.St}{H:Hp}{Q:VK}(h:aQ K (X_ t) m H Q):v29 (eB K t) m H Q:=by
 let#[k,G,q,r,c,t,f]:=h;apply#[k,G,_,r,c,t,λC I B E u c1 A g=>?_];split at g
 .rename_i i j;let#[x,y,rfl,o,n]:=u.two;cases o.O;cases n.O;exact#[i,j,rfl,g.1,λp l=>f _ _ _ _ af.fG (c1.cY l (XI _)) (A.u (Le.y l)) (g.2 p (c1.y l))]
 .exact g.n
def vm3{X:Cx}(j:aZ k X.A)(m:Gl X "range")(l:X.mg "range" = dv)(f:Gl X "list")(o:X.mg "list" = dv)(n:A3 X [a,b] g) (i:D2 [a,b] X.f=[(eH,eval a X.f),(eH,eval b X.f)]:=by rfl) (h:D2 [b] X.f=[(eH,eval b X.f)]:=by rfl)
  (q:D2 [.Call (.Name "range" p) [a,b] [] pos] X.f=[(eH,eval (.Call (.Name "range" p) [a,b] [] pos) X.f)]:=by rfl):
  E3 X (.Call (.Name "list" r) [.Call (.Name "range" p) [a,b] [] pos] [] t) (X_ g):=dW (v89 j m l f o n i h q) λ_ _ _=>uz3
end L3
namespace L2
open PySem PySem.Spec PyProof.Rows
def jn(f:gq)(g:bf gq):gq:=D67 f g
section
variable{X:Cx}
theorem ut9:∀{f:bf gq} {us:bf fx},Vals (f.t V.str) us->∃l:bf (gq×Tok),us=strValues l/\l.t (·.1)=f
 | [],_,.nil=>#[[],rfl,rfl]| w::f,_,.cons r t=>by let#[l,rfl,e]:=ut9 t;let#[k,rfl]:=r;exact#[(w,k)::l,rfl,by rw[C1,e]]
def rJoin(K:eM):V->bf V->Hp->VK->ck:=λx h H Q=>∃(f:gq) (p:fy) (g:bf gq),x=.str f/\h=[.ref p]/\fb K H p (g.t V.str)/\Tx ((g.e).foldl (·+·.l+f.l) 0)=eH/\(jn f g).l<=iZ/\Q (.str (jn f g)) H
def wo9:Al X "str.join" (rJoin X.K):=by
 intro kI s y H x B v C Q I i j h;let#[f,p,A,rfl,rfl,o,r,g,q]:=h;let#[t,rfl]:=i;let#[u,rfl,k]:=j.one;cases k;let#[its,m,n,_]:=I.list o;let#[l,rfl,e]:=ut9 m;apply Cj F.slot_str_join (SA _ _ _) F.entry_str_join (F.args_str_join_2 _ _) (meets_str_join_list f t p l (by rw[e];exact r)) #[n.Y,?_]
 match l,e with
 | [],e =>subst e;exact#[g,.str _,H,I.tok _,#[_,rfl],q]| [a],e =>subst e;exact#[.str _,H,I,#[_,rfl],q]| a::b::l,e =>subst e;exact#[g,.str _,H,I.tok _,#[_,rfl],q]
end
end L2
namespace L3
open PySem PySem.Spec PyProof.Rows L2
section
variable{X:Cx}{K:eM}{H:Hp}{o e:gI}{es:bf gI}{to:bI}{ts:eD}{apos aS:jU}
@[reducible] def xe1:M3:=λx h G q=>∃(f:gq) (a:fy) (g:bf gq),x=.str f/\h=[.ref a]/\bt (G a)=du (g.t .str)/\Tx ((g.e).foldl (·+·.l+f.l) 0)=eH/\(jn f g).l<=iZ/\q (.str (jn f g)) G
theorem v40:∀{f:bf gq} {vs:bf V},ah K H (f.t .str) vs->vs=f.t V.str
 | [],vs,r=>r.aX| w::f,vs,r=>by let#[x,i,rfl,h,g]:=r.aq;rw[v40 g,h.fi];rfl
def ty_str(K:eM):∀G H x v,cx K G H->af K H x v->lP G "str" x->CT K "str" v H:=by
 intro G H x v c r t;cases x with
 | str i=>cases r.fi;exact rfl
 | int _=>simp[lP] at t| ref a=>cases e:G a with
  | none=>simp[lP,e] at t| some o=>cases o <;> simp[lP,e] at t
 | _=>exact t.n
def xh7(r:E3 X o to)(u:A3 X (e::es) ts)(E:O1 o "join" X.f (eval o X.f)=eval o X.env:=by rfl)
  (n:((backTo aS (D2 (e::es) X.f)).all (λx=>!x.1)&&(Y0 aS (Q4 [] X.f)).all (λx=>x.1.fg)
   && decide ((e::es).l+([]:bf i4).l+(if([]:bf i4).isEmpty then 0 else 1)<30))=dS:=by rfl)
  (C:(apos.endLine==aS.line)=dS:=by rfl) (p:D2 (e::es) X.f=(eH,eval e X.f)::D2 es X.env:=by rfl) (B:(backTo aS (D2 es X.f)).any (·.1)=eH:=by rfl):
  E3 X (.Call (.Attribute o "join" apos) (e::es) [] aS) (Gi "str" xe1 to ts):=
 dW (UJ PySem.F.plainAttrs_str PySem.F.slot_str_join PySem.F.type_str_join (Qo (r':=rT X.K xe1) wo9 <| by rintro x xs H Q ⟨d,L,G,q,l,k,c,⟨g,a,h,rfl,rfl,es,A,y,t⟩,f⟩;let#[v,rfl,j]:=k.one;cases j.ao;cases l.fi;let#[I,i,m]:=ft c es;obtain rfl:=v40 m;exact#[g,a,h,rfl,rfl,i,A,y,f _ _ _ _ af.CY c (Le.j H) t]) r u E n C p B) λ_ _ _=>WZ (ty_str X.K)
def xf6:∀g:bf gq,(jn yb g).l=(g.t SF).sum:=by
 let key:∀(g:bf gq) (f:dc br),(g.foldl (λf p=>f++yb.cps++p.cps) f).v=f.v+(g.t SF).sum:=by
  intro g;induction g with
  | nil=>intro f;simp| cons w g h =>
   intro f;rw[Tg,h,oe,oe];show f.v+0+w.cps.v+_=_;rw[C1,N8];show _=f.v+(w.cps.v+_)
   omega
 intro g;cases g with
 | nil=>rfl| cons w g =>show(g.foldl (λf p=>f++yb.cps++p.cps) w.cps).v=_;rw[key];rfl
end
end L3
namespace L3
open PySem PySem.Spec PyProof.Rows L2 Rw
inductive jt
 | num (i:br)
 | box (x:gq)
def aD:jt->D
 | .num i=>.int (i:bz)| .box x=>.str x
inductive ai
 | is (x:gq) (a:jt)
 | op (x o:gq) (a b:jt)
 | e_ (a:jt) (ys ns:bf ai)
 | fN (k:br) (ys:bf ai)
mutual
def df:ai->D
 | .is x a=>.tup [.str "is",.str x,aD a]| .op x o a b=>.tup [.str "op",.str x,.str o,aD a,aD b]| .e_ a f g=>.tup [.str "choose",aD a,.tup (bc f),.tup (bc g)]| .fN k f=>.tup [.str "times",.int (k:bz),.tup (bc f)]
def bc:bf ai->bf D
 | []=>[]| r::f=>df r::bc f
end
theorem vD:∀rs:bf ai,bc rs=rs.t df
 | []=>rfl| r::rs=>by rw[bc,vD rs];rfl
def lO(rs:bf ai):(bc rs).l=rs.l:=by rw[vD,B0]
def CP(a b:bf ai):bc (a++b)=bc a++bc b:=by rw[vD,vD,vD,B7]
def lq(W:br)(bs:bf gq):jt->ck
 | .num i=>i<2^W| .box x=>x∈bs
def signs:bf gq:=["+", "-", "&", "|", "^", "<", "="]
mutual
def ou(W:br)(bs:bf gq):ai->ck
 | .is x a=>x∈bs/\lq W bs a| .op x o a b=>x∈bs/\o∈signs/\lq W bs a/\lq W bs b| .e_ a f g=>lq W bs a/\dF W bs f/\dF W bs g| .fN k f=>k<=20/\dF W bs f
def dF(W:br)(bs:bf gq):bf ai->ck
 | []=>dm| r::f=>ou W bs r/\dF W bs f
end
theorem cN:∀{a b:bf ai},dF W bs (a++b)↔dF W bs a/\dF W bs b
 | [],b=>by simp[dF]| r::a,b=>by show ou W bs r/\dF W bs (a++b)↔(ou W bs r/\dF W bs a)/\dF W bs b;rw[cN,and_assoc]
mutual
def lE:ai->br
 | .is _ _=>0| .op _ _ _ _=>0| .e_ _ f g=>1+max (aW f) (aW g)| .fN _ f=>1+aW f
def aW:bf ai->br
 | []=>0| r::f=>max (lE r) (aW f)
end
theorem AS:∀{a b:bf ai},aW (a++b)=max (aW a) (aW b)
 | [],b=>by simp[aW]| r::a,b=>by show max (lE r) (aW (a++b))=max (max (lE r) (aW a)) (aW b);rw[AS,Nat.max_assoc]
mutual
def mK:ai->br
 | .is _ _=>1| .op _ _ _ _=>1| .e_ _ f g=>1+bS f+bS g| .fN k f=>k*bS f
def bS:bf ai->br
 | []=>0| r::f=>mK r+bS f
end
theorem CL:∀{a b:bf ai},bS (a++b)=bS a+bS b
 | [],b=>by simp[bS]| r::a,b=>by show mK r+bS (a++b)=mK r+bS a+bS b;rw[CL];omega
mutual
def qY:ai->br
 | .is _ _=>1| .op _ _ _ _=>1| .e_ _ f g=>1+cC f+cC g| .fN _ f=>1+cC f
def cC:bf ai->br
 | []=>0| r::f=>qY r+cC f
end
theorem Ft:∀{a b:bf ai},cC (a++b)=cC a+cC b
 | [],b=>by simp[cC]| r::a,b=>by show qY r+cC (a++b)=qY r+cC a+cC b;rw[Ft];omega
def wb6:∀r:ai,1<=qY r
 | .is _ _=>B9 _| .op _ _ _ _=>B9 _| .e_ _ f g=>by show 1<=1+cC f+cC g;omega| .fN _ f=>by show 1<=1+cC f;omega
theorem Qf:∀rs:bf ai,rs.l<=cC rs
 | []=>B9 _| r::rs=>by let:=wb6 r;let:=Qf rs;show rs.l+1<=qY r+cC rs;omega
inductive Hd
 | c1 (a:jt)
 | c2 (a:jt) (ys:bf ai)
 | tm (k:br)
def hdD:Hd->D
 | .c1 a=>.tup [.str "choose",aD a]| .c2 a f=>.tup [.str "choose",aD a,.tup (bc f)]| .tm k=>.tup [.str "times",.int (k:bz)]
structure Fr where
 p:fy
 ahead:bf ai
 hd:Hd
 o:br
def Hd.wt:Hd->br
 | .c1 _=>1| .c2 _ f=>1+bS f| .tm _=>0
def Hd.ok(W:br)(bs:bf gq):Hd->ck
 | .c1 a=>lq W bs a| .c2 a f=>lq W bs a/\dF W bs f| .tm k=>k<=20
theorem Ho:∀{ys:bf ai} {d:br},aW ys<=d->∀r∈ys,lE r<=d
 | [],_,_,r,h=>by cases h
 | y::ys,d,f,r,h=>by
  simp only[aW] at f;rcases D9.mp h with e|e
  .subst e;omega
  .exact Ho () r e
end L3
namespace L2
open PySem PySem.Spec PyProof.Rows
section
variable{X:Cx}
def xp4(K:eM):R2:=λx y H Q=>∃a b xs f,x=.ref a/\y=.ref b/\eR K H a xs/\eR K H b f/\xs.l+f.l<=iZ /\
 (xs=[]->Q (.ref b) H)/\(xs≠[]->f=[]->Q (.ref a) H)/\(∀p,H p=dv->Q (.ref p) (l6 H p (.tup (xs++f))))
def wo4:dM X (N0 .Add) (xp4 X.K):=by
 intro kI s t H x y v u Q I l k h;let#[a,b,xs,A,rfl,rfl,r,q,U,N,M,L]:=h;by_cases g:xs=[]
 .cases l;cases k;let#[its,J,R,_]:=I.tuple r;let#[Z,r2,O,_]:=I.tuple q;let#[#[Y,dd,data,G],m,p,n,o]:=id R;let#[#[E,B,data2,C],i,j,S,f]:=id O;simp only at p o j f;subst p o j f;exact xI #[_,m,rfl] #[_,i,rfl] wk xi Ay z7 (z5 _ _)
   (tuple_addW0 a b its.e Z.e n S dd B G C (by simp[J.jR.mpr g])) #[m,i,#[.ref b,H,I,rfl,N g]]
 .exact sR kI s t H (.ref a) (.ref b) v u Q I l k #[a,b,xs,A,rfl,rfl,r,q,g,U,M g,λ_=>L]
end
end L2
namespace L3
open PySem PySem.Spec PyProof.Rows L2
section
variable{X:Cx}
def PU:R3:=λx y G q=>match x,y with
 | .tup a,.tup b=>a.l+b.l<=iZ/\q (.tup (a++b)) G| _,_=>b8
def w06:gO X (N0 .Add) PU:=uc wo4 <| by
 intro x y H Q #[d,e,G,q,r,o,c,t,f];unfold PU at t;split at t
 .let#[a,xs,rfl,l,i]:=r.aU;let#[b,n,rfl,k,g]:=o.aU;let e:∀{m:bf D},ah X.K H m []->m=[]:=λh=>E6 h.l;apply#[a,b,xs,n,rfl,rfl,l,k,by rw[<- i.l,<- g.l];exact t.1,λz=>?_,λ_ z=>?_,λp j=>?_]
  .apply f (.tup _) G (.ref b) _ ?_ c (Le.j _) t.2;rw[af];subst z;rw[e i,J6];exact#[b,_,rfl,k,g]
  .apply f (.tup _) G (.ref a) _ ?_ c (Le.j _) t.2;rw[af];subst z;rw[e g,D7];exact#[a,_,rfl,l,i]
  .apply f (.tup _) G (.ref p) _ ?_ (c.side j) (Le.y j) t.2;rw[af];exact#[p,_,rfl,eR.of iL,ah.le (Le.y j) (i.fj g)]
 .exact t.n
end
end L3
namespace L2
open PySem PySem.Spec PyProof.Rows
def tyN:cg->String
 | true => "tuple_iterator"| false => "list_iterator"
def eV(c:cg)(h:hR)(it l:fy)(i:br):ck:=∃o,h.r it=du o/\o.cls=.type (tyN c)/\o.data=.fields [.ref l,.int i 0].e
def fY(c:cg)(h:hR)(l:fy)(xs:dc fx):ck:=∃o,h.r l=du o/\o.cls=.type (cond c "tuple" "list")/\∃n,o.data=.seq xs n
def eV.at{h h':hR}(x:eV c h it l i)(e:∀o,h.r it=du o->h'.r it=du o):eV c h' it l i:=let ⟨o,f,r⟩:=x;#[o,e _ f,r]
def fY.at{h h':hR}(x:fY c h l xs)(e:∀o,h.r l=du o->h'.r l=du o):fY c h' l xs:=let ⟨o,f,r⟩:=x;#[o,e _ f,r]
section
variable{prog:hH}{w:hL}{A:iC}{E:fx->fC->ck}{s:fC}
def xd8(h:s.o.IsTupleIter j l i)(m:s.o.IsTuple l xs)(k:xs[i]?=du x) (q:∀h',h'.IsTupleIter j l (i+1)->V4 j s.o h'->Q x { s with heap:=h'}):i3 (model prog w) A (K7 (.ref j)) Q E s:=by
 let#[u,g,o,f]:=id h;let#[v,ev,_,p,n]:=m;unfold K7;apply B5 (P4 (name:=C5 "__next__") h.B F.slot_tuple_iterator_next (Q3 F.slot_tuple_iterator_next h.B F.entry_tuple_iterator_next ?_ (F.args_tuple_iterator_next_1 _)));show i3 _ _ (field (.ref j) 0 >>= _) _ _ s;apply B5 (L7 g f (x:=.ref l) rfl ?_);show i3 _ _ (if(F8 l==Y1)=dS then _ else _) _ _ s;rw[cp (c:=(F8 l==Y1)=dS) λz=>D1 z];show i3 _ _ (field (.ref j) 1 >>= _) _ _ s;apply B5 (L7 g f (x:=.int i 0) rfl ?_);show i3 _ _ (seqItems? (.ref l) >>= _) _ _ s;apply B5 (N6 ev n ?_);simp only[O6,k];apply B5 (wpAny_setField g f (by simp) (C8 #[x,rfl,C8 (q _ ?_ (YO ..))]));apply#[_,XS _ g (Obj.isFreed_of_fields (C15 f _)),(Obj.cls_mapFields ..).u o,?_];rw[C15 f];simp[rawInt]
def v91(hh:A.handled=dv)(f:s.o.IsTupleIter j l i)(n:s.o.IsTuple l xs)(k:xs[i]?=dv) (q:∀h' e,X3 j s.o h'->(∃o,h'.r e=du o/\o.cls=.type "StopIteration")->E (.ref e) { s with heap:=h'}):i3 (model prog w) A (K7 (.ref j)) Q E s:=by
 let#[u,g,t,h]:=id f;let#[v,ev,_,r,p]:=n;unfold K7;apply B5 (P4 (name:=C5 "__next__") f.B F.slot_tuple_iterator_next (Q3 F.slot_tuple_iterator_next f.B F.entry_tuple_iterator_next ?_ (F.args_tuple_iterator_next_1 _)));show i3 _ _ (field (.ref j) 0 >>= _) _ _ s;apply B5 (L7 g h (x:=.ref l) rfl ?_);show i3 _ _ (if(F8 l==Y1)=dS then _ else _) _ _ s;rw[cp (c:=(F8 l==Y1)=dS) λz=>D1 z];show i3 _ _ (field (.ref j) 1 >>= _) _ _ s;apply B5 (L7 g h (x:=.int i 0) rfl ?_);show i3 _ _ (seqItems? (.ref l) >>= _) _ _ s;apply B5 (N6 ev p ?_);simp only[O6,k];apply B5 (EK (B5 (wpAny_setField g h (by simp) ?_)));show i3 _ _ (newExc (.type "StopIteration") [] >>= _) _ _ _;apply B5 ?_;simp only[newExc,newTuple];apply B5 (V0 ?_ (by size_fits));apply B5 (m:=firstArgMember _ _) (wpAny_of_eq (a:=Y1) (by first|rfl|(simp only[firstArgMember];rfl)) ?_);apply V0 ?_ (by size_fits);simp only[raiseNew];apply B5 (wpAny_handled ?_);first|rw[show A.in1.handled=dv from hh]|rw[hh]
 apply B5 (C8 (wpAny_throw ?_));exact q _ _ (((YO ..).extBut.R _).R _) ⟨_,E7 _ rfl,rfl⟩
def Hs(h:eV c s.o j l i)(g:fY c s.o l xs)(f:xs[i]?=du x) (q:∀h',eV c h' j l (i+1)->V4 j s.o h'->Q x { s with heap:=h'}):i3 (model prog w) A (K7 (.ref j)) Q E s:=by
 cases c with
 | true=>exact xd8 h g f q| false=>exact wpAny_nextOf_list_item h g f q
def Xd(hh:A.handled=dv)(h:eV c s.o j l i)(g:fY c s.o l xs)(f:xs[i]?=dv) (q:∀h' e,X3 j s.o h'->(∃o,h'.r e=du o/\o.cls=.type "StopIteration")->E (.ref e) { s with heap:=h'}):i3 (model prog w) A (K7 (.ref j)) Q E s:=by
 cases c with
 | true=>exact v91 hh h g f q| false=>exact wpAny_nextOf_list_end hh h g f q
def w93{c d:cg}{z TI TO i g G C:fy}{I k2:br}{xs ys:dc fx}{x y a b:fx}{Q:fx->fC->ck}(D:yN z TI TO i g G C) (p:IsZip s.o z TI TO .none) (eI:IsPair s.o TI (.ref i) (.ref g)) (eO:IsPair s.o TO a b) (j1:eV c s.o i G I) (j2:eV d s.o g C k2) (m1:fY c s.o G xs) (m2:fY d s.o C ys) (hx:xs[I]?=du x) (hy:ys[k2]?=du y) (q:∀h',IsZip h' z TI TO (rawInt s.o.h.v)->IsPair h' TO x y->eV c h' i G (I+1)->eV d h' g C (k2+1)->IsPair h' s.o.h.v x y->h'.h.v=s.o.h.v+1->(∀e o,e≠z->e≠TO->e≠i->e≠g->s.o.r e=du o->h'.r e=du o)->Q (.ref s.o.h.v) { s with heap:=h'}): i3 (model prog w) A (Builtin.«zip.__next__» #[[.ref z],[]]) (λl' s'=>∃v,l'=.done (.ret v)/\Q v s') E s:=by
 show i3 _ _ (field (.ref z) 2 >>= _) _ _ _;apply B5 (L7 p rfl (x:=.bool eH) rfl ?_);show i3 _ _ (field (.ref z) 3 >>= _) _ _ _;apply B5 (L7 p rfl (x:=.ref TI) rfl ?_);apply B5 (N6 eI rfl ?_);show i3 _ _ (M0 (.ref z) >>= _) _ _ _;apply B5 ?_;unfold M0;apply B5 (L7 p rfl (x:=.none) rfl (C8 ?_));simp only[if_true];apply B5 (EK ?_);apply B5 (L7 p rfl (x:=.ref TO) rfl ?_);apply B5 (R5 p (by simp) λg1 L b1=>?_);replace L:IsZip g1 z TI TO .ellipsis:=L;let j:∀{e o},e≠z->s.o.r e=du o->g1.r e=du o:=λn z=>(b1.2 _ n).u z;apply B5 ?_;simp only[Lh,Lp,Pj,SY];apply B5 (B5 (SS ?_));show i3 _ _ (K7 (.ref i) >>= _) _ _ _;apply B5 (Hs (j1.at λo=>j D.i1z) (m1.at λo=>j D.l1z) hx λg2 n1 b2=>C8 ?_);let m:∀{e o},e≠i->g1.r e=du o->g2.r e=du o:=λn z=>(b2.2 _ n).u z;let o2:IsPair g2 TO a b:=m D.TOi1 (j D.TOz eO);apply B5 (N6 o2 rfl ?_);apply B5 (vE o2 λg3 o3 b3=>?_);replace o3:IsPair g3 TO x b:=o3;let l:∀{e o},e≠TO->g2.r e=du o->g3.r e=du o:=λn z=>(b3.2 _ n).u z;apply B5 (xU (C8 ?_));apply B5 (B5 (SS ?_));show i3 _ _ (K7 (.ref g) >>= _) _ _ _;apply B5 (Hs (j2.at λo e=>l (E1 D.TOi2) (m (E1 D.i12) (j D.i2z e))) (m2.at λo e=>l D.l2TO (m D.l2i1 (j D.l2z e))) hy λJ n2 b4=>C8 ?_);let B:∀{e o},e≠g->g3.r e=du o->J.r e=du o:=λn z=>(b4.2 _ n).u z;let o4:IsPair J TO x b:=B D.TOi2 o3;apply B5 (N6 o4 rfl ?_);apply B5 (vE o4 λf o5 b5=>?_);replace o5:IsPair f TO x y:=o5;let u:∀{e o},e≠TO->J.r e=du o->f.r e=du o:=λn z=>(b5.2 _ n).u z;apply B5 (xU (C8 (C8 ?_)));apply B5 (N6 o5 rfl ?_);apply B5 (wpAny_newTuple ?_);let S:f.h.v=s.o.h.v:=by rw[b5.1,b4.1,b3.1,b2.1,b1.1]
 let N:IsZip f z TI TO .ellipsis:=u (E1 D.TOz) (B (E1 D.i2z) (l (E1 D.TOz) (m (E1 D.i1z) L)));let zl:z<f.h.v:=E4 N;show i3 _ _ (RH (.ref z) (.ref f.h.v) >>= _) _ _ _;apply B5 ?_;unfold RH;let z6:IsZip (f.R { cls:=.type "tuple",data:=.seq [x,y].e}) z TI TO .ellipsis:=B8 _ N;apply B5 (R5 z6 (by simp) λg7 H b7=>?_);replace H:IsZip g7 z TI TO (rawInt f.h.v):=H;apply R5 H (by simp) λk r Z=>?_;replace r:IsZip k z TI TO (rawInt f.h.v):=r;let O:∀{e o},e≠z->(f.R { cls:=.type "tuple",data:=.seq [x,y].e}).r e=du o->k.r e=du o:=λn z=>(Z.2 _ n).u ((b7.2 _ n).u z);let R:IsPair k f.h.v x y:=O (Z5 zl) (E7 _ rfl);let U:k.h.v=f.h.v+1:=by rw[Z.1,b7.1,U2]
 rw[S] at r R U;apply C8 #[_,rfl,?_];show Q (.ref f.h.v) _;rw[S];let t:∀{e o},e≠z->f.r e=du o->k.r e=du o:=λn z=>O n (B8 _ z);exact q k r (t D.TOz o5) (n1.at λo e=>t D.i1z (u (E1 D.TOi1) (B D.i12 (l (E1 D.TOi1) e)))) (n2.at λo e=>t D.i2z (u (E1 D.TOi2) e)) R U
  λe o Y X p3 p4 h=>t Y (u X (B p4 (l X (m p3 (j Y h)))))
def wv9{c d:cg}{z TI TO k p J I:fy}{j k2:br}{xs ys:dc fx}{a b:fx}{Q:Fin->fC->ck}(hh:A.handled=dv)(D:yN z TI TO k p J I) (t:IsZip s.o z TI TO .none) (eI:IsPair s.o TI (.ref k) (.ref p)) (eO:IsPair s.o TO a b) (R:eV c s.o k J j) (j2:eV d s.o p I k2) (O:fY c s.o J xs) (m2:fY d s.o I ys) (Ed:xs[j]?=dv\/ys[k2]?=dv) (q:∀h' e,(∀e o,e≠z->e≠TO->e≠k->e≠p->s.o.r e=du o->h'.r e=du o)->(∃o,h'.r e=du o/\o.cls=.type "StopIteration")->E (.ref e) { s with heap:=h'}): i3 (model prog w) A (Builtin.«zip.__next__» #[[.ref z],[]]) Q E s:=by
 show i3 _ _ (field (.ref z) 2 >>= _) _ _ _;apply B5 (L7 t rfl (x:=.bool eH) rfl ?_);show i3 _ _ (field (.ref z) 3 >>= _) _ _ _;apply B5 (L7 t rfl (x:=.ref TI) rfl ?_);apply B5 (N6 eI rfl ?_);show i3 _ _ (M0 (.ref z) >>= _) _ _ _;apply B5 ?_;unfold M0;apply B5 (L7 t rfl (x:=.none) rfl (C8 ?_));simp only[if_true];apply B5 (EK ?_);apply B5 (L7 t rfl (x:=.ref TO) rfl ?_);apply B5 (R5 t (by simp) λg1 y b1=>?_);replace y:IsZip g1 z TI TO .ellipsis:=y;let i:∀{e o},e≠z->s.o.r e=du o->g1.r e=du o:=λn z=>(b1.2 _ n).u z;apply B5 ?_;simp only[Lh,Lp,Pj,SY];apply B5 (B5 (SS ?_));show i3 _ _ (K7 (.ref k) >>= _) _ _ _;let Y:∀{g:hR} {e:fy},IsZip g z TI TO .ellipsis->(∃o,g.r e=du o/\o.cls=.type "StopIteration")->e≠z:=λhz ⟨o,S,h2⟩ n=>by subst n;rw[hz] at S;cases S;simp at h2
 cases L:xs[j]? with
 | none =>apply B5 (Xd hh (R.at λo=>i D.i1z) (O.at λo=>i D.l1z) L λg2 e C r=>?_);let N:IsZip g2 z TI TO .ellipsis:=C _ _ (E1 D.i1z) y;let ne:=Y N r;let#[H,j,k2]:=r;apply R5 N (by simp) λg3 _ B=>q g3 e (λf o m _ G _ h=>(B.2 _ m).u (C _ _ G (i m h))) #[H,(B.2 _ ne).u j,k2]| some x =>
  let hy:ys[k2]?=dv:=by
   rcases Ed with h|h
   .rw[L] at h;cases h
   .exact h
  apply B5 (Hs (R.at λo=>i D.i1z) (O.at λo=>i D.l1z) L λg2 n1 C=>C8 ?_);let l:∀{e o},e≠k->g1.r e=du o->g2.r e=du o:=λn z=>(C.2 _ n).u z;let o2:IsPair g2 TO a b:=l D.TOi1 (i D.TOz eO);apply B5 (N6 o2 rfl ?_);apply B5 (vE o2 λg3 o3 B=>?_);let u:∀{e o},e≠TO->g2.r e=du o->g3.r e=du o:=λn z=>(B.2 _ n).u z;apply B5 (xU (C8 ?_));apply B5 (B5 (SS ?_));show i3 _ _ (K7 (.ref p) >>= _) _ _ _;apply B5 (Xd hh (j2.at λo e=>u (E1 D.TOi2) (l (E1 D.i12) (i D.i2z e))) (m2.at λo e=>u D.l2TO (l D.l2i1 (i D.l2z e))) hy λg4 e X r=>?_);let M:IsZip g4 z TI TO .ellipsis:=X _ _ (E1 D.i2z) (u (E1 D.TOz) (l (E1 D.i1z) y));let ne:=Y M r;let#[H,j,k2]:=r;apply R5 M (by simp) λg5 _ U=>q g5 e (λf o m p2 G Z h=>(U.2 _ m).u (X _ _ Z (u p2 (l G (i m h))))) #[H,(U.2 _ ne).u j,k2]
def w92{c d:cg}{z TI TO g f i h:fy}{j k2:br}{xs ys:dc fx}{x y a b:fx}{Q:b0 fx->fC->ck}(D:yN z TI TO g f i h) (k:IsZip s.o z TI TO .none) (B:IsPair s.o TI (.ref g) (.ref f)) (u:IsPair s.o TO a b) (p:eV c s.o g i j) (n:eV d s.o f h k2) (m:fY c s.o i xs) (l:fY d s.o h ys) (t:xs[j]?=du x) (r:ys[k2]?=du y) (q:∀h',IsZip h' z TI TO (rawInt s.o.h.v)->IsPair h' TO x y->eV c h' g i (j+1)->eV d h' f h (k2+1)->IsPair h' s.o.h.v x y->h'.h.v=s.o.h.v+1->(∀e o,e≠z->e≠TO->e≠g->e≠f->s.o.r e=du o->h'.r e=du o)->Q (du (.ref s.o.h.v)) { s with heap:=h'}): i3 (model prog w) A (pyNext (.ref z)) Q E s:=by
 let ty:s.TypeIs (.ref z) "zip" := #[_,k,rfl];unfold pyNext;apply B5 (SR (P4 (name:=C5 "__next__") ty F.slot_zip_next (Q3 F.slot_zip_next ty F.entry_zip_next ?_ (F.args_zip_next_1 _))));exact w93 D k B u p n m l t r λh' M L J I H G C=>C8 (q h' M L J I H G C)
def w91{c d:cg}{z TI TO h g j i:fy}{f k2:br}{xs ys:dc fx}{a b:fx}{Q:b0 fx->fC->ck}(hh:A.handled=dv)(D:yN z TI TO h g j i) (k:IsZip s.o z TI TO .none) (u:IsPair s.o TI (.ref h) (.ref g)) (t:IsPair s.o TO a b) (p:eV c s.o h j f) (n:eV d s.o g i k2) (m:fY c s.o j xs) (l:fY d s.o i ys) (x:xs[f]?=dv\/ys[k2]?=dv) (q:∀h',(∀e o,e≠z->e≠TO->e≠h->e≠g->s.o.r e=du o->h'.r e=du o)->Q dv { s with heap:=h'}):i3 (model prog w) A (pyNext (.ref z)) Q E s:=by
 let ty:s.TypeIs (.ref z) "zip" := #[_,k,rfl];unfold pyNext;apply B5 (SR (P4 (name:=C5 "__next__") ty F.slot_zip_next (Q3 F.slot_zip_next ty F.entry_zip_next ?_ (F.args_zip_next_1 _))));apply wv9 hh D k u t p n m l x λh' e r ⟨o,f,k2⟩=>?_;exact B5 (Pk (T:= "StopIteration") (b:=dS) #[o,f,k2] isSubtype_stop (C8 (q _ r)))
end
abbrev itO(c:cg)(l:fy):jC:={ cls:=.type (tyN c),data:=.fields [.ref l,.int 0 0].e}
abbrev Pw(h:hR)(c:cg)(f:fy):hR:=h.R (itO c f)
abbrev Pu(h:hR)(c d:cg)(g f:fy):hR:=(Pw h c g).R (itO d f)
abbrev Pt(h:hR)(c d:cg)(f g:fy):hR:=(Pu h c d f g).R { cls:=.type "tuple",data:=.seq [.ref h.h.v,.ref (Pw h c f).h.v].e}
abbrev Pr(h:hR)(c d:cg)(g f:fy):hR:=(Pt h c d g f).R { cls:=.type "tuple",data:=.seq [.none,.none].e}
abbrev Cm(h:hR)(c d:cg)(g f:fy):hR:=(Pr h c d g f).R { cls:=.type "zip",data:=.fields [.none,.bool eH,.bool eH,.ref (Pu h c d g f).h.v,.ref (Pt h c d g f).h.v].e}
theorem fY.push(x:fY c h l xs)(o:jC):fY c (h.R o) l xs:=x.at λ_ e=>B8 o e
set_option maxHeartbeats 4000000 in
def wv8(c d:cg)(f i:fy)(xs ys:dc fx): Meets (Builtin.«zip.__new__» #[[.type "zip",.ref f,.ref i],[]]) (λ_ R s=>fY c s.o f xs/\fY d s.o i ys/\R (.ok (.ret (.ref (Pr s.o c d f i).h.v))) { s with heap:=Cm s.o c d f i}):=
 .of_wp λp w A R s h=>by
  let#[m,g,dd,l,os]:=s;let#[q,o,h]:=h;let sub:=sub_zip;cases c with
  | true =>
   let n:AZ (Gx #[m,g,dd,l,os]) f xs:=q;cases d with
   | true =>
    let k:AZ (Gx #[m.R { cls:=.type "tuple_iterator",data:=.fields [.ref f,.int 0 0].e},g,dd,l,os]) i ys:=o.R _
    wp_walk using Pq n,Pq k
    exact#[_,rfl,h]
   | false =>
    let k:A' (Gx #[m.R { cls:=.type "tuple_iterator",data:=.fields [.ref f,.int 0 0].e},g,dd,l,os]) i ys:=o.R _
    wp_walk using Pq n,V1 k
    exact#[_,rfl,h]
  | false =>
   let n:A' (Gx #[m,g,dd,l,os]) f xs:=q;cases d with
   | true =>
    let k:AZ (Gx #[m.R { cls:=.type "list_iterator",data:=.fields [.ref f,.int 0 0].e},g,dd,l,os]) i ys:=o.R _
    wp_walk using V1 n,Pq k
    exact#[_,rfl,h]
   | false =>
    let k:A' (Gx #[m.R { cls:=.type "list_iterator",data:=.fields [.ref f,.int 0 0].e},g,dd,l,os]) i ys:=o.R _
    wp_walk using V1 n,V1 k
    exact#[_,rfl,h]
def Sq(c:cg)(K:eM)(H:Hp)(a:fy)(xs:bf V):ck:=match c with
 | true=>eR K H a xs| false=>fb K H a xs
def lp.sq(I:lp X kI i H s)(h:Sq c X.K H a xs):∃its:bf fx,Vals xs its/\fY c s.o a its.toArray:=by
 cases c with
 | true =>let#[its,r,p,_]:=I.tuple h;exact#[its,r,p]| false =>let#[its,r,p,_]:=I.list h;let#[o,e,g,f]:=p.Y;exact#[its,r,o,e,g,f]
end L2
namespace L3
open PySem PySem.Spec PyProof.Rows L2
def uW(G:Gp):D->b0 (bf D)
 | .tup f=>du f| .ref a=>bt (G a)| _=>dv
def wz3{K:eM}{G:Gp}{i:Hp}{x:D}{v:V}{ds:bf D}(r:af K i x v)(n:cx K G i)(h:uW G x=du ds):∃c a,v=.ref a/\(∃xs,Sq c K i a xs)/\∀j f,Le i f->cx K j f->uW j x=du ds->∃xs,Sq c K f a xs/\ah K f ds xs:=by
 cases x with
 | tup o =>cases h;let#[a,xs,rfl,g,k]:=r.aU;exact#[dS,a,rfl,#[xs,g],λj f l c _=>#[xs,l.Ic g,ah.le l k]]
 | ref a =>cases r.ao;let#[xs,g,k]:=ft n h;apply#[eH,a,rfl,#[xs,g],λj f l c m=>ft c m]
 | _=>cases h
end L3
namespace L3
open PySem PySem.Spec PyProof.Rows L2 Rw
mutual
def eA:ai->bf ai
 | .is x a=>[.is x a]| .op x o a b=>[.op x o a b]| .e_ a f g=>[.e_ a (aF f) (aF g)]| .fN k f=>(C7 k (aF f)).C
def aF:bf ai->bf ai
 | []=>[]| r::f=>eA r++aF f
end
theorem QO:∀{a b:bf ai},aF (a++b)=aF a++aF b
 | [],b=>rfl| r::a,b=>by show eA r++aF (a++b)=(eA r++aF a)++aF b;rw[QO,D5]
theorem vd2:∀k:br,cC (C7 k ys).C=k*cC ys
 | 0=>by simp[cC]| k+1=>by rw[K4,N4,Ft,vd2 k,Z6];omega
theorem v65(h:aW ys<=d):∀k:br,aW (C7 k ys).C<=d
 | 0=>by simp[aW]| k+1=>by let:=v65 h k;rw[K4,N4,AS];omega
mutual
def yq:ai->ck
 | .is _ _=>dm| .op _ _ _ _=>dm| .e_ _ f g=>gf f/\gf g| .fN _ _=>b8
def gf:bf ai->ck
 | []=>dm| r::f=>yq r/\gf f
end
theorem fP:∀{a b:bf ai},gf (a++b)↔gf a/\gf b
 | [],b=>by simp[gf]| r::a,b=>by show yq r/\gf (a++b)↔(yq r/\gf a)/\gf b;rw[fP,and_assoc]
theorem vh6(h:gf ys):∀k:br,gf (C7 k ys).C
 | 0=>trivial| k+1=>by rw[K4,N4];exact fP.mpr #[h,vh6 h k]
mutual
theorem Xf:∀r:ai,cC (eA r)=mK r
 | .is _ _=>rfl| .op _ _ _ _=>rfl| .e_ a f g=>by let i:=Fp f;let h:=Fp g;show(1+cC (aF f)+cC (aF g))+0=1+bS f+bS g;omega| .fN k f=>by show cC (C7 k (aF f)).C=k*bS f;rw[vd2,Fp f]
theorem Fp:∀rs:bf ai,cC (aF rs)=bS rs
 | []=>rfl| r::rs=>by show cC (eA r++aF rs)=mK r+bS rs;rw[Ft,Xf r,Fp rs]
end
mutual
theorem wo3:∀r:ai,aW (eA r)<=lE r
 | .is _ _=>B9 _| .op _ _ _ _=>B9 _| .e_ a f g=>by let h:=HC f;let i:=HC g;rw[show aW (eA (.e_ a f g))=1+max (aW (aF f)) (aW (aF g)) from Nat.max_zero _];exact Nv (vi.mpr #[D4 h (NJ _ _),D4 i (uZ _ _)]) 1| .fN k f=>by let h:=HC f;show aW (C7 k (aF f)).C<=1+aW f;exact v65 () k
theorem HC:∀rs:bf ai,aW (aF rs)<=aW rs
 | []=>B9 _| r::rs=>by let g:=wo3 r;let f:=HC rs;show aW (eA r++aF rs)<=max (lE r) (aW rs);rw[AS];exact vi.mpr #[D4 g (NJ _ _),D4 f (uZ _ _)]
end
mutual
theorem x28:∀r:ai,gf (eA r)
 | .is _ _=>#[trivial,trivial]| .op _ _ _ _=>#[trivial,trivial]| .e_ a f g=>#[#[Hv f,Hv g],trivial]| .fN k f=>vh6 (Hv f) k
theorem Hv:∀rs:bf ai,gf (aF rs)
 | []=>trivial| r::rs=>fP.mpr #[x28 r,Hv rs]
end
def Hu(rs:bf ai):(aF rs).l<=bS rs:=by let:=Qf (aF rs);rw[Fp] at this;exact this
theorem Yx(ys:bf ai):∀k:br,(C7 k (bc ys)).C=bc (C7 k ys).C
 | 0=>rfl| k+1=>by rw[K4,K4,N4,N4,Yx ys k,CP]
theorem Qp:∀{rs:bf ai} {r:ai},r∈rs->mK r<=bS rs
 | s::rs,r,h=>by
  show mK r<=mK s+bS rs;rcases D9.mp h with e|e
  .subst e;omega
  .have:=Qp e;omega
theorem w71:∀{rs:bf ai} {r:ai},gf rs->r∈rs->yq r
 | s::rs,r,h,m=>by
  rcases D9.mp m with e|e
  .subst e;exact h.1
  .exact w71 h.2 e
mutual
def Bz:ai->ck
 | .is _ _=>dm| .op _ _ _ _=>dm| .e_ _ f g=>gL f/\gL g| .fN k f=>bS f<=10000000/\gL f/\k<=20
def gL:bf ai->ck
 | []=>dm| r::f=>Bz r/\gL f
end
theorem PZ:∀{rs:bf ai} {r:ai},gL rs->r∈rs->Bz r
 | s::rs,r,h,m=>by
  rcases D9.mp m with e|e
  .subst e;exact h.1
  .exact PZ h.2 e
def ut8:PU (.tup a) (.tup b) G q=(a.l+b.l<=iZ/\q (.tup (a++b)) G):=rfl
end L3
namespace L2
open PySem PySem.Spec PyProof.Rows
def vy4:entryFor table "zip.__getattribute__" = du Builtin.«object.__getattribute__» :=entryFor_alias (id':= "object.__getattribute__") (by kernel_rfl) ∅ ∅ (by kernel_rfl)
def ws6:OQ (.type "zip") "__getattr__" = pure dv:=by rw[wy,vz];kernel_rfl
def vm6:OQ (.type "zip") "keys" = pure dv:=by rw[wy,vz];kernel_rfl
def ws7(z TI TO:fy)(u:Tok):Meets (Builtin.«object.__getattribute__» ⟨[.ref z,.str "keys" u],[]⟩) (λA R s=>IsZip s.o z TI TO .none/\raisesAttr (.ref z) "keys" A R s):=
 Meets.of_wp λh w A R s f=>by
  let#[k,g,d,i,os]:=s;let#[j,f]:=f;let ty:(#[k,g,d,i,os]:fC).TypeIs (.ref z) "zip" := #[_,j,rfl];let mi:=vm6;unfold Builtin.«object.__getattribute__»;repeat(any_goals (first|assumption|wp_step))
  exact wpAny_raiseAttrError f.1 f.2 ∅
def ws9{prog:hH}{w:hL}{A:iC}{E:fx->fC->ck}{s:fC}{z TI TO:fy}{Q:b0 fx->fC->ck}(h:IsZip s.o z TI TO .none)(k:A.handled=dv) (q:∀h' tk,(∀b o,s.o.r b=du o->h'.r b=du o)->Q dv { s with heap:=h',toks:=tk}):i3 (model prog w) A (Ss (.ref z) "keys") Q E s:=by
 let#[j,g,d,tk,os]:=s;let ty:∀i,(#[j,g,d,i,os]:fC).TypeIs (.ref z) "zip" := λ_=>#[_,h,rfl];let f1:=sub_AttributeError;let t:=F.slot_zip_getattribute.q;let r:=F.slot_zip_getattribute.bind (.ref z);let p:=ws6;unfold Ss getAttrBy? getAttrBy;repeat(any_goals (first|assumption|exact ty _|((with_reducible show i3 _ _ (call (BK "zip.__getattribute__") _ _) _ _ _);apply Cj F.slot_zip_getattribute (ty _) vy4 (F.args_zip_getattribute_2 _ _) (ws7 z TI TO _) ⟨h,k,λh' i e f=>?_⟩)|wp_step))
 let#[m,l,n]:=f.there;show i3 _ _ (Tv _ _ _ _ _ _ _) _ _ _;unfold Tv;repeat(any_goals (first|assumption|wp_step))
 exact q _ _ f.keeps
section
variable{prog:hH}{w:hL}{A:iC}{E:fx->fC->ck}{s:fC}
def vq7{c d:cg}{z TI TO j i l g T:fy}{f:cg}{J:jC}{r k2:br}{xs ys:dc fx}{x y:fx}{Q:fx->fC->ck}(D:yN z TI TO j i l g)(m:yh s.o z TI TO T f)(Y:s.o.r T=du J) (Z:IsPair s.o TI (.ref j) (.ref i)) (S:eV c s.o j l r) (R:eV d s.o i g k2) (M:fY c s.o l xs) (L:fY d s.o g ys) (X:xs[r]?=du x) (U:ys[k2]?=du y) (q:∀h':hR,yh h' z TI TO T dS->eV c h' j l (r+1)->eV d h' i g (k2+1)->IsPair h' s.o.h.v x y->h'.h.v=s.o.h.v+1->(∀e o,e≠z->e≠j->e≠i->s.o.r e=du o->h'.r e=du o)->Q (.ref s.o.h.v) { s with heap:=h'}): i3 (model prog w) A (Builtin.«zip.__next__» { pos:=[.ref z]}) (λl' s'=>∃v,l'=Fin.done (Flow.ret v)/\Q v s') E s:=by
 unfold Builtin.«zip.__next__»;apply B5 (C8 ?_);apply B5 (L7 m rfl rfl ?_);apply B5 (L7 m rfl rfl ?_);apply B5 (N6 Z rfl ?_);apply B5 ?_;unfold M0;apply B5 (L7 m rfl rfl ?_);apply B5 (W.kdx_alive (a:=T) (o:=J) Y ?_);apply bu (Q:=λa I=>a=eH/\∃G,I={ s with heap:=G}/\yh G z TI TO T dS/\V4 z s.o G) ?_ ?_
 .rw[cp (by simp)];apply B5 (L7 m rfl rfl ?_);cases f with
  | true=>exact C8 #[rfl,s.o,rfl,m,rfl,λ_ _=>rfl]| false =>apply B5 (R5 m (by simp) λh' e k=>?_);exact C8 #[rfl,h',rfl,e,k]
 .intro a I #[rfl,h,rfl,N,k];simp only[K8,if_false];simp only[<- Z4,Pj,SY];let FP:eV c h j l r:=S.at λo e=>(k.2 j D.i1z).u e;let KC:eV d h i g k2:=R.at λo e=>(k.2 i D.i2z).u e;let B:fY c h l xs:=M.at λo e=>(k.2 l D.l1z).u e;let u:fY d h g ys:=L.at λo e=>(k.2 g D.l2z).u e;apply B5 (B5 (B5 (O0 ?_)));apply B5 (Hs FP B X λh' a1 n=>?_);apply C8 ?_;apply C8 ?_;let ZN:eV d h' i g k2:=KC.at λo e=>(n.2 i (E1 D.i12)).u e;let ZC:fY d h' g ys:=u.at λo e=>(n.2 g D.l2i1).u e;apply B5 (B5 (O0 ?_));apply B5 (Hs ZN ZC U λt a2 p=>?_);apply C8 ?_;apply C8 ?_;apply C8 ?_;apply B5 (wpAny_newTuple ?_ (by simp;decide));let C:t.h.v=s.o.h.v:=p.1.u (n.1.u k.1);apply C8 #[_,rfl,?_];show Q (.ref t.h.v) _;rw[C];let O:∀c o,c≠z->c≠j->c≠i->s.o.r c=du o->t.r c=du o:=λc o c1 c2 H e=>(p.2 c H).u ((n.2 c c2).u ((k.2 c c1).u e));apply q _ ?_ ?_ ?_ ?_ ?_ λc o c1 c2 H e=>B8 _ (O c o c1 c2 H e)
  .exact B8 _ ((p.2 z (E1 D.i2z)).u ((n.2 z (E1 D.i1z)).u N))
  .exact a1.at λo e=>B8 _ ((p.2 j D.i12).u e)
  .exact a2.at λo e=>B8 _ e
  .rw[<- C];exact E7 _ rfl
  .show(t.R _).h.v=_;rw[<- C];simp[Heap.push]
def w90{c d:cg}{z TI TO j l k u T:fy}{f:cg}{p:jC}{r k2:br}{xs ys:dc fx}{Q:Q'->fC->ck}(hh:A.handled=dv)(D:yN z TI TO j l k u)(g:yh s.o z TI TO T f)(C:s.o.r T=du p) (G:IsPair s.o TI (.ref j) (.ref l)) (x:eV c s.o j k r) (t:fY c s.o k xs) (y:xs[r]?=dv) (q:∀(h':hR) (e:fy),(∀e o,e≠z->e≠j->e≠l->s.o.r e=du o->h'.r e=du o)->(∃o,h'.r e=du o/\o.cls=.type "StopIteration")->E (.ref e) { s with heap:=h'}): i3 (model prog w) A (Builtin.«zip.__next__» { pos:=[.ref z]}) Q E s:=by
 unfold Builtin.«zip.__next__»;apply B5 (C8 ?_);apply B5 (L7 g rfl rfl ?_);apply B5 (L7 g rfl rfl ?_);apply B5 (N6 G rfl ?_);apply B5 ?_;unfold M0;apply B5 (L7 g rfl rfl ?_);apply B5 (W.kdx_alive (a:=T) (o:=p) C ?_);apply bu (Q:=λa n=>a=eH/\∃m,n={ s with heap:=m}/\yh m z TI TO T dS/\V4 z s.o m) ?_ ?_
 .rw[cp (by simp)];apply B5 (L7 g rfl rfl ?_);cases f with
  | true=>exact C8 #[rfl,s.o,rfl,g,rfl,λ_ _=>rfl]| false =>apply B5 (R5 g (by simp) λh' e i=>?_);exact C8 #[rfl,h',rfl,e,i]
 .intro a n #[rfl,h,rfl,H,i];simp only[K8,if_false];simp only[<- Z4,Pj,SY];apply B5 (B5 (B5 (O0 ?_)));apply B5 (Xd hh (x.at λo e=>(i.2 j D.i1z).u e) (t.at λo e=>(i.2 k D.l1z).u e) y λh' e ext B=>?_);exact q h' e (λc o c1 c2 I e=>ext c o c2 ((i.2 c c1).u e)) B
def vq6{c d:cg}{z TI TO h g j i T:fy}{f:cg}{m:jC}{k k2:br}{xs ys:dc fx}{x y:fx}{Q:b0 fx->fC->ck}(D:yN z TI TO h g j i)(l:yh s.o z TI TO T f)(C:s.o.r T=du m) (G:IsPair s.o TI (.ref h) (.ref g)) (t:eV c s.o h j k) (r:eV d s.o g i k2) (p:fY c s.o j xs) (n:fY d s.o i ys) (B:xs[k]?=du x) (u:ys[k2]?=du y) (q:∀h':hR,yh h' z TI TO T dS->eV c h' h j (k+1)->eV d h' g i (k2+1)->IsPair h' s.o.h.v x y->h'.h.v=s.o.h.v+1->(∀e o,e≠z->e≠h->e≠g->s.o.r e=du o->h'.r e=du o)->Q (du (.ref s.o.h.v)) { s with heap:=h'}): i3 (model prog w) A (pyNext (.ref z)) Q E s:=by
 let ty:s.TypeIs (.ref z) "zip" := #[_,l,rfl];apply B5 (SR (P4 ty F.slot_zip_next (Q3 F.slot_zip_next ty F.entry_zip_next ?_ (F.args_zip_next_1 (.ref z)))));exact vq7 D l C G t r p n B u λh' N M L J I H=>C8 (q h' N M L J I H)
def vq5{c d:cg}{z TI TO g j h n T:fy}{f:cg}{l:jC}{i:br}{xs:dc fx}{Q:b0 fx->fC->ck}(hh:A.handled=dv)(D:yN z TI TO g j h n)(k:yh s.o z TI TO T f)(u:s.o.r T=du l) (x:IsPair s.o TI (.ref g) (.ref j)) (p:eV c s.o g h i) (m:fY c s.o h xs) (r:xs[i]?=dv) (q:∀h':hR,(∀e o,e≠z->e≠g->e≠j->s.o.r e=du o->h'.r e=du o)->Q dv { s with heap:=h'}):i3 (model prog w) A (pyNext (.ref z)) Q E s:=by
 let ty:s.TypeIs (.ref z) "zip" := #[_,k,rfl];apply B5 (SR (P4 ty F.slot_zip_next (Q3 F.slot_zip_next ty F.entry_zip_next ?_ (F.args_zip_next_1 (.ref z)))));apply w90 (d:=d) (k2:=i) (ys:=xs) hh D k u x p m r λh' e t ⟨o,B,y⟩=>?_;exact B5 (Pk #[o,B,y] isSubtype_stop (C8 (q h' t)))
end
structure uD8(c d:cg)(l1 l2 z TI TO i1 i2 S:fy)(xs ys:dc fx)(i:br)(h:hR):Prop where
 zz:IsZip h z TI TO .none\/∃T f oT,yh h z TI TO T f/\h.r T=du oT/\T≠z/\T≠TO/\T≠i1/\T≠i2/\T≠S
 ti:IsPair h TI (.ref i1) (.ref i2)
 to:∃u v,IsPair h TO u v
 h1:eV c h i1 l1 i
 h2:eV d h i2 l2 i
 m1:fY c h l1 xs
 m2:fY d h l2 ys
def putAll:bf lR->bf V->bf (lR×V)->bf (lR×V)
 | k::g,v::f,kvs=>putAll g f (putK kvs k v)| _,_,kvs=>kvs
def QX:entryFor table "dict.update.loop" = du Builtin.«dict.update.loop»:=entryFor_of_tree (by kernel_rfl)
def AU:plainId "dict.update.loop" = dS:=∅
def ws8{prog:hH}{w:hL}{A:iC}{s:fC}{R:Result->fC->ck}{c d:cg}{N M z TI TO E C S:fy}{xs ys:dc fx}{h1:hR}(hh:A.in1.handled=dv)(D:yN z TI TO E C N M)(hS:S≠z/\S≠TI/\S≠TO/\S≠E/\S≠C/\S≠N/\S≠M) {ks:bf lR} {rv:bf V} (rk:Vals (ks.t kV) xs.L) (rr:Vals rv ys.L) (hn:ks.l=rv.l) (hz:ks.l<=1000) (q:∀(h':hR) (tk:br) (vs:bf (lR×fx)),(∀b o,b≠S->b≠z->b≠TO->b≠E->b≠C->h1.r b=du o->h'.r b=du o)->KV (putAll ks rv []) vs->h'.DictOf (eW prog w) S vs->R (.ok (.ret .none)) { s with heap:=h',toks:=tk}): ∀(k i:br) (h:hR) (tk:br) (ii:bz) (kvs:bf (lR×V)) (vs:bf (lR×fx)),ks.l-i=k->i<=ks.l->uD8 c d N M z TI TO E C S xs ys i h->KV kvs vs->h.DictOf (eW prog w) S vs->kvs.l<=i->putAll (ks.G i) (rv.G i) kvs=putAll ks rv [] -> (∀b o,b≠S->b≠z->b≠TO->b≠E->b≠C->h1.r b=du o->h.r b=du o)->uO (model prog w) A (.builtin "dict.update.loop" { pos:=[.ref S,.ref z,rawInt ii,.none]}) R { s with heap:=h,toks:=tk}:=by
 let#[S1,S2,S3,S4,S5,S6,S7]:=hS;let lx:xs.v=ks.l:=by let:=rk.l;simp at this;omega
 let ly:ys.v=ks.l:=by let:=rr.l;simp at this;omega
 intro k;induction k with
 | zero =>
  intro i h tk ii kvs vs hk hi st l dd hl he kp;let hi:i=ks.l:=()
  subst hi;let I:xs[ks.l]?=dv:=by simp[lx]
  let uy:putAll ks rv []=kvs:=by rw[<- he,Lj];rfl
  apply Tb QX ?_;rw[TC AU];rcases st.zz with p|⟨T,f,L,p,J,T1,T2,T3,Z,Y⟩
  .let#[u,v,to]:=st.to;apply B5 (w91 (s:={ s with heap:=h,toks:=tk}) hh D p st.ti to st.h1 st.h2 st.m1 st.m2 (.inl I) λh' O=>?_);apply B5 (C8 (C8 ?_));exact q h' tk vs (λb o t r n j g e=>O b o r n j g (kp b o t r n j g e)) (by rw[uy];exact l) (dd.at λo e=>O S o S1 S3 S4 S5 e)
  .apply B5 (vq5 (s:={ s with heap:=h,toks:=tk}) (d:=d) hh D p J st.ti st.h1 st.m1 I λh' O=>?_);apply B5 (C8 (C8 ?_));exact q h' tk vs (λb o t r n j g e=>O b o r j g (kp b o t r n j g e)) (by rw[uy];exact l) (dd.at λo e=>O S o S1 S4 S5 e)
 | succ k ih =>
  intro i h tk ii kvs vs hk hi st l dd hl he kp;let dO:i<ks.l:=()
  let I:xs[i]?=du (xs[i]'()):=Dg _;let hy:ys[i]?=du (ys[i]'()):=Dg _;obtain⟨B,ek⟩:∃B,ks[i]?=du B:=#[ks[i],B6 dO];obtain⟨G,ev⟩:∃G,rv[i]?=du G:=#[rv[i]'(),B6 _];let rkk:RelV (kV B) (xs[i]'()):=by
   let#[u,Q,ru]:=rk.get (i:=i) (x:=kV B) (by rw[F5,ek];rfl);let:u=xs[i]'():=by simp only[TK,I] at Q;exact(E8 Q).M
   rw[<- this];exact ru
  let rvv:RelV G (ys[i]'()):=by
   let#[u,Q,ru]:=rr.get ev;let:u=ys[i]'():=by simp only[TK,hy] at Q;exact(E8 Q).M
   rw[<- this];exact ru
  let Lu:putAll (ks.G (i+1)) (rv.G (i+1)) (putK kvs B G)=putAll ks rv []:=by
   rw[<- he];let e1:ks.G i=B::ks.G (i+1):=by rw[O7 dO];congr 1;exact E8 ((B6 dO).M.u ek)
   let e2:rv.G i=G::rv.G (i+1):=by rw[O7 ()];congr 1;exact E8 ((B6 ()).M.u ev)
   rw[e1,e2];rfl
  apply Tb QX ?_;rw[TC AU];let hsz:vs.l<=iZ:=by rw[<- l.l];exact D4 (m:=1000) () ∅
  let go:∀h':hR,(∃T f L,yh h' z TI TO T f/\h'.r T=du L/\T≠z/\T≠TO/\T≠E/\T≠C/\T≠S)->(∃u v,IsPair h' TO u v)->eV c h' E N (i+1)->eV d h' C M (i+1)->IsPair h' h.h.v (xs[i]'()) (ys[i]'())->(∀c o,c≠z->c≠TO->c≠E->c≠C->h.r c=du o->h'.r c=du o) ->
    i3 (model prog w) A.in1 (dictSet S (xs[i]'()) (ys[i]'())) (λ_ s1=>i3 (model prog w) A.in1 (again (.builtin "dict.update.loop" { pos:=[.ref S,.ref z,rawInt (ii+1),.none]}))
     (λl' H=>match l' with|.done f=>R (.ok f) H|.again c'=>c'.quiet=dS/\uO (model prog w) A c' R H) (λe H=>R (.error e) H) s1) (λe H=>R (.error e) H) { s with heap:=h',toks:=tk}:=by
   rintro h' ⟨T,f,L,p,J,T1,T2,T3,Z,Y⟩ ⟨u,v,to⟩ a1 a2 a3 X;let sx:h'.DictOf (eW prog w) S vs:=dd.at λo e=>X S o S1 S3 S4 S5 e;apply wpAny_dictSet_pairs (s:={ s with heap:=h',toks:=tk}) (hsz:=hsz) (CB rkk) sx λEj yH dz=>?_;apply C8 #[SQ AU _,?_];let y:∀b o,b≠S->h'.r b=du o->Ej.r b=du o:=λb o hb e=>(dz.2 b hb).u e;let hlp:=CQ kvs B G;apply ih (i+1) _ _ _ (putK kvs B G) _ () dO #[.inr #[T,f,L,y _ _ (E1 S1) p,y _ _ Y J,T1,T2,T3,Z,Y],y _ _ (E1 S2) (X TI _ D.TIz D.TITO D.TIi1 D.TIi2 st.ti),#[u,v,y _ _ (E1 S3) to],a1.at λo e=>y _ _ (E1 S4) e,a2.at λo e=>y _ _ (E1 S5) e,st.m1.at λo e=>y _ _ (E1 S6) (X N _ D.l1z D.l1TO D.l1i1 D.l1i2 e),st.m2.at λo e=>y _ _ (E1 S7) (X M _ D.l2z D.l2TO D.l2i1 D.l2i2 e)] (l.put B rvv) yH () Lu λb o t r n j g e=>y b o t (X b o r n j g (kp b o t r n j g e))
  rcases st.zz with p|⟨T,f,L,p,J,T1,T2,T3,Z,Y⟩
  .let#[u,v,to]:=st.to;let ne:∀{b o},h.r b=du o->h.h.v≠b:=λe=>Z5 (E4 e);apply B5 (w92 (s:={ s with heap:=h,toks:=tk}) D p st.ti to st.h1 st.h2 st.m1 st.m2 I hy λh' t r n j g b6 U=>?_);let neS:h.h.v≠S:=by let#[o,_,_,e,_]:=dd;exact ne e
   let:=go h' #[h.h.v,eH,_,t,g,ne p,ne to,(by let#[o,e,_]:=st.h1;exact ne e),(by let#[o,e,_]:=st.h2;exact ne e),neS] #[_,_,r] n j g U;apply B5 (O0 (B5 (wG ?_)));unfold zR;apply B5 (Gz #[_,g,rfl] ?_);rw[cu ∅];apply B5 (N6 g rfl (C8 ?_));exact O0 this
  .apply B5 (vq6 (s:={ s with heap:=h,toks:=tk}) D p J st.ti st.h1 st.h2 st.m1 st.m2 I hy λh' t n j g b6 U=>?_);let#[u,v,to]:=st.to;let:=go h' #[T,dS,_,t,U T _ T1 T3 Z J,T1,T2,T3,Z,Y] #[u,v,U TO _ D.TOz D.TOi1 D.TOi2 to] n j g λc o c1 c2 c3 c4 e=>U c o c1 c3 c4 e;apply B5 (O0 (B5 (wG ?_)));unfold zR;apply B5 (Gz #[_,g,rfl] ?_);rw[cu ∅];apply B5 (N6 g rfl (C8 ?_));exact O0 this
section
variable{prog:hH}{w:hL}{A:iC}{E:fx->fC->ck}{s:fC}
def vq8(B:fY c s.o f xs)(y:fY d s.o g ys) (q:∀h',IsZip h' (s.o.h.v+4) (s.o.h.v+2) (s.o.h.v+3) .none->IsPair h' (s.o.h.v+2) (.ref s.o.h.v) (.ref (s.o.h.v+1))->IsPair h' (s.o.h.v+3) .none .none -> eV c h' s.o.h.v f 0->eV d h' (s.o.h.v+1) g 0->h'.h.v=s.o.h.v+5->(∀e o,s.o.r e=du o->h'.r e=du o)->Q (.ref (s.o.h.v+4)) { s with heap:=h'}): i3 (model prog w) A (call (.type "zip") [.ref f,.ref g]) Q E s:=by
 apply callType_new F.called_zip ∅ (F.typeCall_zip_2 _ _) (F.newCall_zip_2 _ _) (λi=>F.args_object_init_3 i _ _) F.entry_zip_new (wv8 c d f g xs ys) #[B,y,?_];let m:(Pw s.o c f).h.v=s.o.h.v+1:=U2 ..;let l:(Pu s.o c d f g).h.v=s.o.h.v+2:=by rw[U2,m]
 let k:(Pt s.o c d f g).h.v=s.o.h.v+3:=by rw[U2,l]
 let j:(Pr s.o c d f g).h.v=s.o.h.v+4:=by rw[U2,k]
 let u:(Cm s.o c d f g).h.v=s.o.h.v+5:=by rw[U2,j]
 let h:(Cm s.o c d f g).r (Pr s.o c d f g).h.v=du _:=E7 _ rfl;let n:(Cm s.o c d f g).r (Pt s.o c d f g).h.v=du _:=B8 _ (E7 _ rfl);let p:(Cm s.o c d f g).r (Pu s.o c d f g).h.v=du _:=B8 _ (B8 _ (E7 _ rfl));let r:(Cm s.o c d f g).r (Pw s.o c f).h.v=du _:=B8 _ (B8 _ (B8 _ (E7 _ rfl)));let t:(Cm s.o c d f g).r s.o.h.v=du _:=B8 _ (B8 _ (B8 _ (B8 _ (E7 _ rfl))));show _/\_;rw[l,k,j] at h;rw[m,l] at p;rw[k] at n;rw[m] at r;rw[j];apply#[#[_,h,rfl],q _ h p n #[_,t,rfl,rfl] #[_,r,rfl,rfl] u λe o x=>?_];exact B8 _ (B8 _ (B8 _ (B8 _ (B8 _ x))))
end
def ut1{prog:hH}{w:hL}{A:iC}{E:fx->fC->ck}{s:fC}{c d:cg}{m l z TI TO k j:fy}{xs ys:dc fx}{Q:fx->fC->ck}(hh:A.in1.in1.handled=dv)(D:yN z TI TO k j m l) (h:IsZip s.o z TI TO .none) (r:IsPair s.o TI (.ref k) (.ref j)) (to:∃u v,IsPair s.o TO u v) (h1:eV c s.o k m 0) (n:eV d s.o j l 0) (y:fY c s.o m xs) (x:fY d s.o l ys) {ks:bf lR} {rv:bf V} (H:Vals (ks.t kV) xs.L) (G:Vals rv ys.L) (M:ks.l=rv.l) (L:ks.l<=1000) (q:∀(h':hR) (tk:br) (vs:bf (lR×fx)),(∀b o,b≠z->b≠TO->b≠k->b≠j->s.o.r b=du o->h'.r b=du o)->KV (putAll ks rv []) vs->h'.DictOf (eW prog w) s.o.h.v vs->Q (.ref s.o.h.v) { s with heap:=h',toks:=tk}): i3 (model prog w) A (call (.type "dict") [.ref z]) Q E s:=by
 apply callType_codes (Q₁:=λi t=>i=.ref s.o.h.v/\t={ s with heap:=s.o.R { cls:=.type "dict",data:=.dict [].e}}) F.kt_called_dict (F.kt_typeCall_dict_1 (.ref z)) F.entry_dict_init (kt_code_dict_new (.ref z) #[rfl,rfl]) λi t J=>?_;let#[O,N]:=J;subst O;subst N;let ed:(s.o.R { cls:=.type "dict",data:=.dict [].e}).DictOf (eW prog w) s.o.h.v []:=BG s.o;let up:∀b o,s.o.r b=du o->(s.o.R { cls:=.type "dict",data:=.dict [].e}).r b=du o:=λb o e=>B8 _ e;let ne:∀{b o},s.o.r b=du o->s.o.h.v≠b:=λe=>Z5 (E4 e);let#[u,v,to]:=to;apply#[ed.B,F.args_dict_init_2 _ _,?_];unfold Builtin.«dict.__init__» Rr;apply B5 (B5 (wpAny_notOrdered_dict ed.B (C8 ?_)));show i3 _ _ (Y9 "dict.__init__" s.o.h.v (.ref z) [] .none) _ _ { s with heap:=s.o.R { cls:=.type "dict",data:=.dict [].e}};unfold Y9;apply B5 (Gz #[_,up _ _ h,rfl] ?_);rw[cu ∅];apply B5 (ws9 (s:={ s with heap:=s.o.R { cls:=.type "dict",data:=.dict [].e}}) (up _ _ h) hh λh' tk B=>?_);simp only[Ow,if_true];apply B5 (EK ?_);let f:∀b o,s.o.r b=du o->h'.r b=du o:=λb o e=>B b o (up b o e);apply B5 (wpAny_pyIter_zip (s:={ s with heap:=h',toks:=tk}) (f _ _ h) ?_);apply C8 #[SQ AU _,?_];let Z:s.o.h.v≠z/\s.o.h.v≠TI/\s.o.h.v≠TO/\s.o.h.v≠k/\s.o.h.v≠j/\s.o.h.v≠m/\s.o.h.v≠l:=by
  apply#[ne h,ne r,ne to,?_,?_,?_,?_]
  .let#[o,e,_]:=h1;exact ne e
  .let#[o,e,_]:=n;exact ne e
  .let#[o,e,_]:=y;exact ne e
  .let#[o,e,_]:=x;exact ne e
 apply ws8 (s:=s) (h1:=h') (c:=c) (d:=d) hh D Z H G M L (λn Y vs I p dd=>#[rfl,q n Y vs (λb o X U S R e=>I b o (E1 (ne e)) X U S R (f b o e)) p dd]) ks.l 0 h' tk 0 [] [] rfl (J8 _)
  #[.inl (f _ _ h),f _ _ r,#[u,v,f _ _ to],h1.at λo e=>f _ _ e,n.at λo e=>f _ _ e,y.at λo e=>f _ _ e,x.at λo e=>f _ _ e] .nil (ed.at λo e=>B _ _ e) (B9 _) rfl λb o _ _ _ _ _ e=>e
def v30(K:eM)(k:TA):TE:=λi H Q=>k i H λj g=>∃c d a b f h,j=[.ref a,.ref b]/\Sq c K g a (f.t kV)/\Sq d K g b h/\f.l=h.l/\f.l<=1000/\∀p,g p=dv->Q (.ref p) (l6 g p (.dK (putAll f h [])))
theorem YA:∀(ks:bf lR) (rv:bf V) (kvs:bf (lR×V)),(putAll ks rv kvs).l<=ks.l+kvs.l
 | [],_,kvs=>by simp[putAll]| _::_,[],kvs=>by simp[putAll]| k::ks,v::rv,kvs=>by let g:=YA ks rv (putK kvs k v);let f:=CQ kvs k v;show(putAll ks rv (putK kvs k v)).l<=(ks.l+1)+kvs.l;omega
def v90{X:Cx}{a b:gI}{N:TA}{p p2 pos O:jU}{k:br}(hr:aZ k X.A)(hg:Gl X "zip")(hm:X.mg "zip" = dv)(Z:Gl X "dict")(fA:X.mg "dict" = dv)(ha:PA X [a,b] N) (hs:D2 [a,b] X.f=(eH,eval a X.f)::D2 [b] X.env:=by rfl) (DH:(backTo pos (D2 [b] X.f)).any (·.1)=eH:=by rfl)
  (S:D2 [.Call (.Name "zip" p) [a,b] [] pos] X.f=[(eH,eval (.Call (.Name "zip" p) [a,b] [] pos) X.f)]:=by rfl):
  PE X (.Call (.Name "dict" p2) [.Call (.Name "zip" p) [a,b] [] pos] [] O) (v30 X.K N):=by
 intro kI s U H Q I h;apply O8 (sI I Z fA (show R9 "dict" = du (.type "dict") by decide) ?_);apply J9 ?_ S rfl;rw[S];show i3 _ _ (spliced ((eH,eval (.Call (.Name "zip" p) [a,b] [] pos) X.f)::backTo O [])) _ _ s;apply R4 ?_;apply O8 (sI I hg hm boot_zip (J9 (bu (ha pos kI s U H _ I h) λus u ⟨M,H1,t,C,q1⟩=>?_) hs DH));let#[c,d,l,m,i,g,e,hq,nZ,hn,R,q]:=q1;subst e;cases C with
 | cons r x =>
  cases x with
  | cons B x =>
   cases x;cases r;cases B;let#[its,C,E]:=t.sq hq;let#[bE,B,L]:=t.sq nZ;let Y:l<u.o.h.v:=by let#[o,e,_]:=E;exact E4 e
   let J:m<u.o.h.v:=by let#[o,e,_]:=L;exact E4 e
   apply vq8 E L λn k1 k2 k3 k4 k5 k6 G=>?_;apply U6 ?_;apply ut1 hr.hd (zipApart_new Y J) k1 k2 #[_,_,k3] k4 k5 (E.at λo e=>G _ _ e) (L.at λo e=>G _ _ e) (ks:=i) (rv:=g) (by simpa using C) (by simpa using B) hn R λh' tk M kp y dd=>?_;let Kw:∀b o,u.o.r b=du o->h'.r b=du o:=λb o e=>kp b o (J7 (C9 (E4 e) (U0 _ _))) (J7 (C9 (E4 e) (U0 _ _))) (J7 (E4 e)) (J7 (C9 (E4 e) (U0 _ _))) (G b o e);let f:u.o.h.v<=n.h.v:=by rw[k6];exact U0 _ _
   let hp:H1 n.h.v=dv:=t.aB.y f;let j:(putAll i g []).l<=iZ:=D4 (YA i g []) (D4 (m:=1000) (by simpa using R) ∅);let DD:(n.h.v==R8)=eH:=beq_eq_false_iff_ne.mpr (Z5 (C9 t.big f));let I2:=t.laid (a:=n.h.v) (t':=tk) (o:=.dK (putAll i g [])) Kw f #[j,DD,M,y,dd];exact#[.ref n.h.v,_,I2,rfl,q _ hp]
end L2
namespace L3
open PySem PySem.Spec PyProof.Rows L2
def dq(kvs:bf (lR×D))(k:lR):b0 D:=(kvs.find? λf=>decide (f.1=k)).t (·.2)
def oi(kvs:bf (lR×D))(k:lR)(v:D):bf (lR×D):=if(kvs.any λf=>decide (f.1=k))=dS then kvs.t (λf=>if f.1=k then(f.1,v) else f) else kvs++[(k,v)]
def uT:bf lR->bf D->bf (lR×D)->bf (lR×D)
 | k::g,v::f,kvs=>uT g f (oi kvs k v)| _,_,kvs=>kvs
section
variable{X:Cx}{K:eM}{G:Gp}{H:Hp}{p:fy}
theorem HF:∀{kvs:bf (lR×D)} {ys:bf (lR×V)},aG K H kvs ys->(dq kvs k=dv/\dA ys k=dv)\/∃d v,dq kvs k=du d/\dA ys k=du v/\af K H d v
 | [],ys,⟨f,i⟩=>by
  let:ys=[]:=by cases ys with|nil=>rfl|cons y ys=>simp at f
  subst this;exact .inl #[rfl,rfl]
 | (g,d)::kvs,[],⟨f,i⟩=>by simp at f| (g,d)::kvs,(q,v)::ys,⟨f,i⟩=>by
  rw[C1,C1] at f;let#[l,u]:=R6 f;let l:g=q:=l;subst l;let#[x,B,m,o,n]:=i.aq;rw[C1] at m;let#[j,t]:=R6 m;let j:v=x:=j;subst j;by_cases h:g=k
  .right;exact#[d,v,by simp[dq,M6,h],Fz h,o]
  .have r:=HF (k:=k) (kvs:=kvs) (ys:=ys) #[u,by rw[t];exact n];let A:dq ((g,d)::kvs) k=dq kvs k:=by simp[dq,M6,h]
   rw[A,Fx h];exact r
theorem v51(q:af K H d v):∀{kvs:bf (lR×D)} {ys:bf (lR×V)},aG K H kvs ys->aG K H (kvs.t (λf=>if f.1=k then(f.1,d) else f)) (ys.t (λf=>if f.1=k then(f.1,v) else f))/\(kvs.any λf=>decide (f.1=k))=(ys.any λf=>decide (f.1=k))
 | [],ys,⟨g,j⟩=>by
  let:ys=[]:=by cases ys with|nil=>rfl|cons y ys=>simp at g
  subst this;exact#[#[rfl,.nil],rfl]
 | (h,J)::kvs,[],⟨g,j⟩=>by simp at g| (h,J)::kvs,(A,r)::ys,⟨g,j⟩=>by
  rw[C1,C1] at g;let#[m,I]:=R6 g;let m:h=A:=m;subst m;let#[x,L,o,u,t]:=j.aq;rw[C1] at o;let#[l,E]:=R6 o;let l:r=x:=l;subst l;let#[#[C,n],B]:=v51 (k:=k) q (kvs:=kvs) (ys:=ys) #[I,by rw[E];exact t];apply#[#[?_,?_],by rw[P7,P7,B]]
  .rw[C1,C1,C1,C1,C];by_cases i:h=k <;> simp[i]
  .rw[C1,C1,C1,C1];by_cases i:h=k
   .simp only[i,if_true];exact .cons q n
   .simp only[i,if_false];exact .cons u n
def Ye(q:af K H d v)(h:aG K H kvs ys):aG K H (oi kvs k d) (putK ys k v):=by
 let#[g,f]:=v51 (k:=k) q h;unfold oi putK;rw[f];split
 .exact g
 .exact#[by rw[B7,B7,h.1];rfl,by rw[B7,B7];exact h.2.fj (.cons q .nil)]
theorem YB:∀{ks:bf lR} {ds:bf D} {vs:bf V} {kvs:bf (lR×D)} {ys:bf (lR×V)},ah K H ds vs->aG K H kvs ys->aG K H (uT ks ds kvs) (putAll ks vs ys)
 | [],_,_,_,_,_,h=>h| _::_,[],vs,_,_,r,h=>by rw[r.aX];exact h| k::ks,d::ds,vs,kvs,ys,r,h=>by let#[x,i,rfl,g,f]:=r.aq;exact YB (ks:=ks) f (Ye g h)
def CH(r:af K H (kD k) v):v=kV k:=by
 cases k with
 | inl i=>exact(show af K H (.int i) v from r).O| inr x=>exact(show af K H (.str x) v from r).fi
def yd(i h:bI):bI:=λf G q=>i f G λx j=>h f j λy g=>∃a kvs k d,x=.ref a/\y=kD k/\g a=du (.bR kvs)/\dq kvs k=du d/\q d g
def vw9(h:aQ K (yd C B) o H Q):WD (aQ K C) (aQ K B) o H Q:=by
 let#[g,G,q,j,c,t,f]:=h;apply#[g,G,_,j,c,t,λx S v H1 N c1 m J=>#[g,S,_,j.le m,c1,J,λy G2 u Z M c2 l I=>?_]];let#[a,kvs,k,d,rfl,rfl,O,n,E]:=I;let R:=af.le l N;cases R.ao;obtain rfl:=CH M;let#[U,e,L]:=c2 a _ O;rcases HF (k:=k) L with⟨z,_⟩|⟨Y,w,i,A,r⟩
 .rw[n] at z;cases z
 .rw[n] at i;cases i;exact⟨a,w,rfl,by rw[<- A];exact nP.k e,f _ _ _ _ r c2 (m.u l) E⟩
def zc(h:aZ k X.A)(j:E3 X o to)(hi:E3 X i f)(g:uL i:=by exact λ_ _=>rfl):E3 X (.Subscript o i pos) (yd to f):=dW (vg5 (PK h) j hi g) λ_ _ _=>vw9
def GW(j i h:bI):fR:=λn f G=>h f G λv m=>j f m λx l=>i f l λy g=>∃(a:fy) (kvs:bf (lR×D)) (k:lR),x=.ref a/\y=kD k/\g a=du (.bR kvs)/\kvs.l<iZ/\n.nx f (aC g a (.bR (oi kvs k v)))
def QB{pos g:jU}(hr:aZ k X.A)(ho:E3 X o to)(hi:E3 X i L)(Y:E3 X value J) (Z:X4 value (du (.Subscript o i g)) pos.line X.f=pure eH:=by rfl):S3 X (.Assign [.Subscript o i g] value pos) (GW to L J):=
 qV (wm3 (PK hr) ho hi Y Z) λD σ H h=>by
  let#[j,G,d,l,c,t,f]:=h;apply#[j,G,_,l,c,t,λv G1 w H1 U c1 r Q=>#[j,G1,_,l.le r,c1,Q,λx G2 u H2 S c2 q O=>#[j,G2,_,l.le (r.u q),c2,O,λy G3 z I R E n N=>?_]]];let#[a,kvs,k,rfl,rfl,hg,hl,M]:=N;let YY:=af.le n S;cases YY.ao;obtain rfl:=CH R;let#[B,e,C]:=E a _ hg;let m:Le I (l6 I a (.dK (putK B k w))):=Le.dK e;let ZD:B.l=kvs.l:=by let:=cv J1 C.1;rw[B0,B0] at this;exact this.M
  apply#[a,_,rfl,xY.k e (by rw[ZD];exact hl),?_];apply f.nx _ _ _ _ (((l.le r).le q).le (n.u m)) ?_ (r.u (q.u (n.u m))) M;exact E.put m #[_,iL,(Ye (af.le (q.u n) U) C).le m]
def XZ(t:eD):bI:=λi G q=>t i G λj g=>match j with
 | [x,y]=>∃(f:bf lR) (h:bf D),uW g x=du (f.t kD)/\uW g y=du h/\f.l=h.l/\f.l<=1000/\∀p,g p=dv->q (.ref p) (aC g p (.bR (uT f h [])))| _=>b8
def uz4(h:aQ K (XZ t) A H Q):v30 K (eB K t) A H Q:=by
 let#[i,G,q,N,c,t,f]:=h;apply#[i,G,_,N,c,t,λds u vs r R c1 Y j=>?_];split at j
 .rename_i x y;let#[m,es,e,n,hn,hz,E]:=j;let#[v,C,rfl,M,O]:=R.aq;let#[v2,rfl,k]:=O.one;let#[k1,a,rfl,_,U]:=wz3 M c1 e;let#[Z,b,rfl,_,S]:=wz3 k c1 n;let#[xs,J,L]:=U u r (Le.j _) c1 e;let#[B,I,l]:=S u r (Le.j _) c1 n;obtain rfl:=Yf L;apply#[k1,Z,a,b,m,B,rfl,J,I,by rw[hn,l.l],hz,λp g=>?_];apply f (.ref p) _ (.ref p) _ af.fG (c1.put (o:=.bR (uT m es [])) (Le.y g) #[_,iL,?_]) (Y.u (Le.y g)) (E p (c1.y g));exact(YB l #[rfl,.nil]).le (Le.y g)
 .exact j.n
def vm4{a b:gI}{f:eD}{p h pos i:jU}{k:br}(l:aZ k X.A)(n:Gl X "zip")(m:X.mg "zip" = dv)(g:Gl X "dict")(q:X.mg "dict" = dv)(o:A3 X [a,b] f) (j:D2 [a,b] X.f=(eH,eval a X.f)::D2 [b] X.env:=by rfl) (t:(backTo pos (D2 [b] X.f)).any (·.1)=eH:=by rfl)
  (r:D2 [.Call (.Name "zip" p) [a,b] [] pos] X.f=[(eH,eval (.Call (.Name "zip" p) [a,b] [] pos) X.f)]:=by rfl):
  E3 X (.Call (.Name "dict" h) [.Call (.Name "zip" p) [a,b] [] pos] [] i) (XZ f):=dW (v90 l n m g q o j t r) λ_ _ _=>uz4
end
end L3
namespace L3
open PySem PySem.Spec PyProof.Rows L2 Rw
def iW:bf gq->gq->br
 | [],_=>0| b::f,x=>if b=x then 0 else 1+iW f x
def mE(bs:bf gq)(vs:bf br)(x:gq):br:=(vs[iW bs x]?).E 0
def fh(bs:bf gq)(vs:bf br)(x:gq)(v:br):bf br:=vs.I (iW bs x) v
def bN(bs:bf gq)(vs:bf br):bf (lR×D):=(bs.zip vs).t λp=>(Y6 p.1,D.int (p.2:bz))
theorem WW:∀{bs:bf gq} {x:gq},x∈bs->iW bs x<bs.l
 | b::bs,x,h=>by
  unfold iW;by_cases e:b=x
  .rw[cu e];simp
  .rw[cp e];let:=WW (bs:=bs) (x:=x) (by rcases D9.mp h with z|z;exact cz z.M e;exact z);simp only[C0];omega
theorem zi:∀{bs:bf gq} {vs:bf br} {x:gq},x∈bs->vs.l=bs.l->dq (bN bs vs) (.inr x)=du (.int (mE bs vs x:bz))
 | b::bs,[],x,h,f=>by simp at f| b::bs,v::vs,x,h,f=>by
  by_cases e:b=x
  .subst e;simp[dq,bN,mE,iW,M6]
  .have i:x∈bs:=by rcases D9.mp h with z|z;exact cz z.M e;exact z
   let g:=zi (bs:=bs) (vs:=vs) (x:=x) i (by simpa using f);let j:dq (bN (b::bs) (v::vs)) (.inr x)=dq (bN bs vs) (.inr x):=by simp[dq,bN,M6,e]
   rw[j,g];let:mE (b::bs) (v::vs) x=mE bs vs x:=by unfold mE;rw[show iW (b::bs) x=1+iW bs x from by rw[iW,cp e],Q0,U8]
   rw[this]
theorem Xh:∀{bs:bf gq} {vs:bf br},x∉bs->(bN bs vs).t (λf=>if f.1=Y6 x then(f.1,w) else f)=bN bs vs/\((bN bs vs).any λf=>decide (f.1=Y6 x))=eH
 | [],_,_=>#[rfl,rfl]| _::_,[],_=>#[rfl,rfl]| b::bs,v::vs,h=>by
  let j:b≠x:=λe=>h (by rw[e];simp);let#[i,g]:=Xh (x:=x) (w:=w) (bs:=bs) (vs:=vs) λz=>h (C2 _ z);unfold bN at i g⊢;apply#[?_,?_]
  .rw[Q8,C1,C1,i];simp[j]
  .rw[Q8,C1,P7,g];simp[j]
def Yw:∀{bs:bf gq} {vs:bf br} {x:gq} {v:br},x∈bs->bs.Nodup->vs.l=bs.l->oi (bN bs vs) (.inr x) (.int (v:bz))=bN bs (fh bs vs x v):=by
 intro bs vs x v h o j;let key:((bN bs vs).any λf=>decide (f.1=Y6 x))=dS/\(bN bs vs).t (λf=>if f.1=Y6 x then(f.1,D.int (v:bz)) else f)=bN bs (fh bs vs x v):=by
  induction bs generalizing vs with
  | nil=>cases h
  | cons b bs m =>
   cases vs with
   | nil=>simp at j| cons u vs =>
    let#[l,k]:=M5.mp o;by_cases e:b=x
    .subst e;let#[g,i]:=Xh (x:=b) (w:=D.int (v:bz)) (vs:=vs) l;unfold bN at g⊢;apply#[by simp,?_];rw[Q8,C1,C1,g];simp[fh,iW]
    .have n:x∈bs:=by rcases D9.mp h with z|z;exact cz z.M e;exact z
     let#[g,i]:=m (vs:=vs) n k (by simpa using j);let p:fh (b::bs) (u::vs) x v=u::fh bs vs x v:=by unfold fh;rw[show iW (b::bs) x=iW bs x+1 from by rw[iW,cp e,Q0],C17]
     rw[p];unfold bN at g i⊢;apply#[?_,?_]
     .rw[Q8,C1,P7,g,Q1]
     .rw[Q8,Q8,C1,C1,C1,i];simp[e]
 unfold oi;rw[cu key.1];exact key.2
theorem un4:∀{bs cs:bf gq} {vs us:bf br},vs.l=bs.l->us.l=cs.l->(cs++bs).Nodup->uT (bs.t Y6) (vs.t nD) (bN cs us)=bN (cs++bs) (us++vs)
 | [],cs,[],us,_,_,_=>by simp[uT]| [],cs,_::_,us,h,_,_=>by simp at h| _::_,cs,[],us,h,_,_=>by simp at h| b::bs,cs,v::vs,us,h,g,f=>by
  show uT (bs.t Y6) (vs.t nD) (oi (bN cs us) (.inr b) (.int (v:bz)))=_;let k:b∉cs:=λz=>by let:=U7.mp f;exact this.2.2 b z b (by simp) rfl
  let#[_,j]:=Xh (x:=b) (w:=D.int (v:bz)) (vs:=us) k;let l:oi (bN cs us) (.inr b) (.int (v:bz))=bN (cs++[b]) (us++[v]):=by unfold oi;rw[j,cp (by simp)];unfold bN;rw[List.zip_append g.M,B7];rfl
  rw[l];let i:((cs++[b])++bs).Nodup:=by rw[D5];exact f
  rw[un4 (bs:=bs) (cs:=cs++[b]) (vs:=vs) (us:=us++[v]) (by simpa using h) (by simp[g]) i,D5,D5];rfl
def v87{bs:bf gq}{vs:bf br}(g:vs.l=bs.l)(f:bs.Nodup):uT (bs.t Y6) (vs.t nD) []=bN bs vs:=by let:=un4 (bs:=bs) (cs:=[]) (vs:=vs) (us:=[]) g rfl f;simpa[bN] using this
def HI(bs:bf gq)(vs:bf br):(bN bs vs).l<=bs.l:=by unfold bN;rw[B0,tY];exact Nat.min_le_left _ _
theorem w70:∀{rs:bf ai} {r:ai},dF W bs rs->r∈rs->ou W bs r
 | s::rs,r,h,m=>by
  rcases D9.mp m with e|e
  .subst e;exact h.1
  .exact w70 h.2 e
def pw(W:br):(1:bz)*2^W=((2^W:br):bz):=by rw[SI,Int.natCast_pow];rfl
theorem XG:∀{bs:bf gq} {vs:bf br},bs.Nodup->vs.l=bs.l->bs.t (mE bs vs)=vs
 | [],[],_,_=>rfl| [],_::_,_,h=>by simp at h| _::_,[],_,h=>by simp at h| b::bs,v::vs,j,h=>by
  let#[g,f]:=M5.mp j;let m:mE (b::bs) (v::vs) b=v:=by simp[mE,iW]
  let l:bs.t (mE (b::bs) (v::vs))=bs.t (mE bs vs):=by apply L5 λx i=>?_;let k:b≠x:=λz=>g (z▸i);unfold mE;rw[show iW (b::bs) x=iW bs x+1 from by rw[iW,cp k,Q0],U8]
  rw[C1,m,l,XG f (by simpa using h)]
def vo0{O:bf ai}{k:br}(h:k<=O.l):cutD (bc O) dv (du (k:bz))=bc (O.fh k):=by unfold cutD;rw[HT.hJ,HT.oq,lO,W8 h,t6,EN,vD,vD,LM]
theorem vh2(h:dF W bs ys):∀k:br,dF W bs (C7 k ys).C
 | 0=>trivial| k+1=>by rw[K4,N4];exact cN.mpr #[h,vh2 h k]
mutual
theorem wo5:∀(r:ai),ou W bs r->dF W bs (eA r)
 | .is _ _,h=>#[h,trivial]| .op _ _ _ _,h=>#[h,trivial]| .e_ a f g,h=>#[#[h.1,Ht f h.2.1,Ht g h.2.2],trivial]| .fN k f,h=>vh2 (Ht f h.2) k
theorem Ht:∀(rs:bf ai),dF W bs rs->dF W bs (aF rs)
 | [],_=>trivial| r::rs,h=>cN.mpr #[wo5 r h.1,Ht rs h.2]
end
end L3
namespace Rw
open PySem PySem.Spec PyProof.Rows L2 L3
def vn9{f:Type}{xs:bf f}{n:br}:L3.cutD xs (du (n:bz)) dv=xs.G n:=by
 unfold L3.cutD;rw[HT.oq,HT.hJ];rcases NT n xs.l with h|h
 .rw[W8 h];exact Kd (by rw[Tp];exact B9 _)
 .rw[Ny h,V5 (B9 _),V5 h,List.take_nil]
end Rw
namespace L2
open PySem PySem.Spec PyProof.Rows
section
variable{X:Cx}{tg:gI}
def wz5:uJ X (λx _ _ H Q=>∃y:gq,x=.str y/\y.l<=iZ/\∀z:gq,z.l<=y.l->Q (.str z) H):=by
 intro kI s r H x v j g lo hi A Q I k p n m h;let#[y,rfl,o,q]:=h;let#[t,rfl]:=k;apply#["str",_,PySem.F.slot_str_getitem.lookup,SA _ _ _,?_];obtain⟨l,rfl⟩:∃l,j=partValue l:=by cases n with
  | none=>exact#[dv,rfl]| int i t=>exact#[du (i,t),rfl]
 obtain⟨u,rfl⟩:∃l,g=partValue l:=by cases m with
  | none=>exact#[dv,rfl]| int i t=>exact#[du (i,t),rfl]
 apply wpAny_getItem_str_slice (l:=l) (u:=u) (st:=dv) p rfl ?_;unfold sliceMade;split
 .exact#[.str y,H,I,#[t,rfl],q y (B9 _)]
 .have f:(#[((slicePicked y l u dv).filterMap (y.cps[·]?)).e]:gq).l<=y.l:=by show(List.filterMap _ _).e.v<=_;rw[E5];exact D4 (List.length_filterMap_le _ _) (sliceIndices_le _ _ _)
  exact#[D4 f o,.str _,H,I.tok _,#[_,rfl],q _ f]
end
end L2
namespace L3
open PySem PySem.Spec PyProof.Rows L2
section
variable{X:Cx}{K:eM}{H:Hp}{o e tg:gI}{es:bf gI}{te to:bI}{ts:eD}{apos aS pos:jU}{x:gq}
def GK:Me:=λx _ _ G q=>∃y:gq,x=.str y/\y.l<=iZ/\∀z:gq,z.l<=y.l->q (.str z) G
def xo1:uJ X (oB X.K GK):=w09 wz5 <| by rintro x lo hi H Q ⟨d,G,q,g,c,⟨y,rfl,i,t⟩,f⟩;exact#[y,g.fi,i,λz h=>f _ _ _ _ (by rw[af]) c (Le.j H) (t z h)]
def xi6:bI:=λ_ G q=>∀p,G p=dv->q (.ref p) (aC G p (.bR []))
def ws4:E3 X (.Dict [] [] pos) xi6:=dW vu7 λj H Q h=>by let#[i,G,q,k,c,t,f]:=h;exact λp g=>f (.ref p) _ (.ref p) _ (by rw[af]) (c.put (o:=.bR []) (Le.y g) #[[],iL,rfl,.nil]) (Le.y g) (t p (c.y g))
end
end L3
namespace L2
open PySem PySem.Spec PyProof.Rows
def Am(lo st:bz)(n:br):It:=#[λi _=>i<n,λi H x f=>f=H/\x=.int (lo+i*st),λi _=>n<=i]
def uy1{P:hH}{w:hL}{K:D17}{tg:gI}(it:fy)(lo c:bz)(n:br):Turn P w K tg (Am lo c n) [it] it (λi h=>SH h it (lo+(i:br)*c) ((n:bz)-(i:br)) c) where
 mem:=by simp
 obj:=λi h st b f=>by
  let e:b=it:=by simpa using f
  subst e;exact#[_,st,λv z=>by let L:z3 _=z4 v:=z;cases L]
 keep:=λi h l st k=>k it (by simp) _ st
 item:=by intro X q hw r p i kI s B H E I j st m;subst q hw r;let#[A,f1,f2,y,x,u]:=j it (by simp);let W:=D33 (prog:=X.c) (w:=X.w) (I.ok.hd p) it lo c n;apply W.item i s _ _ m st λv l C O J N=>?_;let#[t,rfl]:=O;let R:lp X kI B H { s with heap:=l,toks:=C}:=I.turned (λb o f e=>N b o (by simpa using f) e) A f1 y x u;exact#[_,rfl,ES (s:={ s with heap:=l,toks:=C}) (n:= "range_iterator") J rfl rfl ∅ #[.int (lo+i*c),H,R,#[t,rfl],#[rfl,rfl],J,λb f=>(j b f).1]]
 done:=by intro X q hw r p i kI s B H E I j st m;subst q hw r;let#[A,f1,f2,y,x,u]:=j it (by simp);exact wpAny_pyNext_range_end (I.ok.hd p) st (by let:n<=i:=m;omega) λl Q=>#[rfl,I.turned (t':=s.H) (λb o f e=>Q b o f e) A f1 y x u]
 self:=λ_ _ _ _ _ st h=>wpAny_pyIter_rangeiter st h
end L2
namespace L3
open PySem PySem.Spec PyProof.Rows L2
def jx(lo c:bz)(n:br):bf D:=(D3 n).t λ(i:br)=>D.int (lo+(i:bz)*c)
def v98{K:eM}{f:Hp}{lo c:bz}{n:br}:jq K f #[jx lo c n,λ_=>dm] (Am lo c n) where
 go:=λi G H l c _ hi=>by let hi:i<(jx lo _ n).l:=hi;show i<n;simpa[jx] using hi
 stop:=λi G H l c _ hi=>by let hi:(jx lo _ n).l<=i:=hi;show n<=i;simpa[jx] using hi
 qS:=λi G H v h l c _ hi y=>by
  let#[rfl,rfl]:=y;apply#[c,Le.j _,.int (lo+i*_),?_,af.c8];let hi:i<(jx lo _ n).l:=hi;let hi:i<n:=by simpa[jx] using hi
  show(jx lo _ n)[i]?=_;unfold jx;rw[F5,sW hi];rfl
end L3
namespace L2
open PySem PySem.Spec PyProof.Rows
def uu1(i:TA):TE:=λg H Q=>i g H λh f=>∃j:bz,h=[.int j]/\(-1000000<=j/\j<=1000000)/\∀l,f l=dv->Q (.ref l) (l6 f l (.lst ((D3 (j-0).i).t λk:br=>V.int (0+k))))
def uy9{X:Cx}(hr:aZ k X.A)(hg:Gl X "range")(hm:X.mg "range" = dv)(N:Gl X "list")(fA:X.mg "list" = dv)(ha:PA X [a] R) (hs:D2 [a] X.f=[(eH,eval a X.f)]:=by rfl)
  (C:D2 [.Call (.Name "range" p) [a] [] pos] X.f=[(eH,eval (.Call (.Name "range" p) [a] [] pos) X.f)]:=by rfl):
  PE X (.Call (.Name "list" p2) [.Call (.Name "range" p) [a] [] pos] [] Z) (uu1 R):=by
 intro kI s J H Q I h;apply O8 (sI I N fA v72 ?_);apply J9 ?_ C rfl;rw[C];show i3 _ _ (spliced ((eH,eval (.Call (.Name "range" p) [a] [] pos) X.f)::backTo Z [])) _ _ s;apply R4 ?_;apply O8 (sI I hg hm OR (J9 (bu (ha pos kI s J H _ I h) λus x ⟨vs,H1,G,U,Y⟩=>?_) hs rfl));let#[j,e,#[b3,b4],q]:=Y;subst e;cases U with
 | cons r S =>
   cases S;let#[t2,rfl]:=r;apply call_range_1 ?_;apply U6 ?_;let hn:P3 0 j 1=(((j-0).i:br):bz):=by rw[xf];split <;> omega
   apply call_list_range (hh:=hr.hd) (SJ ..) (yB () () () ()) hn () λu O f c kp M g=>?_;let Kw:∀b o,x.o.r b=du o->u.r b=du o:=λb o e=>kp b o (B8 _ e);let hv:Vals ((D3 (j-0).i).t λk:br=>V.int (0+k)) f.toList:=by
    let i:f.v=(j-0).i:=g.1;let key:∀(m:br) (l:bf fx),(∀(y:br) v,l[y]?=du v->∃t,v=.int (0+(y:bz)) t)->l.l=m->Vals ((D3 m).t λk:br=>V.int (0+k)) l:=by
     intro m;induction m with
     | zero=>intro l _ n;let:l=[]:=E6 n;subst this;exact .nil| succ m ih =>
      intro l n i;rcases W0 l with e|⟨B,v,e⟩
      .subst e;simp at i
      .rw[W4] at e;subst e;let E:B.l=m:=by simpa using i
       rw[V3,B7];apply(ih B (λy v e=>n y v ?_) E).fj (.cons ?_ .nil)
       .rw[J4 (N1.mp e).1];exact e
       .let#[t,e]:=n m v (by rw[<- E];simp);exact#[t,e]
    apply key _ f.L (λy v e=>?_) (by simpa using i);let#[t,e]:=g.2 y v (by simpa using e);exact#[t,by rw[e,SK]]
   let L:((D3 (j-0).i).t λk:br=>V.int (0+k)).l<=iZ:=by rw[B0,F0];exact O4 (C6 (m:=3000000) () ∅)
   let I2:=G.laid (h':=u) (a:=x.o.h.v+1) (o:=.lst ((D3 (j-0).i).t λk:br=>V.int (0+k))) (t':=O) Kw (U4 _) #[L,f.L,c,hv,by simpa using M];exact#[_,_,I2,by simp;rfl,q _ (G.aB.y (U4 _))]
end L2
namespace L3
open PySem PySem.Spec PyProof.Rows L2
def Yr(t:eD):bI:=λg G q=>t g G λh f=>match h with
 | [.int j]=>(-1000000<=j/\j<=1000000)/\∀p,f p=dv->q (.ref p) (aC f p (.lst (bW 0 (j-0).i)))| _=>b8
def uv5{K:eM}{t:eD}{l:L2.St}{H:Hp}{Q:VK}(h:aQ K (Yr t) l H Q):uu1 (eB K t) l H Q:=by
 let#[i,G,q,n,c,t,f]:=h;apply#[i,G,_,n,c,t,λy B u A o c1 r g=>?_];split at g
 .rename_i j;let#[x,rfl,m]:=o.one;cases m.O;exact#[j,rfl,g.1,λp k=>f _ _ _ _ af.fG (c1.cY k (XI _)) (r.u (Le.y k)) (g.2 p (c1.y k))]
 .exact g.n
def va5{X:Cx}(i:aZ k X.A)(l:Gl X "range")(j:X.mg "range" = dv)(f:Gl X "list")(n:X.mg "list" = dv)(m:A3 X [a] g) (h:D2 [a] X.f=[(eH,eval a X.f)]:=by rfl)
  (o:D2 [.Call (.Name "range" p) [a] [] pos] X.f=[(eH,eval (.Call (.Name "range" p) [a] [] pos) X.f)]:=by rfl):
  E3 X (.Call (.Name "list" q) [.Call (.Name "range" p) [a] [] pos] [] r) (Yr g):=dW (uy9 i l j f n m h o) λ_ _ _=>uv5
def WS(l i j:bI):bI:=λf G q=>l f G λx h=>(∃a kvs,x=.ref a/\h a=du (.bR kvs))/\i f h λy m=>j f m λz g=>∃a kvs k,x=.ref a/\y=kD k/\g a=du (.bR kvs)/\q ((dq kvs k).E z) g
def vj7{K:eM}{H:Hp}{E B C:bI}{A:L2.St}{Q:VK}(h:aQ K (WS E B C) A H Q):w21 (aQ K E) (aQ K B) (aQ K C) A H Q:=by
 let#[g,G,q,o,c,t,f]:=h;apply#[g,G,_,o,c,t,λx G1 v H1 S c1 j n=>?_];let#[#[a,kvs,rfl,X],n]:=n;let#[L,e,rp]:=c1 a _ X;apply#[a,S.ao,.inl #[L,.of e],g,G1,_,o.le j,c1,n,λy G2 u H2 R c2 p N=>#[g,G2,_,o.le (j.u p),c2,N,λz G3 w H3 O r I M=>?_]];let#[a',Kv,k,Z,rfl,U,i]:=M;cases Z;obtain rfl:=CH R;let#[Px,Y,Rm]:=r a _ U;apply#[dA Px k,nP.k Y,?_];rcases HF (k:=k) Rm with⟨m,l⟩|⟨d',w',m,l,J⟩
 .rw[m] at i;rw[l];exact f _ _ _ _ O r (j.u (p.u I)) i
 .rw[m] at i;rw[l];exact f _ _ _ _ J r (j.u (p.u I)) i
def xh9{X:Cx}{g h:jU}(l:aZ k X.A)(m:E3 X o to)(p:E3 X e te)(n:E3 X f i)(r:O1 o "get" X.f (eval o X.f)=eval o X.env:=by rfl)
  (j:((backTo h (D2 [e,f] X.f)).all (λx=>!x.1)&&(Y0 h (Q4 [] X.f)).all (λx=>x.1.fg)
   && decide (([e,f]:bf gI).l+([]:bf i4).l+(if([]:bf i4).isEmpty then 0 else 1)<30))=dS:=by rfl)
  (q:(g.endLine==h.line)=dS:=by rfl) (t:D2 [e,f] X.f=[(eH,eval e X.f),(eH,eval f X.f)]:=by rfl):E3 X (.Call (.Attribute o "get" g) [e,f] [] h) (WS to te i):=
 dW (vu9 (PK l) m p n ⟨r,j,q,by rw[t];rfl⟩) λ_ _ _=>vj7
end L3
namespace Rw
open PySem PySem.Spec PyProof.Rows L2 L3 Law
def lU(rs:bf k')(bs:bf bz):bf bz:=rs.foldl (da 1) bs
def QQ:lU (r::b) bs=lU b (da 1 bs r):=rfl
def wl1:lU [] bs=bs:=rfl
def tg(fr f:br):k'->ck
 | .add x o=>fr<=x/\x<f/\o.ok f x| .take x o=>fr<=x/\x<f/\o.ok f x| .turn x i g=>fr<=x/\x<f/\i<32/\g.l<=2/\∀c∈g,c.1<f/\c.1≠x/\c.2<32| _=>b8
def QN{a b x:br}{o:kZ}(h:o.ok a x)(f:a<=b):o.ok b x:=by
 cases o with
 | num n=>exact h| box y=>exact#[C9 h.1 f,h.2]
def CK(h:tg fr l r)(f:g<=fr)(h1:l<=k):tg g k r:=by
 cases r with
 | add x o=>exact#[D4 f h.1,C9 h.2.1 h1,QN h.2.2 h1]| take x o=>exact#[D4 f h.1,C9 h.2.1 h1,QN h.2.2 h1]| turn x i m=>exact#[D4 f h.1,C9 h.2.1 h1,h.2.2.1,h.2.2.2.1,λc j=>#[C9 (h.2.2.2.2 c j).1 h1,(h.2.2.2.2 c j).2]]| _=>exact h.n
def EW(h:tg fr g r)(f:g<=sz):r.ok sz:=by
 let h:=CK h (B9 _) f;cases r with
 | add x o=>exact#[h.2.1,h.2.2]| take x o=>exact#[h.2.1,h.2.2]| turn x i j=>exact#[h.2.1,h.2.2.1,h.2.2.2.1,h.2.2.2.2]| _=>exact h.n
def Fw(h:tg fr f r):r.plain=dS:=by
 cases r with
 | go=>exact h.n| aL=>exact h.n| _=>rfl
def He{bs:bf bz}(h:x<bs.l):gt (da 1 bs (.add x o)) i=if i=x then(gt bs x+val bs o)%4294967296 else gt bs i:=by show gt (bs.I x ((gt bs x+1*val bs o)%4294967296)) i=_;rw[nQ h,SI]
def Fo{bs:bf bz}(h:x<bs.l):gt (da 1 bs (.take x o)) i=if i=x then(gt bs x-val bs o)%4294967296 else gt bs i:=by show gt (bs.I x ((gt bs x-1*val bs o)%4294967296)) i=_;rw[nQ h,SI]
def Hk{bs:bf bz}(h:x<bs.l):gt (da 1 bs (.turn x i cs)) j=if j=x then(if mH bs cs=dS then fB (gt bs x) i else gt bs x) else gt bs j:=by
 show gt (if mH bs cs=dS then bs.I x (fB (gt bs x) i) else bs) j=_;by_cases f:mH bs cs=dS
 .rw[cu f,cu f,nQ h]
 .rw[cp f,cp f];split
  .rename_i e;rw[e]
  .rfl
def wb1{bs:bf bz}(h:tg fr f r)(g:f<=bs.l)(hi:i<fr\/f<=i):gt (da 1 bs r) i=gt bs i:=by
 cases r with
 | add x o=>let:=h.1;let:=h.2.1;rw[He (),cp ()]| take x o=>let:=h.1;let:=h.2.1;rw[Fo (),cp ()]| turn x j k=>let:=h.1;let:=h.2.1;rw[Hk (),cp ()]| _=>exact h.n
structure Wv(fr dw:br)(new:bf k')(F:bf bz->bf bz->Prop):Prop where
 le:fr<=dw
 tg:∀r∈new,tg fr dw r
 ef:∀sz bs,cZ sz bs->dw<=sz->(∀i,fr<=i->gt bs i=0)->F bs (lU new bs)
theorem Yl:∀{new:bf k'} {bs:bf bz},(∀r∈new,Rw.tg fr l r)->cZ sz bs->l<=sz->cZ sz (lU new bs)/\∀i,i<fr\/l<=i->gt (lU new bs) i=gt bs i
 | [],bs,_,f,_=>#[f,λ_ _=>rfl]| r::new,bs,h,f,j=>by let k:=h r D0;let g:=Xm (s:=1) f (EW k j);let#[n,m]:=Yl (new:=new) (bs:=da 1 bs r) (λx o=>h x (C2 _ o)) g j;exact#[n,λi hi=>by rw[QQ,m i hi,wb1 k (by rw[f.len];exact j) hi]]
def Wv.keep(h:Wv fr f new F)(j:cZ sz bs)(g:f<=sz):cZ sz (lU new bs)/\∀i,i<fr\/f<=i->gt (lU new bs) i=gt bs i:=Yl h.tg j g
def Wv.nil(h:∀bs,F bs bs):Wv fr fr [] F:=#[B9 _,λr f=>(by cases f),λ_ bs _ _ _=>h bs]
def Wv.imp(h:Wv fr g new F)(k:∀bs f,F bs f->i bs f):Wv fr g new i:=#[h.le,h.tg,λsz bs a b c=>k _ _ (h.ef sz bs a b c)]
theorem QP(h:∀r∈rs,r.plain=dS)(m:br):∀(t:bf k') (s:br) (bs:bf bz),rs.G s=t->s+t.l=rs.l->rn dS rs (t.l+m) s bs=(t.l,rs.l,lU t bs)
 | [],s,bs,e,f=>by
  let f:s=rs.l:=by simpa using f
  rw[yi (by show bD rs bs s=eH;unfold bD;rw[M9 ()])];rw[f];rfl
 | r::t,s,bs,e,f=>by
  let i:s<rs.l:=by rw[C0] at f;omega
  rw[O7 i] at e;injection e with n l;let#[j,g]:=Qk (bs:=bs) i (h _ (M4 _));rw[show(r::t).l+m=(t.l+m)+1 by rw[C0];omega,ua (show dZ dS rs bs s=dS from j)];let g:dG dS rs bs s=(s+1,da 1 bs rs[s]):=g;rw[g];let k:=QP h m t (s+1) (da 1 bs rs[s]) l (by rw[C0] at f;omega);show((rn dS rs (t.l+m) (s+1) (da 1 bs rs[s])).1+1,(rn dS rs (t.l+m) (s+1) (da 1 bs rs[s])).2)=_;rw[k,n];rfl
def CS(h:∀r∈rs,r.plain=dS):Pairs rs:=by
 apply#[λj x n k e=>?_,λj x n k e=>?_]
 .have:=h _ (K5 e);cases this
 .have:=h _ (K5 e);cases this
def Rp(h:W<=16):2^W<=65536:=U5 ∅ h
def yj:(da 1 bs r).l=bs.l:=by
 cases r with
 | add=>exact K2| take=>exact K2| turn x i f=>show(if mH bs f=dS then bs.I x _ else bs).l=_;split;exact K2;rfl| swap=>show((bs.I _ _).I _ _).l=_;rw[K2,K2]| go=>rfl| aL=>rfl
def uC0(i:br):fB 0 i=2^i:=by
 let:nv 0 i=0:=by unfold nv;rw[Int.zero_ediv];rfl
 show(0:bz)+2^i*(1-2*nv 0 i)=_;rw[this];omega
def o1(k:br)(h:x<fr):x<fr+k:=Nat.lt_add_right k h
def o2(k:br)(h:x<fr):x≠fr+k:=J7 (o1 k h)
def o3{a:br}(h:a<65536):((0:bz)+a)%4294967296=a:=()
def o4{a c:br}(h:a<65536)(h':c<65536):((a:bz)+c)%4294967296=((a+c:br):bz):=()
def o5{v k:br}(h:v<4294967296)(h':k<=v):((v:bz)-k)%4294967296=((v-k:br):bz):=by rw[<- Int.ofNat_sub h'];exact Pp (P5 _) ()
def o6(g:a<P)(f:c<P):(a+c) / P=if P<=a+c then 1 else 0:=by
 split
 .exact Nat.div_eq_of_lt_le () ()
 .exact Nat.div_eq_of_lt ()
def o8{a c P:br}(h:a<P)(g:c<P)(f:P<=65536):(((a:bz)-c)%4294967296+(if a<c then(P:bz) else 0))%4294967296=(((a+(P-c))%P:br):bz):=by
 rw[qi];by_cases q:a<c
 .rw[cu q,NG (),show(a:bz)-c+P=((a+(P-c):br):bz) by omega];exact Pp (P5 _) ()
 .rw[cp q,Nat.mod_eq_sub_mod (),NG (),show(a:bz)-c+0=((a+(P-c)-P:br):bz) by omega];exact Pp (P5 _) ()
def c9(fr x y:br)(k:br):bf k':=(D3 k).t λi=>.turn fr i [(x,i),(y,i)]
def rV(rp:fy)(W fr st:br):bf (gq×D):=[("wide",.int (W:bz)),("fresh",.int (fr:bz)),("rows",.ref rp),("steps",.int (st:bz))]
def FN:(("fresh" :gq) == "wide")=eH/\(("rows" :gq) == "wide")=eH/\(("rows" :gq) == "fresh")=eH/\(("steps" :gq) == "wide")=eH/\(("steps" :gq) == "fresh")=eH/\(("steps" :gq) == "rows")=eH /\ (("fresh_box" :gq) == "wide")=eH/\(("fresh_box" :gq) == "fresh")=eH/\(("fresh_box" :gq) == "rows")=eH/\(("fresh_box" :gq) == "steps")=eH/\(("put" :gq) == "wide")=eH/\(("put" :gq) == "fresh")=eH/\(("put" :gq) == "rows")=eH/\(("put" :gq) == "steps")=eH /\ (("wide" :gq) = "fresh")=b8/\(("wide" :gq) = "rows")=b8/\(("wide" :gq) = "steps")=b8/\(("fresh" :gq) = "rows")=b8/\(("fresh" :gq) = "steps")=b8/\(("rows" :gq) = "steps")=b8/\(("fresh" :gq) = "wide")=b8/\(("rows" :gq) = "wide")=b8/\(("rows" :gq) = "fresh")=b8/\(("steps" :gq) = "wide")=b8/\(("steps" :gq) = "fresh")=b8/\(("steps" :gq) = "rows")=b8 /\ (("put_unless" :gq) == "wide")=eH/\(("put_unless" :gq) == "fresh")=eH/\(("put_unless" :gq) == "rows")=eH/\(("put_unless" :gq) == "steps")=eH/\(("put_by_choice" :gq) == "wide")=eH/\(("put_by_choice" :gq) == "fresh")=eH/\(("put_by_choice" :gq) == "rows")=eH/\(("put_by_choice" :gq) == "steps")=eH:=by
 apply#[?_,?_,?_,?_,?_,?_,?_,?_,?_,?_,?_,?_,?_,?_,?_,?_,?_,?_,?_,?_,?_,?_,?_,?_,?_,?_,?_,?_,?_,?_,?_,?_,?_,?_] <;> first|decide|exact c_ ∅
def aI{rp:fy}{W fr st:br}:K1 ("wide" :gq) (rV rp W fr st)=du (.int (W:bz))/\K1 ("fresh" :gq) (rV rp W fr st)=du (.int (fr:bz))/\K1 ("rows" :gq) (rV rp W fr st)=du (.ref rp)/\K1 ("steps" :gq) (rV rp W fr st)=du (.int (st:bz)) /\ K1 ("fresh_box" :gq) (rV rp W fr st)=dv/\K1 ("put" :gq) (rV rp W fr st)=dv/\K1 ("put_unless" :gq) (rV rp W fr st)=dv/\K1 ("put_by_choice" :gq) (rV rp W fr st)=dv/\(∀v:br,putD ("fresh" :gq) (.int (v:bz)) (rV rp W fr st)=rV rp W v st)/\(∀v:br,putD ("steps" :gq) (.int (v:bz)) (rV rp W fr st)=rV rp W fr v):=by
 apply⟨?_,?_,?_,?_,?_,?_,?_,?_,λv=>?_,λv=>?_⟩ <;> simp only[rV,FN,beq_self_eq_true,J0,P8,putD,if_false,if_true]
def WY{rp:fy}{W fr st:br}:(rV rp W fr st).l<1000:=show 4<1000 by decide
structure av(C:fy)(G:Gp)(p rp:fy)(W fr:br)(rows:bf k')(st:br):Prop where
 ob:G p=du (.ins C (rV rp W fr st))
 ro:G rp=du (.lst (rows.t k'.d))
def av.pr{C:fy}{G:Gp}{p rp:fy}{W fr st:br}{rows:bf k'}(h:av C G p rp W fr rows st):p≠rp:=λe=>by let:=h.ro;rw[<- e,h.ob] at this;cases this
def cP(p rp:fy)(G f:Gp):ck:=∀b o,b≠p->b≠rp->G b=du o->f b=du o
def cP.refl:cP p rp G G:=λ_ _ _ _ h=>h
def cP.trans(h:cP p rp G G1)(k:cP p rp G1 i):cP p rp G i:=λb o g f e=>k b o g f (h b o g f e)
def cP.new(h:cP p rp G G1)(f:G1 q=dv):cP p rp G (aC G1 q o):=λb o i g e=>by let:=h b o i g e;rw[aA (aT this f)];exact this
def av.new{C:fy}{G:Gp}{p rp q:fy}{W fr st:br}{rows:bf k'}{o:DO}(h:av C G p rp W fr rows st)(f:G q=dv):av C (aC G q o) p rp W fr rows st:=#[by rw[aA (aT h.ob f)];exact h.ob,by rw[aA (aT h.ro f)];exact h.ro]
def gR(W x y fr:br)(o:gq):bf k':=
 if o = "+" then[.add fr (.box x),.add fr (.box y),.turn (fr+1) W [(fr,W)],.take fr (.box (fr+1))]
 else if o = "-" then[.add fr (.box x),.take fr (.box y)]++[.turn (fr+1) W [(fr,31)],.add fr (.box (fr+1))]
 else if o = "&" then c9 fr x y W
 else if o = "|" then c9 fr x y W++([.add (fr+1) (.box x),.add (fr+1) (.box y)]++C7 1 (.take (fr+1) (.box fr)))
 else if o = "^" then c9 fr x y W++([.add (fr+1) (.box x),.add (fr+1) (.box y)]++C7 2 (.take (fr+1) (.box fr)))
 else if o = "<" then[.add fr (.box x),.take fr (.box y)]++[.turn (fr+1) 0 [(fr,31)]]
 else([.add fr (.box x),.take fr (.box y)]++[.add (fr+1) (.box y),.take (fr+1) (.box x)])++[.turn (fr+2) 0 [],.turn (fr+2) 0 [(fr,31)],.turn (fr+2) 0 [(fr+1,31)]]
def Dd(fr:br)(o:gq):br:=if o = "+" then fr else if o = "-" then fr else if o = "&" then fr else if o = "|" then fr+1 else if o = "^" then fr+1 else if o = "<" then fr+1 else fr+2
def oo(fr:br)(o:gq):br:=if o = "+" then fr+2 else if o = "-" then fr+2 else if o = "&" then fr+1 else if o = "|" then fr+2 else if o = "^" then fr+2 else if o = "<" then fr+2 else fr+3
def Yi(h:o∈L3.signs):o = "+" \/ o = "-" \/ o = "&" \/ o = "|" \/ o = "^" \/ o = "<" \/ o = "=" := by simpa[L3.signs] using h
def wz6(h:W<=16)(g:o∈L3.signs):(gR W x y fr o).l<=20:=by
 let f:(c9 fr x y W).l=W:=by unfold c9;rw[B0,F0]
 rcases Yi g with rfl|rfl|rfl|rfl|rfl|rfl|rfl
 .exact(by decide:4<=20)
 .exact(by decide:4<=20)
 .show(c9 fr x y W).l<=20;omega
 .show(c9 fr x y W++_).l<=20;rw[B4,f];show W+3<=20;omega
 .show(c9 fr x y W++_).l<=20;rw[B4,f];show W+4<=20;omega
 .exact(by decide:3<=20)
 .exact(by decide:7<=20)
def w24:fr<=oo fr o/\oo fr o<=fr+3/\Dd fr o<oo fr o:=by
 unfold oo Dd;split
 .omega
 split
 .omega
 split
 .omega
 split
 .omega
 split
 .omega
 split <;> omega
def dQ(fr:br):jt->bf k'
 | .num i=>[.add fr (.num (i:bz))]| .box _=>[]
def bq(fr:br):jt->br
 | .num _=>fr+1| .box _=>fr
def fO(bs:bf gq)(pl:bf br)(fr:br):jt->br
 | .num _=>fr| .box x=>mE bs pl x
def vy1{pl:bf br}(f:x∈bs)(g:pl.l=bs.l):pl[iW bs x]?=du (mE bs pl x):=by
 let:iW bs x<pl.l:=by rw[g];exact WW f
 unfold mE;rw[B6 this];rfl
def qW(a:jt):fr<=bq fr a/\bq fr a<=fr+1/\(dQ fr a).l<=1:=by
 cases a with
 | num i=>exact#[U4 _,B9 _,by show 1<=1;omega]| box x=>exact#[B9 _,U4 _,by show 0<=1;omega]
def yc(W:br)(bs:bf gq)(pl:bf br)(fr:br):ai->bf k'×bf br×br
 | .is x a=>(dQ fr a,fh bs pl x (fO bs pl fr a),bq fr a)| .op x o a b=>(dQ fr a++dQ (bq fr a) b++gR W (fO bs pl fr a) (fO bs pl (bq fr a) b) (bq (bq fr a) b) o,fh bs pl x (Dd (bq (bq fr a) b) o),oo (bq (bq fr a) b) o)| _=>([],pl,fr)
end Rw
namespace L3
open PySem PySem.Spec PyProof.Rows L2
section
variable{X:Cx}
def w89{k j i h g f:gq}{B k2 A y x u:br}{t r q p o n:jU}{m:bf gI}{l:eD}(C:A3 X m l): A3 X (.Constant (.str k) B t::.Constant (.str j) k2 r::.Constant (.str i) A q::.Constant (.str h) y p::.Constant (.str g) x o::.Constant (.str f) u n::m) (jJ (dC (.str k)) (jJ (dC (.str j)) (jJ (dC (.str i)) (jJ (dC (.str h)) (jJ (dC (.str g)) (jJ (dC (.str f)) l)))))):=qJ aR (qJ aR (qJ aR (qJ aR (qJ aR (qJ aR C rfl) rfl) rfl) rfl) rfl) rfl
@[irreducible] def yP(X:Cx)(f:bf gI)(t:eD):ck:=A3 X f t
@[irreducible] def xF(X:Cx)(st:hC)(t:fR):ck:=S3 X st t
@[irreducible] def lH(X:Cx)(l:bf hC)(t:fR):ck:=uI X l t
def yP.of(h:A3 X f t):yP X f t:=by unfold yP;exact h
def yP.to(h:yP X f t):A3 X f t:=by unfold yP at h;exact h
def xF.of{st:hC}{t:fR}(h:S3 X st t):xF X st t:=by unfold xF;exact h
def xF.to{st:hC}{t:fR}(h:xF X st t):S3 X st t:=by unfold xF at h;exact h
def lH.of(h:uI X l t):lH X l t:=by unfold lH;exact h
def lH.to(h:lH X l t):uI X l t:=by unfold lH at h;exact h
def v34{st:hC}{f:bf hC}{h g:fR}(h1:xF X st h)(i:lH X f g):lH X (st::f) (fo h g):=.of (ar h1.to i.to)
def wb7{st:hC}{f:fR}(h:xF X st f):lH X [st] f:=.of (az h.to)
def xj6:yP X [] iy:=.of gX
def vq3{k j i h g f:gq}{B k2 A y x u:br}{t r q p o n:jU}{m:bf gI}{l:eD}(C:yP X m l): yP X (.Constant (.str k) B t::.Constant (.str j) k2 r::.Constant (.str i) A q::.Constant (.str h) y p::.Constant (.str g) x o::.Constant (.str f) u n::m) (jJ (dC (.str k)) (jJ (dC (.str j)) (jJ (dC (.str i)) (jJ (dC (.str h)) (jJ (dC (.str g)) (jJ (dC (.str f)) l)))))):=.of (w89 C.to)
def wz8(i:br){pos f h:jU}(hN:X.N.Nodup)(n:yP X g j)(hi:X.N[i]?=du x:=by rfl)(k:n0 X.f.J x:=by first|exact As rfl|exact x9 rfl)(l:X4 (.List g h) (du (.Name x f)) pos.line X.f=pure eH:=by rfl)
  (m:X.fn x=dS\/X.f.J.U.q x=du .local:=by first|exact .inl rfl|exact .inr rfl|assumption):xF X (.Assign [.Name x f] (.List g h) pos) (i9 (wz j) (sH i)):=.of (aN i hN (cw n.to) hi k l m)
end
end L3
namespace Rw
open PySem PySem.Spec PyProof.Rows L2 L3 Law
def At(rs:bf k')(a:br)(new:bf k'):ck:=∀(j:br) (r:k'),new[j]?=du r->rs[a+j]?=du r
def At.left(h:At rs a (f++g)):At rs a f:=λj r e=>h j r (by rw[J4 (oh e)];exact e)
def At.right(h:At rs a (g++f)):At rs (a+g.l) f:=λj r e=>by rw[K6];exact h _ r (by rw[F9 (U0 _ _),Y8];exact e)
def At.head(h:At rs a (r::t)):rs[a]?=du r:=h 0 r rfl
def At.tail(h:At rs a (r::t)):At rs (a+1) t:=λj x e=>by rw[K6,Q0 1 j];exact h (j+1) x e
def fe(rs:bf k')(n s:br)(b:bf bz)(s':br)(b':bf bz):ck:=∀m,rn dS rs (n+m) s b=(n+(rn dS rs m s' b').1,(rn dS rs m s' b').2)
def fe.refl:fe rs 0 s b s b:=λm=>by rw[L6,L6]
def fe.trans(h1:fe rs g s b i l)(j:fe rs f i l h k):fe rs (g+f) s b h k:=λm=>by rw[K6,h1 (f+m),j m];show(g+(f+_),_)=_;rw[K6]
def fe.step(h:bD rs b s=dS)(e:cf rs b s=(s',b')):fe rs 1 s b s' b':=λm=>by rw[Q0 1 m,ua (fw:=dS) h];show((rn dS rs m (cf rs b s).1 (cf rs b s).2).1+1,(rn dS rs m (cf rs b s).1 (cf rs b s).2).2)=_;rw[e,Q0]
def fe.cast(h:fe rs n s b s' b')(e:n=f)(g:s'=t):fe rs f s b t b':=by subst e g;exact h
theorem fe.plain(e:rs[s]?=du r)(i:r.plain=dS):fe rs 1 s b (s+1) (da 1 b r):=by
 let f:=oh e;let g:rs[s]=r:=by rw[B6 f] at e;exact E8 e
 let h:=Qk (bs:=b) f (by rw[g];exact i);rw[g] at h;exact fe.step h.1 h.2
theorem fe.m8:∀{t:bf k'} {s:br} {b:bf bz},At rs s t->(∀r∈t,r.plain=dS)->fe rs t.l s b (s+t.l) (lU t b)
 | [],s,b,_,_=>fe.j| r::t,s,b,h,f=>by let g:=fe.m8 (t:=t) (s:=s+1) (b:=da 1 b r) h.tail λx i=>f x (C2 _ i);exact((fe.plain h.head (f r D0)).u g).cast (by rw[C0];omega) (by rw[C0];omega)
def fe.goT(e:rs[s]?=du (.go x n k))(h:gt b x=n):fe rs 1 s b (k+1) b:=fe.step (by unfold bD;rw[e]) (by unfold cf;rw[e];exact cu h)
def fe.goF(e:rs[s]?=du (.go x n k))(h:gt b x≠n):fe rs 1 s b (s+1) b:=fe.step (by unfold bD;rw[e]) (by unfold cf;rw[e];exact cp h)
theorem fe.aL(e:rs[s]?=du (.aL x n k))(h:gt b x≠n):fe rs 1 s b (s+1) b:=fe.step (by unfold bD;rw[e];show(!decide (gt b x=n))=dS;rw[c7 h];rfl) (by unfold cf;rw[e];rfl)
def Yh{a b:br}{r:k'}(h:r.ok a)(f:a<=b):r.ok b:=by
 cases r with
 | add x o=>exact#[C9 h.1 f,QN h.2 f]| take x o=>exact#[C9 h.1 f,QN h.2 f]| turn x i j=>exact#[C9 h.1 f,h.2.1,h.2.2.1,λc g=>#[C9 (h.2.2.2 c g).1 f,(h.2.2.2 c g).2]]| swap x y=>exact#[C9 h.1 f,C9 h.2.1 f,h.2.2]| go x n k=>exact#[C9 h.1 f,h.2]| aL x n k=>exact#[C9 h.1 f,h.2]
structure cH(a:br)(new:bf k'):Prop where
 go:∀(j x:br) (n:bz) (k:br),new[j]?=du (k'.go x n k)->a<=k/\new[k-a]?=du (.aL x n (a+j))
 co:∀(j x:br) (n:bz) (k:br),new[j]?=du (k'.aL x n k)->a<=k/\new[k-a]?=du (.go x n (a+j))
theorem cH.plain(h:∀r∈new,r.plain=dS):cH a new:=by
 apply#[λj x n k e=>?_,λj x n k e=>?_]
 .have:=h _ (K5 e);cases this
 .have:=h _ (K5 e);cases this
def cH.pairs(h:cH 0 new):Pairs new:=#[λj x n k e=>by let:=(h.go j x n k e).2;rw[EN,L6] at this;exact this,λj x n k e=>by let:=(h.co j x n k e).2;rw[EN,L6] at this;exact this]
def cH.app(h1:cH a f)(g:cH (a+f.l) h):cH a (f++h):=by
 apply#[λj x n k e=>?_,λj x n k e=>?_]
 .rcases GA j f.l with q|q
  .rw[J4 q] at e;let#[u,v]:=h1.go j x n k e;exact#[u,by rw[J4 (oh v)];exact v]
  .rw[F9 q] at e;let#[u,v]:=g.go _ x n k e;apply#[(),?_];rw[F9 (),show k-a-f.l=k-(a+f.l) by omega,v];congr 2;omega
 .rcases GA j f.l with q|q
  .rw[J4 q] at e;let#[u,v]:=h1.co j x n k e;exact#[u,by rw[J4 (oh v)];exact v]
  .rw[F9 q] at e;let#[u,v]:=g.co _ x n k e;apply#[(),?_];rw[F9 (),show k-a-f.l=k-(a+f.l) by omega,v];congr 2;omega
def cH.fence(h:∀r∈t,r.plain=dS):cH a (.go x n (a+t.l+1)::(t++[.aL x n a])):=by
 let key:∀(j:br) (r:k'),(k'.go x n (a+t.l+1)::(t++[.aL x n a]))[j]?=du r->(j=0/\r=.go x n (a+t.l+1))\/(j=t.l+1/\r=.aL x n a)\/r.plain=dS:=by
  intro j r e;cases j with
  | zero=>exact .inl #[rfl,(E8 e).M]| succ j =>
   rw[U8] at e;rcases GA j t.l with q|q
   .rw[J4 q] at e;exact .inr (.inr (h r (K5 e)))
   .rw[F9 q] at e;let i:j-t.l<1:=by simpa using oh e
    rw[show j-t.l=0 by omega] at e;exact .inr (.inl ⟨(),(E8 e).M⟩)
 apply⟨λj f g k e=>?_,λj f g k e=>?_⟩
 .rcases key j _ e with⟨rfl,q⟩|⟨rfl,q⟩|q
  .cases q;apply⟨(),?_⟩;rw[show a+t.l+1-a=t.l+1 by omega,U8,F9 (B9 _),Z8];rfl
  .cases q
  .cases q
 .rcases key j _ e with⟨rfl,q⟩|⟨rfl,q⟩|q
  .cases q
  .cases q;apply⟨B9 _,?_⟩;rw[Z8];show du (k'.go x n (a+t.l+1))=du (k'.go x n (a+(t.l+1)));rw[K6]
  .cases q
structure Wk(a fr dw:br)(new:bf k')(st:br)(P:bf bz->Prop)(F:bf bz->bf bz->Prop):Prop where
 le:fr<=dw
 ok:∀r∈new,r.ok dw
 pr:cH a new
 run:∀sz rs bs,At rs a new->cZ sz bs->dw<=sz->(∀i,fr<=i->gt bs i=0)->P bs->∃Ab,cZ sz Ab/\(∀i,i<fr\/dw<=i->gt Ab i=gt bs i)/\F bs Ab/\fe rs st a bs (a+new.l) Ab
def Wk.of(h:Wv fr n new F):Wk a fr n new new.l P F:=by let i:∀r∈new,r.plain=dS:=λr f=>Fw (h.tg r f);apply#[h.le,λr f=>EW (h.tg r f) (B9 _),cH.plain i,λsz o bs l j g m _=>?_];let k:=h.keep j g;exact#[lU new bs,k.1,k.2,h.ef sz bs j g m,fe.m8 l i]
def Wk.imp{a fr j st:br}{new:bf k'}{P f:bf bz->ck}{F k:bf bz->bf bz->ck}(h:Wk a fr j new st P F)(r:∀b,f b->P b)(t:∀b b',f b->(∀i,i<fr->gt b' i=gt b i)->F b b'->k b b'):Wk a fr j new st f k:=#[h.le,h.ok,h.pr,λsz l bs x u q y p=>by let#[b',o,g,n,m]:=h.run sz l bs x u q y (r _ p);exact#[b',o,g,t _ _ p (λi hi=>g i (.inl hi)) n,m]]
def Wk.seq(h1:Wk a fr t n y P u)(g:Wk (a+n.l) t j H x P2 N)(J:∀b f,P b->u b f->(∀i,i<fr->gt f i=gt b i)->P2 f): Wk a fr j (n++H) (y+x) P (λb b'=>∃f,u b f/\N f b'/\(∀i,i<fr->gt f i=gt b i)/\∀i,i<t->gt b' i=gt f i):=by
 apply#[D4 h1.le g.le,λr hr=>?_,h1.pr.app g.pr,λsz k bs o L I q p=>?_]
 .rcases F7.mp hr with hr|hr
  .exact Yh (h1.ok r hr) g.le
  .exact g.ok r hr
 .have Q:=h1.le;let O:=g.le;let#[f,G,h,m,E]:=h1.run sz k bs o.left L () q p;let#[M,C,l,B,A]:=g.run sz k f o.right G I (λi hi=>by rw[h i (.inr hi)];exact q i ()) (J _ _ p m λi hi=>h i (.inl hi));apply#[M,C,λi hi=>?_,#[f,m,B,λi hi=>h i (.inl hi),λi hi=>l i (.inl hi)],(E.u A).cast rfl (by rw[B4];omega)];rw[l i (),h i ()]
def uF(a ch:br)(ys ns:bf k'):bf k':=(.go ch 0 (a+ys.l+1)::(ys++[.aL ch 0 a]))++(.go ch 1 (a+(ys.l+2)+ns.l+1)::(ns++[.aL ch 1 (a+(ys.l+2))]))
def Wk.choice(f:Wv fr m ys O)(j:Wv fr m ns Q)(X:ys.l=ns.l)(x:ch<fr): Wk a fr m (uF a ch ys ns) (ys.l+3) (λb=>gt b ch=0\/gt b ch=1) (λb b'=>(gt b ch=1->O b b')/\(gt b ch=0->Q b b')):=by
 let G:∀r∈ys,r.plain=dS:=λr hr=>Fw (f.tg r hr);let H:∀r∈ns,r.plain=dS:=λr hr=>Fw (j.tg r hr);let le:=f.le;let u:(k'.go ch 0 (a+ys.l+1)::(ys++[.aL ch 0 a])).l=ys.l+2:=by rw[C0,B4];rfl
 let h:∀(n:bz) (k:br) (t:bf k') (I:br) (F:bf bz->bf bz->ck),0<=n->n<4294967296->Wv fr m t F->∀r∈(k'.go ch n k::(t++[.aL ch n I])),r.ok m:=by
  intro n k t I F M L hw r hr;rcases D9.mp hr with e|hr
  .rw[e];exact⟨(),M,L⟩
  rcases F7.mp hr with hr|hr
  .exact EW (hw.tg r hr) (B9 _)
  .rw[D8.mp hr];exact⟨(),M,L⟩
 apply⟨le,λr hr=>?_,?_,λsz U bs J l i N p=>?_⟩
 .rcases F7.mp hr with hr|hr
  .exact h 0 _ ys _ O ∅ ∅ f r hr
  .exact h 1 _ ns _ Q ∅ ∅ j r hr
 .apply cH.app (cH.fence G) ?_;rw[u];exact cH.fence H
 .have E:=At.left J;let o:=At.right J;rw[u] at o;let g1:=E.head;let S:=(At.left E.tail);let c1:=(At.right E.tail).head;let g2:=o.head;let R:=(At.left o.tail);let c2:=(At.right o.tail).head;let g:(uF a ch ys ns).l=ys.l+2+(ns.l+2):=by unfold uF;rw[B4,u,C0,B4];rfl
  rw[g];rcases p with p|p
  .have k:=j.keep l i;apply⟨lU ns bs,k.1,k.2,⟨λq=>(by rw[p] at q;cases q),λ_=>j.ef sz bs l i N⟩,?_⟩;let C:=fe.goT (b:=bs) g1 p;let B:=(fe.goF (b:=bs) g2 (by rw[p];decide));let A:=fe.m8 (b:=bs) R H;let y:=fe.aL (b:=lU ns bs) c2 (by rw[k.2 ch (.inl x),p];decide);exact(((C.cast rfl (show a+ys.l+1+1=a+(ys.l+2) by omega)).u B).u A |>.trans y).cast () ()
  .have k:=f.keep l i;apply⟨lU ys bs,k.1,k.2,⟨λ_=>f.ef sz bs l i N,λq=>(by rw[p] at q;cases q)⟩,?_⟩;let C:=fe.goF (b:=bs) g1 (by rw[p];decide);let B:=fe.m8 (b:=bs) S G;let A:=fe.aL (b:=lU ys bs) c1 (by rw[k.2 ch (.inl x),p];decide);let y:=fe.goT (b:=lU ys bs) g2 (by rw[k.2 ch (.inl x),p]);exact((C.u B).u A |>.cast rfl (show a+1+ys.l+1=a+(ys.l+2) by omega) |>.trans y).cast () ()
def jQ(fr:br):bf br->bf k'
 | []=>[]| p::f=>.add fr (.box p)::jQ (fr+1) f
theorem zf:∀{ps:bf br} {fr:br},(jQ fr ps).l=ps.l
 | [],_=>rfl| p::ps,fr=>by show(jQ (fr+1) ps).l+1=_;rw[zf];rfl
def gU(fr:br):bf br->bf br->bf br
 | p::g,q::f=>if p=q then p::gU fr g f else fr::gU (fr+1) g f| _,_=>[]
def uY:bf br->bf br->bf br
 | p::g,q::f=>if p=q then uY g f else p::uY g f| _,_=>[]
def uN:bf br->bf br->bf br
 | p::g,q::f=>if p=q then uN g f else q::uN g f| _,_=>[]
theorem EX:∀{ps qs:bf br},(uY ps qs).l=(uN ps qs).l
 | [],_=>by cases ‹bf br› <;> rfl
 | _::_,[]=>rfl| p::ps,q::qs=>by
  unfold uY uN;split
  .exact EX
  .rw[C0,C0,EX]
theorem Xo:∀{ps qs:bf br} {x:br},x∈uY ps qs->x∈ps
 | [],qs,x,h=>by cases qs <;> exact h
 | _::_,[],x,h=>by cases h
 | p::ps,q::qs,x,h=>by
  unfold uY at h;split at h
  .exact C2 _ (Xo h)
  .rcases D9.mp h with e|h
   .rw[e];exact D0
   .exact C2 _ (Xo h)
theorem Xn:∀{ps qs:bf br} {x:br},x∈uN ps qs->x∈qs
 | [],qs,x,h=>by cases qs <;> cases h
 | _::_,[],x,h=>by cases h
 | p::ps,q::qs,x,h=>by
  unfold uN at h;split at h
  .exact C2 _ (Xn h)
  .rcases D9.mp h with e|h
   .rw[e];exact D0
   .exact C2 _ (Xn h)
theorem Hr:∀{ps qs:bf br} {fr:br},ps.l=qs.l->(gU fr ps qs).l=ps.l
 | [],qs,fr,h=>by cases qs <;> rfl
 | p::ps,[],fr,h=>by cases h
 | p::ps,q::qs,fr,h=>by
  let h:ps.l=qs.l:=Q2 h;unfold gU;split
  .rw[C0,Hr h,C0]
  .rw[C0,Hr h,C0]
theorem W':∀{ps qs:bf br} {fr f0:br},f0<=fr->(∀p∈ps,p<f0)->∀x∈gU fr ps qs,x<fr+(uY ps qs).l
 | [],qs,fr,f0,_,_,x,hx=>by cases qs <;> cases hx
 | p::ps,[],fr,f0,_,_,x,hx=>by cases hx
 | p::ps,q::qs,fr,f0,i,h,x,hx=>by
  let j:=h p D0;let f:=λy g=>h y (C2 _ g);unfold gU at hx;unfold uY;split at hx
  .rename_i e;rw[cu e];rcases D9.mp hx with z|hx
   .omega
   .exact W' i f x hx
  .rename_i e;rw[cp e,C0];rcases D9.mp hx with z|hx
   .omega
   .have:=W' (fr:=fr+1) (f0:=f0) () f x hx;omega
mutual
def cQ(W:br)(bs:bf gq):ai->br->bf br->br->bf k'×bf br×br×br
 | .is x c,_,g,h=>((yc W bs g h (.is x c)).1,(yc W bs g h (.is x c)).2.1,(yc W bs g h (.is x c)).2.2,(yc W bs g h (.is x c)).1.l)| .op x o c d,_,g,h=>((yc W bs g h (.op x o c d)).1,(yc W bs g h (.op x o c d)).2.1,(yc W bs g h (.op x o c d)).2.2,(yc W bs g h (.op x o c d)).1.l)| .e_ c i j,a,g,h =>
  let y:=bB W bs i a g h;let n:=bB W bs j (a+y.1.l) g y.2.2.1;let f:=bq n.2.2.1 c;let pre:=y.1++n.1++dQ n.2.2.1 c++[.take f (.box (fO bs g n.2.2.1 c)),.turn (f+1) 0 [(f,31)]]
  (pre++uF (a+pre.l) (f+1) (jQ (f+2) (uY y.2.1 n.2.1)) (jQ (f+2) (uN y.2.1 n.2.1)),gU (f+2) y.2.1 n.2.1,f+2+(uY y.2.1 n.2.1).l,y.2.2.2+n.2.2.2+(dQ n.2.2.1 c).l+2+((uY y.2.1 n.2.1).l+3))
 | .fN _ _,_,g,h=>([],g,h,0)
def bB(W:br)(bs:bf gq):bf ai->br->bf br->br->bf k'×bf br×br×br
 | [],_,f,g=>([],f,g,0)| r::h,a,f,g =>
  let x:=cQ W bs r a f g;let t:=bB W bs h (a+x.1.l) x.2.1 x.2.2.1
  (x.1++t.1,t.2.1,t.2.2.1,x.2.2.2+t.2.2.2)
end
theorem CO:∀{ps qs:bf br},(uY ps qs).l<=ps.l
 | [],qs=>by cases qs <;> exact B9 _
 | _::_,[]=>J8 _| p::ps,q::qs=>by
  let:=CO (ps:=ps) (qs:=qs);unfold uY;split
  .rw[C0];omega
  .rw[C0,C0];omega
def wu6:(uF a ch ys ns).l=ys.l+ns.l+4:=by unfold uF;rw[B4,C0,C0,B4,B4];show ys.l+1+1+(ns.l+1+1)=_;omega
def Gn(bs:bf gq)(fr sz:br)(x:bf k'×bf br×br×br):ck:=x.1.l<=22*sz/\x.2.2.1<=fr+9*sz/\fr<=x.2.2.1/\x.2.1.l=bs.l/\x.2.2.2<=22*sz
mutual
theorem vc3{bs:bf gq}(B:W<=16)(L:bs.l<=6):∀(r:ai) {a:br} {pl:bf br} {fr:br},ou W bs r->yq r->pl.l=bs.l->Gn bs fr (qY r) (cQ W bs r a pl fr)
 | .is x c,a,pl,fr,q,_,p=>by let H:=qW (fr:=fr) c;exact#[by show(dQ fr c).l<=22*1;omega,by show bq fr c<=fr+9*1;omega,H.1,by show(fh bs pl x _).l=_;unfold fh;rw[K2];exact p,by show(dQ fr c).l<=22*1;omega]| .op x o c d,a,pl,fr,q,_,p=>by
  obtain⟨hx,R,_,_⟩:x∈bs/\o∈L3.signs/\lq W bs c/\lq W bs d:=q;let H:=qW (fr:=fr) c;let lc:=qW (fr:=bq fr c) d;let sl:=w24 (fr:=bq (bq fr c) d) (o:=o);let lg:=wz6 (W:=W) (x:=fO bs pl fr c) (y:=fO bs pl (bq fr c) d) (fr:=bq (bq fr c) d) B R;let I:(dQ fr c++dQ (bq fr c) d++gR W (fO bs pl fr c) (fO bs pl (bq fr c) d) (bq (bq fr c) d) o).l<=22*1:=by rw[B4,B4];omega
  exact#[I,by show oo _ o<=fr+9*1;omega,by show fr<=oo _ o;omega,by show(fh bs pl x _).l=_;unfold fh;rw[K2];exact p,I]
 | .e_ c f g,a,pl,fr,q,A,p=>by
  obtain⟨_,u,X⟩:lq W bs c/\dF W bs f/\dF W bs g:=q;obtain⟨U,S⟩:gf f/\gf g:=A;let J:=uU B L f (a:=a) (fr:=fr) u U p;show Gn bs fr (1+cC f+cC g) ((bB W bs f a pl fr).1++(bB W bs g (a+(bB W bs f a pl fr).1.l) pl (bB W bs f a pl fr).2.2.1).1++_++_++_,_,_,_);generalize bB W bs f a pl fr=y at J⊢;let#[l,h,m,G]:=y;obtain⟨y1,y2,Z,M,Y⟩:l.l<=22*cC f/\m<=fr+9*cC f/\fr<=m/\h.l=bs.l/\G<=22*cC f:=J;let E:=uU B L g (a:=a+l.l) (fr:=m) X S p;show Gn bs fr (1+cC f+cC g) (l++(bB W bs g (a+l.l) pl m).1++_++_++_,_,_,_);generalize bB W bs g (a+l.l) pl m=n at E⊢;let#[t,i,j,C]:=n;obtain⟨n1,n2,n3,n4,n5⟩:t.l<=22*cC g/\j<=m+9*cC g/\m<=j/\i.l=bs.l/\C<=22*cC g:=E;let hp:=qW (fr:=j) c;let hu:=CO (ps:=h) (qs:=i);let Q:=EX (ps:=h) (qs:=i);apply#[?_,?_,?_,?_,?_]
  .show(l++t++dQ j c++[_,_]++uF _ _ (jQ _ (uY h i)) (jQ _ (uN h i))).l<=_;rw[B4,B4,B4,B4,wu6,zf,zf];show l.l+t.l+(dQ j c).l+2+_<=_;omega
  .show bq j c+2+(uY h i).l<=_;omega
  .show fr<=bq j c+2+(uY h i).l;omega
  .show(gU _ h i).l=_;rw[Hr ()];exact M
  .show G+C+(dQ j c).l+2+((uY h i).l+3)<=_;omega
 | .fN k f,a,pl,fr,_,A,_=>A.n
theorem uU{bs:bf gq}(p:W<=16)(o:bs.l<=6):∀(rs:bf ai) {a:br} {pl:bf br} {fr:br},dF W bs rs->gf rs->pl.l=bs.l->Gn bs fr (cC rs) (bB W bs rs a pl fr)
 | [],a,pl,fr,_,_,j=>#[J8 _,U0 _ _,B9 _,j,J8 _]| r::rs,a,pl,fr,E,G,j=>by obtain⟨H,I⟩:ou W bs r/\dF W bs rs:=E;obtain⟨x,A⟩:yq r/\gf rs:=G;let t:=vc3 p o r (a:=a) (fr:=fr) H x j;show Gn bs fr (qY r+cC rs) ((cQ W bs r a pl fr).1++_,_,_,_);generalize cQ W bs r a pl fr=y at t⊢;let#[g,i,f,l]:=y;obtain⟨N,M,L,u,J⟩:g.l<=22*qY r/\f<=fr+9*qY r/\fr<=f/\i.l=bs.l/\l<=22*qY r:=t;let q:=uU p o rs (a:=a+g.l) (fr:=f) I A u;show Gn bs fr (qY r+cC rs) (g++(bB W bs rs (a+g.l) i f).1,_,_,_);generalize bB W bs rs (a+g.l) i f=n at q⊢;let#[m,B,h,k]:=n;obtain⟨S,R,Q,C,O⟩:m.l<=22*cC rs/\h<=f+9*cC rs/\f<=h/\B.l=bs.l/\k<=22*cC rs:=q;exact#[by show(g++m).l<=_;rw[B4];omega,by show h<=_;omega,by show fr<=h;omega,C,by show l+k<=_;omega]
end
end Rw
namespace L2
open PySem PySem.Spec PyProof.Rows
section
variable{X:Cx}{tg:gI}
def uw8:bK X (.type "dict") (λxs H Q=>∃a kvs,xs=[.ref a]/\H a=du (.dK kvs)/\∀p,H p=dv->Q (.ref p) (l6 H p (.dK kvs))):=by intro kI s k H xs l Q I r h;let#[a,kvs,rfl,i,q]:=h;let#[u,rfl,f]:=vals1 r;cases f;exact vz0 I (.of i) λp m g j=>#[.ref p,_,j,rfl,q p g]
def wy4(k ty:TE):TE:=λi H Q=>k i H λx j=>∃a,x=.ref a/\Sj j a/\ty i j λy h=>∃b g f,y=.ref b/\a≠b/\h a=du (.dK g)/\h b=du (.dK f)/\g.l+f.l<=iZ/\Q .non (l6 h a (.dK (Fh g f)))
def wn4(ho:PE X o G)(i:PE X e ty)(m:M1 X o "update" f e aS):PE X (.Call (.Attribute o "update" f) [e] [] aS) (wy4 G ty):=by
 intro kI s l H Q I h
 (apply vZ m.Q m.few m.line Y7 RZ PySem.F.type_dict_update (bu (ho kI s l H _ I h) ?_);intro u O #[x,H1,B,S,a,ex,d,Y])
 subst ex;obtain rfl:u=F8 a:=S;let#[L,J,_]:=Qd B d;apply#[L,J,?_];rw[m.trees]
 (apply R7 rfl (TJ (R4 (bu (i kI O l H1 _ B Y) ?_)));intro iv N #[y,H2,k,R,b,k1,Z,ey,iJ,p,hb,n,U];apply U6 ?_)
 subst ey;obtain rfl:iv=F8 b:=R;let#[z1,Lx,WO,C,t]:=GX k.aB p;let#[z2,j,g,A,E]:=GX k.aB hb;apply OU RZ t.B PySem.F.entry_dict_update (PySem.F.args_dict_update_2 _ _) (meets_dict_update (eW X.c X.w) a b iJ j) #[WO,g,t,E,by rw[<- C.l,<- A.l];exact n,λh' r d2 M=>?_];let i:∃q,h'.r a=du q:=let ⟨q,_,_,hq,_⟩:=r;#[q,hq];let hl:=ue3 Z k1;exact#[.non,_,Fm (t':=N.H) k (by rw[p];exact R0) M i (Qb (D4 hl n) Lx (A.merge C) r),rfl,U]
def BX(a:fy)(o:jC)(kvs:bf (lR×V)):It:=#[λi H=>(∃f,H a=du (.dR o (.dK f))/\f.t (·.1)=kvs.t (·.1))/\i<kvs.l,λi H v g=>g=H/\∃p,kvs[i]?=du p/\v=kV p.1,λi H=>(∃f,H a=du (.dR o (.dK f))/\f.t (·.1)=kvs.t (·.1))/\kvs.l<=i]
def xf4(h:(eW P w).is k u=dS):RelV (kV k) u:=by
 rcases yn h with⟨i,t,rfl,rfl⟩|⟨x,t,rfl,rfl⟩
 .exact⟨t,rfl⟩
 .exact⟨t,rfl⟩
def w79(ok:gP P w H h)(e:H a=du (.dR o (.dK kvs)))(k:o.data=.dict r ep):(a==R8)=eH/\∃vs,KV kvs vs/\h.DictAt (eW P w) a vs ep:=by let#[j,z,l,vs,f,t,x,u,i,q,g,p,m,n]:=(show bC P w H h a (.dR o (.dK kvs)) from ok a _ e);rw[j] at i;cases i;rw[k] at g;cases g;exact#[l,vs,f,o,r,j,q,k,p,m,n]
def vd0{P:hH}{w:hL}{K:eM}(it a:fy)(o:jC)(kvs:bf (lR×V)){es:dc QH}{ep:br}(S:o.data=.dict es ep):Turn P w K tg (BX a o kvs) [it] it (λi h=>h.IsKeyIter it a i kvs.l ep) where
 mem:=by simp
 obj:=λi h st b l=>by
  let e:b=it:=by simpa using l
  subst e;let#[o,e,c,d]:=st;exact#[o,e,λv z=>by rw[d] at z;cases z]
 keep:=λi h u st k=>let ⟨o,e,r⟩:=st;#[o,k it (by simp) o e,r]
 item:=by
  intro X C hw G U i kI s O H E I t st B;subst C hw G;let#[N,f1,f2,M,L,J]:=t it (by simp);obtain⟨⟨g,j,x⟩,Y⟩:(∃g,H a=du (.dR o (.dK g))/\g.t (·.1)=kvs.t (·.1))/\i<kvs.l:=B;let#[_,n,f,m]:=w79 I.aB j S;let y:kvs.l=n.l:=by let:=cv J1 x;rw[B0,B0] at this;rw[<- f.l,this]
  let hk:=x.M.u f.keys;obtain⟨p,R⟩:∃p,n[i]?=du p:=#[_,B6 ()];let DZ:kvs[i]?.map (·.1)=du p.1:=by rw[<- F5,hk,F5,R];rfl
  let#[q,hq,nZ]:=F6.mp DZ;rw[y] at st;apply wpAny_pyNext_dict_item (k:=p.1) (v:=p.2) st m R λkey u A Q sb=>?_;let I1:lp X kI O H { s with heap:=u}:=I.turned (t':=s.H) (λb o l e=>(sb.2 b l).u e) N f1 M L J;let#[o2,e,cc,d]:=id Q;exact#[_,rfl,ES (s:={ s with heap:=u}) e cc d ∅ #[kV p.1,H,I1,xf4 A,#[rfl,q,hq,by rw[nZ]],by rw[y];exact Q,λb l=>(t b l).1]]
 done:=by
  intro X C hw G U i kI s O H E I t st B;subst C hw G;let#[N,f1,f2,M,L,J]:=t it (by simp);obtain⟨⟨g,j,x⟩,Y⟩:(∃g,H a=du (.dR o (.dK g))/\g.t (·.1)=kvs.t (·.1))/\kvs.l<=i:=B;let#[_,n,f,m]:=w79 I.aB j S;let y:kvs.l=n.l:=by let:=cv J1 x;rw[B0,B0] at this;rw[<- f.l,this]
  rw[y] at st;exact wpAny_pyNext_dict_end (I.ok.hd U) st m (M9 ()) λu eb=>#[rfl,I.turned (t':=s.H) (λb o l e=>eb b o l e) N f1 M L J]
 self:=λ_ _ _ _ _ st h=>wpAny_pyIter_keyiter st h
def xh1(h:TE):TI:=λg H R=>h g H λv f=>∃a kvs,v=.ref a/\f a=du (.dK kvs)/\∀o,R (BX a o kvs) (l6 f a (.dR o (.dK kvs)))
def vt9(L:PE X l B):PI X tg l (xh1 B):=by
 intro kI s k H R I h
 (apply bu (L kI s k H _ I h) ?_;intro v f #[y,A,x,C,E])
 let#[a,kvs,rfl,r,q]:=E;obtain rfl:v=F8 a:=C;let#[z,p,m,g,dd]:=GX x.aB r;let#[o,S,u,i,N,t,M,G,J]:=id dd;let j:lp X kI k (l6 A a (.dR o (.dK kvs))) { f with heap:=f.o,toks:=f.H}:=Fm x (by rw[r];exact R0) (D68 _ _) #[o,i] #[i,z,p,m,g,dd];let Q:∀b∈[f.o.h.v],ja X kI (l6 A a (.dR o (.dK kvs))) b:=λb O=>by
  let e:b=f.o.h.v:=by simpa using O
  subst e;exact j.oM (B9 _) (j.aB.y (B9 _))
 apply wpAny_pyIter_dict p (kvs:=m) (ep:=u) #[o,S,i,N,t,M,G,J] ?_;apply#[f.o.h.v,[f.o.h.v],_,_,_,rfl,j.kept (t':=f.H) λb o e=>B8 _ e,vd0 (f.o.h.v) a o kvs t,?_,Q,q o];rw[g.l];exact#[_,E7 _ rfl,rfl,rfl]
end
end L2
namespace L3
open PySem PySem.Spec PyProof.Rows L2
section
variable{X:Cx}{K:eM}{G:Gp}{H:Hp}{tg e:gI}{te:bI}
@[reducible] def wa2:C3:=λf G q=>∃a kvs,f=[.ref a]/\G a=du (.bR kvs)/\∀p,G p=dv->q (.ref p) (aC G p (.bR kvs))
def Yp:Call3 X (.type "dict") wa2:=nR uw8 <| by rintro xs H Q ⟨l,G,q,r,c,⟨a,kvs,rfl,k,t⟩,f⟩;let#[v,rfl,i]:=r.one;cases i.ao;let#[h,e,j]:=c a _ k;exact#[a,h,rfl,e,λp g=>f (.ref p) _ (.ref p) _ af.fG (c.put (o:=.bR kvs) (Le.y g) #[_,iL,j.le (Le.y g)]) (Le.y g) (t p (c.y g))]
def Ff(kvs more:bf (lR×D)):bf (lR×D):=more.foldl (λf g=>oi f g.1 g.2) kvs
theorem uv4:∀{more:bf (lR×D)} {ms:bf (lR×V)} {kvs:bf (lR×D)} {ys:bf (lR×V)},aG K H more ms->aG K H kvs ys->aG K H (Ff kvs more) (Fh ys ms)
 | [],ms,kvs,ys,h,k=>by
  let:ms=[]:=by let:=cv J1 h.1;simpa using this.M
  subst this;exact k
 | p::more,[],kvs,ys,h,k=>by let:=cv J1 h.1;simp at this| p::more,m::ms,kvs,ys,h,k=>by
  let#[g,f]:=h;rw[C1,C1] at g f;let#[v,t,e,j,i]:=f.aq;injection e with r q;injection g with o n;let l:aG K H (oi kvs p.1 p.2) (putK ys m.1 m.2):=by rw[<- o];exact Ye (by rw[r];exact j) k
  exact uv4 (more:=more) (ms:=ms) #[n,by rw[q];exact i] l
def El(k ty:bI):bI:=λi G q=>k i G λx j=>(∃a kvs,x=.ref a/\j a=du (.bR kvs))/\ty i j λy h=>∃a b g f,x=.ref a/\y=.ref b/\a≠b/\h a=du (.bR g)/\h b=du (.bR f)/\g.l+f.l<=iZ/\q .non (aC h a (.bR (Ff g f)))
def vf2{κ:Type}{kvs:bf (κ×D)}{ys:bf (κ×V)}(rp:aG K H kvs ys):ys.l=kvs.l:=by let:=cv J1 rp.1;rw[B0,B0] at this;exact this.M
def wp4{p ty:bI}{l:L2.St}{Q:VK}(h:aQ K (El p ty) l H Q):wy4 (aQ K p) (aQ K ty) l H Q:=by let#[g,G,q,r,c,t,f]:=h;apply#[g,G,_,r,c,t,λx G1 v H1 N c1 C j=>?_];let#[#[a,kvs,rfl,Z],j]:=j;let#[I,e,rp]:=c1 a _ Z;apply#[a,N.ao,.inl #[I,.of e],g,G1,_,r.le C,c1,j,λy G2 u E M c2 O L=>?_];let#[a',b,S,R,i,rfl,U,h1,h2,Y,J]:=L;cases i;cases M.ao;let#[n,i,B]:=c2 a _ h1;let#[m,e2,A]:=c2 b _ h2;let k:Le E (l6 E a (.dK (Fh n m))):=Le.dK i;exact#[b,n,m,rfl,U,i,e2,by rw[vf2 B,vf2 A];exact Y,f _ _ _ _ af.vK (c2.put (o:=.bR (Ff S R)) k #[_,iL,(uv4 A B).le k]) (C.u (O.u k)) J]
def xr2{f g:jU}(i:E3 X o to)(j:E3 X e te)(l:O1 o "update" X.f (eval o X.f)=eval o X.env:=by rfl)
  (h:((backTo g (D2 [e] X.f)).all (λx=>!x.1)&&(Y0 g (Q4 [] X.f)).all (λx=>x.1.fg)
   && decide (([e]:bf gI).l+([]:bf i4).l+(if([]:bf i4).isEmpty then 0 else 1)<30))=dS:=by rfl)
  (k:(f.endLine==g.line)=dS:=by rfl) (m:D2 [e] X.f=[(eH,eval e X.f)]:=by rfl):E3 X (.Call (.Attribute o "update" f) [e] [] g) (El to te):=
 dW (wn4 i j #[l,h,k,by rw[m];rfl]) λ_ _ _=>wp4
theorem Le.dR(h:H a=du (.dK ys)):Le H (l6 H a (.dR o (.dK ys))):=
 #[λb f q=>by
  by_cases e:b=a
  .subst e;rw[h] at q;cases q
  .rw[dj e];exact q,λb o u q=>by
  by_cases e:b=a
  .subst e;rw[h] at q;cases q
  .rw[dj e];exact q]
def va1{kvs:bf (lR×D)}{ys:bf (lR×V)}(g:kvs.t (·.1)=ys.t (·.1)):jq K u #[kvs.t λf=>kD f.1,λG=>G a=du (.sf o kvs)] (BX a o ys) where
 go:=λi G H l c n hi=>by let#[h,k,j]:=c a _ n;let hi:i<(kvs.t λf=>kD f.1).l:=hi;let m:=cv J1 g;rw[B0,B0] at m;rw[B0] at hi;exact#[#[h,k,j.1.M.u g],()]
 stop:=λi G H l c n hi=>by let#[h,k,j]:=c a _ n;let hi:(kvs.t λf=>kD f.1).l<=i:=hi;let m:=cv J1 g;rw[B0,B0] at m;rw[B0] at hi;exact#[#[h,k,j.1.M.u g],()]
 qS:=λi G H v A l c _ hi y=>by
  let#[rfl,p,q,rfl]:=y;apply#[c,Le.j _,kD p.1,?_,?_]
  .show(kvs.t λf=>kD f.1)[i]?=_;let e:(kvs.t (·.1))[i]?=du p.1:=by rw[g,F5,q];rfl
   rw[F5] at e⊢;let#[w,hw,r]:=F6.mp e;rw[hw];show du (kD w.1)=_;rw[r]
  .cases p.1 with
   | inl i=>show af K _ (.int i) (.int i);rw[af]| inr x=>show af K _ (.str x) (.str x);rw[af]
def w14(te:bI):uH:=λg G r=>te g G λd f=>∃a kvs,d=.ref a/\f a=du (.bR kvs)/\∀o,r #[kvs.t λh=>kD h.1,λG=>G a=du (.sf o kvs)] (aC f a (.sf o kvs))
def wr5(h:E3 X e te):I3 X tg e (w14 te):=CD (vt9 h) λx H R r=>by let#[g,G,q,m,c,t,f]:=r;apply#[g,G,_,m,c,t,λd A v y n c1 p l=>?_];let#[a,kvs,rfl,u,k]:=l;let#[i,e,j]:=c1 a _ u;apply#[a,i,n.ao,e,λo=>f _ _ _ _ (va1 j.1) (c1.put (o:=.sf o kvs) (Le.dR e) #[i,iL,j.le (Le.dR e)]) (p.u (Le.dR e)) (k o)]
def PH(i h:bI):bI:=λf G q=>i f G λx j=>h f j λy g=>∃a o kvs k d,x=.ref a/\y=kD k/\g a=du (.sf o kvs)/\dq kvs k=du d/\q d g
def vx0(h:aQ K (PH E C) p H Q):WD (aQ K E) (aQ K C) p H Q:=by
 let#[g,G,q,j,c,t,f]:=h;apply#[g,G,_,j,c,t,λx U v H1 O c1 m L=>#[g,U,_,j.le m,c1,L,λy G2 u Z N c2 l J=>?_]];let#[a,o,kvs,k,d,rfl,rfl,R,n,I]:=J;let S:=af.le l O;cases S.ao;obtain rfl:=CH N;let#[B,e,M]:=c2 a _ R;rcases HF (k:=k) M with⟨z,_⟩|⟨Y,w,i,A,r⟩
 .rw[n] at z;cases z
 .rw[n] at i;cases i;exact⟨a,w,rfl,.inl ⟨B,k,.inr ⟨o,e⟩,rfl,A.M⟩,f _ _ _ _ r c2 (m.u l) I⟩
def vm5(h:aZ k X.A)(j:E3 X o to)(hi:E3 X i f)(g:uL i:=by exact λ_ _=>rfl):E3 X (.Subscript o i pos) (PH to f):=dW (vg5 (PK h) j hi g) λ_ _ _=>vx0
end
end L3
namespace L3
open PySem PySem.Spec PyProof.Rows L2
section
variable{X:Cx}{K:eM}{H:Hp}
def sN(c:cx K G H)(h:G a=du (.bR kvs)\/∃o,G a=du (.sf o kvs)):∃ys,Rd H a (.dK ys)/\aG K H kvs ys:=by
 rcases h with h|h
 .let#[ys,e,f]:=c a _ h;exact#[ys,.inl e,f]
 .let#[o,h]:=h;let#[ys,e,f]:=c a _ h;exact#[ys,.inr #[o,e],f]
end
end L3
namespace L3
open PySem PySem.Spec PyProof.Rows L2
def Hb(kvs:bf (lR×D))(k:lR):bf (lR×D):=kvs.filter λp=>!decide (p.1=k)
def Uz(j i:bI):bI:=λf G q=>j f G λx h=>(∃a kvs,x=.ref a/\h a=du (.bR kvs))/\i f h λy g=>∃a kvs k v,x=.ref a/\y=kD k/\g a=du (.bR kvs)/\dq kvs k=du v/\q v (aC g a (.bR (Hb kvs k)))
theorem v62{K:eM}{H:Hp}{k:lR}:∀{kvs:bf (lR×D)} {ys:bf (lR×V)},aG K H kvs ys->aG K H (Hb kvs k) (Az ys k)
 | [],[],f=>f| [],_::_,f=>by cases f.1
 | _::_,[],f=>by cases f.1
 | p::kvs,y::ys,⟨g,m⟩=>by
  rw[C1,C1,W6] at g;let#[z,n,e,l,j]:=(show ah K H (p.2::kvs.t (·.2)) (y.2::ys.t (·.2)) from m).aq;cases e;let#[i,h]:=v62 (k:=k) (kvs:=kvs) (ys:=ys) #[g.2,j];unfold Hb Az at i h⊢;rw[Tq,Tq,<- g.1];by_cases e:p.1=k
  .rw[cp (by simp[e]),cp (by simp[e])];exact#[i,h]
  .simp only[e,decide_false,oG,if_true,ne_eq,not_false_eq_true,decide_true];exact#[by rw[C1,C1,g.1,i],.cons l h]
def vw1{K:eM}{H:Hp}{r p:bI}{m:L2.St}{Q:VK}(h:aQ K (Uz r p) m H Q):w20 (aQ K r) (aQ K p) m H Q:=by
 let#[g,G,q,A,c,t,f]:=h;apply#[g,G,_,A,c,t,λx G1 v H1 X c1 B l=>?_];let#[#[a,kvs,rfl,ha],l]:=l;let#[N,e,rp]:=c1 a _ ha;apply#[a,X.ao,.inl #[N,.of e],g,G1,_,A.le B,c1,l,λy G2 u L U c2 Y S=>?_];let#[a',Kv,k,v3,e1,rfl,Z,C,R]:=S;cases e1;obtain rfl:=CH U;let#[J,E,I]:=c2 a _ Z;rcases HF (k:=k) I with⟨i,n⟩|⟨d',O,i,n,M⟩
 .rw[C] at i;cases i
 .rw[C] at i;cases i;let j:Le L (l6 L a (.dK (Az J k))):=Le.dK E;exact⟨J,k,O,E,rfl,n,f _ _ _ _ (M.le j) (c2.put (o:=.bR (Hb Kv k)) j ⟨_,iL,(v62 I).le j⟩) (B.u (Y.u j)) R⟩
def xh5{f g:jU}(i:E3 X o to)(j:E3 X e te)(l:O1 o "pop" X.f (eval o X.f)=eval o X.env:=by rfl)
  (h:((backTo g (D2 [e] X.f)).all (λx=>!x.1)&&(Y0 g (Q4 [] X.f)).all (λx=>x.1.fg)
   && decide (([e]:bf gI).l+([]:bf i4).l+(if([]:bf i4).isEmpty then 0 else 1)<30))=dS:=by rfl)
  (k:(f.endLine==g.line)=dS:=by rfl) (m:D2 [e] X.f=[(eH,eval e X.f)]:=by rfl):E3 X (.Call (.Attribute o "pop" f) [e] [] g) (Uz to te):=
 dW (vu5 i j ⟨l,h,k,by rw[m];rfl⟩) λ_ _ _=>vw1
end L3
namespace L2
open PySem PySem.Spec PyProof.Rows
section
variable{X:Cx}
def Ez(v d:fy):HO:=.ext λh=>h.IsValuesView v d
def w19(h:TE):TE:=λg H Q=>h g H λx f=>∃(a:fy) (kvs:bf (lR×V)),x=.ref a/\Rd f a (.dK kvs)/\∀v,f v=dv->Q (.ref v) (l6 f v (Ez v a))
def vu4{f n:jU}(C:PE X o t)(J:O1 o "values" X.f (eval o X.f)=eval o X.env:=by rfl)(G:(f.endLine==n.line)=dS:=by rfl):
  PE X (.Call (.Attribute o "values" f) [] [] n) (w19 t):=by
 intro kI s r H Q I h
 (apply wpAny_Call_method0_late J G (bu (C kI s r H _ I h) ?_);intro v g #[x,U,i,B,a,kvs,rfl,m,q])
 obtain rfl:v=F8 a:=B;let#[A,y,_]:=Qd i (.inl #[kvs,m]);let#[N,M,L,Y,p]:=yX i.aB m;apply#["dict", "dict.values",Y7,SG,PySem.F.type_dict_values,A,y,R7 rfl (P' ?_)];apply OU SG p.B PySem.F.entry_dict_values (PySem.F.args_dict_values_1 _) (meets_dict_values (eW X.c X.w) a M) #[#[L,p],?_];let l:(g.o.R { cls:=.type "dict_values",data:=.fields [.ref a].e}).r g.o.h.v=du { cls:=.type "dict_values",data:=.fields [.ref a].e}:=E7 _ rfl;apply#[.ref g.o.h.v,_,i.laid (t':=g.H) (o:=Ez g.o.h.v a) (λb u E=>B8 _ E) (B9 _) #[#[_,l,rfl,rfl],#[_,l],λS R ⟨o,e,c⟩ k=>#[o,k o e,c]],rfl,q _ (i.aB.y (B9 _))]
def KV.vals{κ:Type}{kvs:bf (κ×V)}{vs:bf (κ×fx)}(r:KV kvs vs):Vals (kvs.t (·.2)) (vs.t (·.2)):=by
 induction r with
 | nil=>exact .nil| cons h _ f=>exact .cons h.2 f
def va6(hh:X.A.handled=dv):bK X (.type "list") (λxs H Q=>∃(v a:fy) (kvs:bf (lR×V)),xs=[.ref v]/\H v=du (Ez v a)/\Rd H a (.dK kvs)/\∀(l:fy),H l=dv->Q (.ref l) (l6 H l (.lst (kvs.t (·.2))))):=by
 intro kI s σ H xs us Q I r h;let#[v,a,kvs,rfl,y,M,q]:=h;let#[u,rfl,x]:=vals1 r;cases x;let#[k,_,_]:=I.aB v _ y;let#[z,L,i,g,dd]:=yX I.aB M;let#[o,S,p,E,N,R,Z,C,G]:=id dd;let FX:=g.l;apply W.kdl_call (W.kdl_values (kvs:=i) (ep:=p)) hh #[k,o,S,E,N,R,Z,C,G] () λh' t f U Y J n=>?_;let m:f.L.l=i.l:=by rw[L4];exact n.1
 let hi:f.L=i.t (·.2):=W.kdl_vals_eq _ m λj u e=>n.2 j u (by rw[<- TK];exact e);let B:Vals (kvs.t (·.2)) f.toList:=by rw[hi];exact g.vals
 apply#[.ref s.o.h.v,_,I.laid (t':=t) (λb u O=>Y b u O) (B9 _) (show bC X.c X.w _ _ _ (.lst (kvs.t (·.2))) from #[by rw[B0];omega,f.L,U,B,J]),rfl,q _ (I.aB.y (B9 _))]
end
end L2
namespace L3
open PySem PySem.Spec PyProof.Rows L2
section
variable{X:Cx}{K:eM}{H:Hp}
def UC(h:bI):bI:=λg G q=>h g G λx f=>∃(a:fy) (kvs:bf (lR×D)),x=.ref a/\(f a=du (.bR kvs)\/∃o,f a=du (.sf o kvs))/\∀p,f p=dv->q (.ref p) (aC f p (.lst (kvs.t (·.2))))
def wy2(h:TE):TE:=λg H Q=>WC (w19 h) zo g H λxs f=>∃(v a:fy) (kvs:bf (lR×V)),xs=[.ref v]/\f v=du (Ez v a)/\Rd f a (.dK kvs)/\∀(l:fy),f l=dv->Q (.ref l) (l6 f l (.lst (kvs.t (·.2))))
def vv8(h:aQ K (UC x) r H Q):wy2 (aQ K x) r H Q:=by
 let#[g,G,q,B,c,t,f]:=h;apply#[g,G,_,B,c,t,λd M v m E c1 I A=>?_];let#[a,kvs,rfl,J,y]:=A;cases E.ao;let#[i,e,C]:=sN c1 J;apply#[a,i,rfl,e,λv j=>?_];let n:Le m (l6 m v (Ez v a)):=Le.y j;let p:a≠v:=by rintro rfl;rcases e with e|⟨_,e⟩ <;> rw[j] at e <;> cases e
 let L:Rd (l6 m v (Ez v a)) a (.dK i):=by
  rcases e with e|⟨o,e⟩
  .exact .inl (by rw[dj p];exact e)
  .exact .inr ⟨o,by rw[dj p];exact e⟩
 apply⟨v,a,i,rfl,iL,L,λl k=>?_⟩;let c2:=c1.side (u:=Ez v a) j;exact f _ _ _ _ af.fG (c2.cY k (C.le n).2) (I.u (n.u (Le.y k))) (y l (c2.y k))
def va4(i:aZ k X.A){f g p pos:jU}(j:E3 X o to)(m:Gl X "list")(l:X.mg "list" = dv)(q:O1 o "values" X.f (eval o X.f)=eval o X.env:=by rfl)(n:(f.endLine==g.line)=dS:=by rfl)
  (h:D2 [.Call (.Attribute o "values" f) [] [] g] X.f=(eH,eval (.Call (.Attribute o "values" f) [] [] g) X.f)::D2 [] X.env:=by rfl):
  E3 X (.Call (.Name "list" p) [.Call (.Attribute o "values" f) [] [] g] [] pos) (UC to):=
 dW (uu8 (va6 i.hd) m l ∅ (vg6 (vu4 j q n) w68 h)) λ_ _ _=>vv8
end
end L3
namespace L2
open PySem PySem.Spec PyProof.Rows
def vm8:OQ (.type "list") "keys" = pure dv:=by rw[wy,vz];kernel_rfl
def wt2{A:iC}{s:fC}(h:s.o.r a=du o)(j:o.cls=.type "list")(m:o.data=.seq xs k)(i:o.dict=dv)(t:A.handled=dv) (q:∀h' tk,(∀b o,s.o.r b=du o->h'.r b=du o)->Q dv { s with heap:=h',toks:=tk}):i3 (model prog w) A (Ss (.ref a) "keys") Q E s:=by
 let#[c,u,x,p]:=o;simp only at j m i;subst j m i;let#[r,g,d,tk,os]:=s;let l:∀n,(#[r,g,d,n,os]:fC).TypeIs (.ref a) "list" := λ_=>#[_,h,rfl];let f1:=sub_AttributeError;let I:=F.slot_list_getattribute.q;let H:=F.slot_list_getattribute.bind (.ref a);let G:=am_list_getattr_none;unfold Ss getAttrBy? getAttrBy;repeat(any_goals (first|assumption|exact l _|((with_reducible show i3 _ _ (call (BK "list.__getattribute__") _ _) _ _ _);apply Cj F.slot_list_getattribute (l _) am_entry_list_getattribute (F.args_list_getattribute_2 _ _) (meets_getattribute_miss_list a xs k p "keys" _ vm8 ∅) ⟨h,t,λh' n e f=>?_⟩)|wp_step))
 let#[B,y,C]:=f.there;show i3 _ _ (Tv _ _ _ _ _ _ _) _ _ _;unfold Tv;repeat(any_goals (first|assumption|wp_step))
 exact q _ _ f.keeps
def Pr2(h:hR)(T:fy)(x y:fx):ck:=∃o n,h.r T=du o/\o.cls=.type "tuple" /\ o.data=.seq [x,y].e n
def wt1 {prog: hH} {w: hL} {A: iC} {s: fC} {R: Result -> fC -> ck} {l it S: fy} {us: dc fx} {h1: hR} (hh: A.in1.handled = dv) (hS: S ≠ it) (hSl: S ≠ l) (hil: it ≠ l) {ks:bf lR} {rv:bf V} (hn:ks.l=rv.l) (hu:us.v=ks.l) (hz:ks.l<=1000) (hl:h1.IsList l us) (pr:∀(i:br) (k:lR) (v:V),ks[i]?=du k->rv[i]?=du v->∃(T:fy) (x y:fx),us[i]?=du (F8 T)/\T≠S/\T≠it/\Pr2 h1 T x y/\RelV (kV k) x/\RelV v y) (q:∀(h':hR) (tk:br) (vs:bf (lR×fx)),(∀b o,b≠S->b≠it->h1.r b=du o->h'.r b=du o)->KV (putAll ks rv []) vs->h'.DictOf (eW prog w) S vs->R (.ok (.ret .none)) { s with heap:=h',toks:=tk}): ∀(k i:br) (h:hR) (tk:br) (ii:bz) (kvs:bf (lR×V)) (vs:bf (lR×fx)),ks.l-i=k->i<=ks.l->h.IsListIter it l i->KV kvs vs->h.DictOf (eW prog w) S vs->kvs.l<=i->putAll (ks.G i) (rv.G i) kvs=putAll ks rv [] -> (∀b o,b≠S->b≠it->h1.r b=du o->h.r b=du o)->uO (model prog w) A (.builtin "dict.update.loop" { pos:=[.ref S,.ref it,rawInt ii,.none]}) R { s with heap:=h,toks:=tk}:=by
  let li:∀h:hR,(∀b o,b≠S->b≠it->h1.r b=du o->h.r b=du o)->h.IsList l us:=λh kp=>by let#[o,e,r]:=hl;exact#[o,kp l o (E1 hSl) (E1 hil) e,r]
  intro k;induction k with
  | zero =>
    intro i h tk ii kvs vs hk hi st rel dd FY he kp;let hi:i=ks.l:=()
    subst hi;let hx:us[ks.l]?=dv:=by simp[hu]
    let uy:putAll ks rv []=kvs:=by rw[<- he,Lj];rfl
    apply Tb QX ?_;rw[TC AU];apply B5 (wpAny_pyNext_list_end (s:={ s with heap:=h,toks:=tk}) hh st (li h kp) hx λh' eb=>?_);apply B5 (C8 (C8 ?_));exact q h' tk vs (λb o b1 b2 e=>eb b o b2 (kp b o b1 b2 e)) (by rw[uy];exact rel) (dd.at λo e=>eb S o hS e)
  | succ k ih =>
    intro i h tk ii kvs vs hk hi st rel dd FY he kp;let dO:i<ks.l:=()
    obtain⟨kk,ek⟩:∃kk,ks[i]?=du kk:=#[ks[i],B6 dO];obtain⟨vv,ev⟩:∃vv,rv[i]?=du vv:=#[rv[i]'(),B6 _];let#[T,x,y,eT,T1,T2,#[oT,n,gT,cT,dT],rx,ry]:=pr i kk vv ek ev;let Lu:putAll (ks.G (i+1)) (rv.G (i+1)) (putK kvs kk vv)=putAll ks rv []:=by
      rw[<- he];let e1:ks.G i=kk::ks.G (i+1):=by rw[O7 dO];congr 1;exact E8 ((B6 dO).M.u ek)
      let e2:rv.G i=vv::rv.G (i+1):=by rw[O7 ()];congr 1;exact E8 ((B6 ()).M.u ev)
      rw[e1,e2];rfl
    apply Tb QX ?_;rw[TC AU];let hsz:vs.l<=iZ:=by rw[<- rel.l];exact D4 (m:=1000) () ∅
    apply B5 (wpAny_pyNext_list_item (s:={ s with heap:=h,toks:=tk}) st (li h kp) eT λh' lS sb=>?_);let gT':h'.r T=du oT:=(sb.2 T T2).u (kp T oT T1 T2 gT);let sx:h'.DictOf (eW prog w) S vs:=dd.at λo e=>(sb.2 S hS).u e;let go: i3 (model prog w) A.in1 (dictSet S x y) (fun _ s1 => i3 (model prog w) A.in1 (again (.builtin "dict.update.loop" { pos:= [.ref S,.ref it,rawInt (ii + 1),.none] }))
          (λl' s'=>match l' with|.done f=>R (.ok f) s'|.again c'=>c'.quiet=dS/\uO (model prog w) A c' R s') (λe s'=>R (.error e) s') s1) (λe s'=>R (.error e) s') { s with heap:=h',toks:=tk}:=by
      apply wpAny_dictSet_pairs (s:={ s with heap:=h',toks:=tk}) (hsz:=hsz) (CB rx) sx λEj yH dz=>?_;apply C8 #[SQ AU _,?_];let hlp:=CQ kvs kk vv;apply ih (i+1) _ _ _ (putK kvs kk vv) _ () dO ?_ (rel.put kk ry) yH () Lu λb o b1 b2 e=>(dz.2 b b1).u ((sb.2 b b2).u (kp b o b1 b2 e));let#[o,e,r]:=lS;exact#[o,(dz.2 it (E1 hS)).u e,r]
    apply B5 (O0 (B5 (wG ?_)));unfold zR;apply B5 (Gz #[_,gT',cT] ?_);rw[cu ∅];apply B5 (N6 gT' dT (C8 ?_));exact O0 go
def um9{prog:hH}{w:hL}{A:iC}{E:fx->fC->ck}{s:fC}{l:fy}{us:dc fx}{o:jC}{n:br}{Q:fx->fC->ck}(hh:A.in1.in1.handled=dv)(g:s.o.r l=du o)(r:o.cls=.type "list")(H:o.data=.seq us n)(hd:o.dict=dv) {ks:bf lR} {rv:bf V} (Z:ks.l=rv.l) (Y:us.v=ks.l) (X:ks.l<=1000) (O:∀(i:br) (k:lR) (v:V),ks[i]?=du k->rv[i]?=du v->∃(T:fy) (x y:fx),us[i]?=du (F8 T)/\Pr2 s.o T x y/\RelV (kV k) x/\RelV v y) (q:∀(h':hR) (tk:br) (vs:bf (lR×fx)),(∀b o,s.o.r b=du o->h'.r b=du o)->KV (putAll ks rv []) vs->h'.DictOf (eW prog w) s.o.h.v vs->Q (.ref s.o.h.v) { s with heap:=h',toks:=tk}): i3 (model prog w) A (call (.type "dict") [.ref l]) Q E s:=by
 apply callType_codes (Q₁:=λh I=>h=.ref s.o.h.v/\I={ s with heap:=s.o.R { cls:=.type "dict",data:=.dict [].e}}) F.kt_called_dict (F.kt_typeCall_dict_1 (.ref l)) F.entry_dict_init (kt_code_dict_new (.ref l) #[rfl,rfl]) λh I U=>?_;let#[e1,e2]:=U;subst e1;subst e2;let ed:(s.o.R { cls:=.type "dict",data:=.dict [].e}).DictOf (eW prog w) s.o.h.v []:=BG s.o;let up:∀b o,s.o.r b=du o->(s.o.R { cls:=.type "dict",data:=.dict [].e}).r b=du o:=λb o e=>B8 _ e;apply#[ed.B,F.args_dict_init_2 _ _,?_];unfold Builtin.«dict.__init__» Rr;apply B5 (B5 (wpAny_notOrdered_dict ed.B (C8 ?_)));show i3 _ _ (Y9 "dict.__init__" s.o.h.v (.ref l) [] .none) _ _ { s with heap:=s.o.R { cls:=.type "dict",data:=.dict [].e}};unfold Y9;apply B5 (Gz #[_,up _ _ g,r] ?_);rw[cu ∅];apply B5 (wt2 (s:={ s with heap:=s.o.R { cls:=.type "dict",data:=.dict [].e}}) (up _ _ g) r H hd hh λh' tk B=>?_);simp only[Ow,if_true];apply B5 (EK ?_);let p:∀b o,s.o.r b=du o->h'.r b=du o:=λb o e=>B b o (up b o e);let L:h'.IsList l us:=#[o,p _ _ g,r,n,H];apply B5 (V1 (s:={ s with heap:=h',toks:=tk}) L ?_);apply C8 #[SQ AU _,?_];let C:s.o.h.v≠l:=Z5 (E4 g);let j:s.o.h.v<h'.h.v:=by let#[o,es,ep,e,_]:=ed;exact E4 (B _ _ e)
 let old:∀{b o},s.o.r b=du o->b≠s.o.h.v/\b≠h'.h.v:=λe=>#[J7 (E4 e),J7 (va (E4 e) j)];let t:∀b o,h'.r b=du o->(h'.R { cls:=.type "list_iterator",data:=.fields [.ref l,.int 0 0].e}).r b=du o:=λb o e=>B8 _ e;apply wt1 (s:=s) (h1:=h'.R { cls:=.type "list_iterator",data:=.fields [.ref l,.int 0 0].e}) (us:=us) hh (J7 j) C (E1 (old g).2) Z Y X #[o,t _ _ (p _ _ g),r,n,H] (λi k v ek ev=>?_) (λh2 YE vs S u dd=>#[rfl,q h2 YE vs (λb o e=>S b o (old e).1 (old e).2 (t _ _ (p b o e))) u dd]) ks.l 0 _ tk 0 [] [] rfl (J8 _)
  #[_,E7 _ rfl,rfl,rfl] .nil (ed.at λo e=>t _ _ (B _ _ e)) (B9 _) rfl λb o _ _ e=>e
 let#[T,x,y,eT,#[R,m,G,cT,dT],N,M]:=O i k v ek ev;exact#[T,x,y,eT,(old G).1,(old G).2,#[R,m,t _ _ (p _ _ G),cT,dT],N,M]
inductive Ak(K:eM)(H:Hp):bf V->bf lR->bf V->Prop
 | nil:Ak K H [] [] []
 | cons {t:fy} {k:lR} {v:V} {xs:bf V} {ks:bf lR} {rv:bf V}:eR K H t [kV k,v]->Ak K H xs ks rv->Ak K H (.ref t::xs) (k::ks) (v::rv)
def Ak.len{K:eM}{H:Hp}{xs:bf V}{ks:bf lR}{rv:bf V}(h:Ak K H xs ks rv):xs.l=ks.l/\ks.l=rv.l:=by
 induction h with
 | nil=>exact#[rfl,rfl]| cons _ _ f=>exact#[cv (·+1) f.1,cv (·+1) f.2]
def Ak.at_{K:eM}{H:Hp}{xs:bf V}{ks:bf lR}{rv:bf V}(h:Ak K H xs ks rv){us:bf fx}(r:Vals xs us):∀(i:br) (k:lR) (v:V),ks[i]?=du k->rv[i]?=du v->∃t:fy,us[i]?=du (F8 t)/\eR K H t [kV k,v]:=by
 induction h generalizing us with
 | nil=>intro i k v e;cases e
 | @cons t o n xs ks rv m _ l =>
  cases r with
  | cons j r =>
   intro i k v g f;cases i with
   | zero=>cases g;cases f;cases j;exact#[t,rfl,m]
   | succ i=>exact l r i k v g f
def va7{X:Cx}(hh:X.A.in1.in1.handled=dv):bK X (.type "dict") (λxs H Q=>∃(l:fy) (g:bf V) (ks:bf lR) (rv:bf V),xs=[.ref l]/\fb X.K H l g/\Ak X.K H g ks rv/\ks.l<=1000/\∀(p:fy),H p=dv->Q (.ref p) (l6 H p (.dK (putAll ks rv [])))):=by
 intro kI s σ H xs us Q I r h;let#[l,g,ks,rv,rfl,hq,J,L,q]:=h;let#[u,rfl,O]:=vals1 r;cases O;let#[its,G,#[o,n,ho,C,B,E],hsz]:=I.list hq;let#[Y,U]:=J.len;let hu:its.e.v=ks.l:=by rw[E5,<- G.l,Y]
 apply um9 hh ho (by first|exact C|exact B|exact E) (by first|exact E|exact B|exact C) (by first|exact B|exact C|exact E) U hu L (λi k v e1 e2=>?_) λh' N M Z j dd=>?_
 .let#[t,et,st]:=J.at_ G i k v e1 e2;let#[it2,R,#[S,gT,cT,nT,dT],_]:=I.tuple st;let#[x,y,rfl,a1,a2]:=R.two;exact#[t,x,y,by rw[List.getElem?_toArray];exact et,#[S,nT,gT,cT,dT],a1,a2]
 .have f:(putAll ks rv []).l<=iZ:=D4 (YA ks rv []) (D4 (m:=1000) (by simpa using L) ∅);let DD:(s.o.h.v==R8)=eH:=beq_eq_false_iff_ne.mpr (Z5 I.big);exact#[.ref s.o.h.v,_,I.laid (a:=s.o.h.v) (t':=N) (o:=.dK (putAll ks rv [])) Z (B9 _) #[f,DD,M,j,dd],rfl,q _ (I.aB.y (B9 _))]
end L2
namespace L3
open PySem PySem.Spec PyProof.Rows L2
section
variable{X:Cx}{K:eM}{H:Hp}
def Ro(f:lR×D):D:=.tup [kD f.1,f.2]
theorem w64:∀{kvs:bf (lR×D)} {xs:bf V},ah K H (kvs.t Ro) xs->∃rv,Ak K H xs (kvs.t (·.1)) rv/\ah K H (kvs.t (·.2)) rv
 | [],xs,h=>by obtain rfl:=ah.aX h;exact#[[],.nil,.nil]
 | kv::kvs,xs,h=>by let#[x,r,rfl,n,m]:=ah.aq h;let#[a,t,rfl,l,k]:=(show af K H (.tup [kD kv.1,kv.2]) x from n).aU;let#[u,A,rfl,q,j]:=ah.aq k;let#[f,y,rfl,o,i]:=ah.aq j;obtain rfl:=ah.aX i;obtain rfl:=CH q;let#[rv,p,g]:=w64 m;exact#[f::rv,.cons l p,.cons o g]
@[reducible] def ww4:C3:=λf G q=>∃(a:fy) (kvs:bf (lR×D)),f=[.ref a]/\bt (G a)=du (kvs.t Ro)/\kvs.l<=1000/\∀(p:fy),G p=dv->q (.ref p) (aC G p (.bR (uT (kvs.t (·.1)) (kvs.t (·.2)) [])))
def w95(B:aZ k X.A):Call3 X (.type "dict") ww4:=nR (va7 B.hd) <| by intro xs H Q #[C,G,q,r,c,t,f];let#[a,kvs,rfl,y,x,t]:=t;let#[v,rfl,n]:=r.one;cases n.ao;let#[i,j,u]:=ft c y;let#[g,p,m]:=w64 u;apply#[_,i,_,g,rfl,j,p,by rw[B0];exact x,λp h=>?_];let l:Le H (l6 H p (.dK (putAll (kvs.t (·.1)) g []))):=Le.y h;exact f _ _ _ _ af.fG (c.put (o:=.bR (uT (kvs.t (·.1)) (kvs.t (·.2)) [])) l #[_,iL,YB (ah.le l m) #[rfl,.nil]]) l (t p (c.y h))
end
end L3
namespace L2
open PySem PySem.Spec PyProof.Rows
abbrev fD:=bf lR×bf lR
abbrev KN(K:eM)(H:Hp):bf (fD×V)->bf (fD×fy×fx)->ck:=Paired λp q=>p.1=q.1/\BE K H q.2.1 p.1/\RelV p.2 q.2.2
def KN.val{K:eM}{H:Hp}{kvs:bf (fD×V)}{xs:bf (fD×fy×fx)}(r:KN K H kvs xs)(k:fD):d8 (dA kvs k) ((atKey xs k).t (·.2)):=by
 induction r with
 | nil=>exact R0| @cons p q m f h t j =>
  let#[i,_,l]:=h;by_cases e:p.1=k
  .have g:q.1=k:=i.M.u e;let b:atKey (q::f) k=du q.2:=by simp[atKey,M6,g]
   rw[Fz e,b];exact l
  .have g:¬ q.1=k:=λz=>e (i.u z);let b:atKey (q::f) k=atKey f k:=by simp[atKey,M6,g]
   rw[Fx e,b];exact j
def KN.vI{K:eM}{H:Hp}{kvs:bf (fD×V)}{xs:bf (fD×fy×fx)}(r:KN K H kvs xs)(k:fD){y:V}{u:fx}(j:RelV y u): KN K H (kvs.t λg=>if g.1=k then(g.1,y) else g) (xs.t (putAt k u)):=by
 induction r with
 | nil=>exact .nil| @cons p q o n h t l =>
  let#[f,i,m]:=h;apply .cons ?_ l;unfold putAt;dsimp only;by_cases e:p.1=k
  .rw[cu e,cu (f.M.u e)];exact#[f,i,j]
  .rw[cp e,cp (λz=>e (f.u z))];exact#[f,i,m]
def KN.put{K:eM}{H:Hp}{kvs:bf (fD×V)}{xs:bf (fD×fy×fx)}(r:KN K H kvs xs)(k:fD){b:fy}{y:V}{u:fx}(h:BE K H b k)(f:RelV y u): KN K H (putK kvs k y) (Sm xs k b u):=by
 let e:(kvs.any λg=>decide (g.1=k))=(atKey xs k).fg:=by rw[Yn,(r.val k).iX,vo]
 unfold putK Sm;rw[e];by_cases q:(atKey xs k).fg=dS
 .rw[cu q,cu q];exact r.vI k f
 .rw[cp q,cp q];exact BH r #[rfl,h,f]
def yJ.sq{K:eM}{H:Hp}{a:fy}{xs:bf V}(h:yJ K H a xs):eR K H a xs:=by
 rcases h with h|h|h
 .exact .inl (.inl h)
 .exact .inl (.inr h)
 .exact .inr h
def eR.tp{K:eM}{H:Hp}{a:fy}{xs:bf V}(h:eR K H a xs):yJ K H a xs:=by
 rcases h with(h|h)|h
 .exact .inl h
 .exact .inr (.inl h)
 .exact .inr (.inr h)
section
variable{X:Cx}{kI:bf (fy×jC)}{σ:L2.St}{H:Hp}{s:fC}{a b:fy}{A:iC}{E:fx->fC->ck}
def PL{q:fD}(I:lp X kI σ H s)(h:BE X.K H b q):(CN (eW X.c X.w)).is s.o q b:=by
 let#[c,l,k]:=h;let#[its,r,#[o,e,t,n,d],_]:=I.tuple l.sq;let#[u,i,#[o2,m,f,j,p],_]:=I.tuple k.sq;cases r with
 | cons g r =>cases g;exact#[o,_,n,c,_,e,t,d,rfl,#[o2,u.e,j,m,f,p,by simpa using QY i],QY r]
def UD(I:lp X kI σ H s)(e:H a=du (.dN X.K kvs)):kvs.l<=iZ/\(a==R8)=eH /\ ∃xs,KN X.K H kvs xs/\s.o.DictOfH (CN (eW X.c X.w)) a xs:=by
 let#[z,y,xs,r,o,u,B,n,k,j,i,h]:=(show bC X.c X.w H s.o a (.dN X.K kvs) from I.aB a _ e);apply#[z,y,xs,r,o,u,B,n,k,j,i,λx hx=>?_,h];let all:∀{l:bf (fD×V)} {m:bf (fD×fy×fx)},KN X.K H l m->∀x∈m,(CN (eW X.c X.w)).is s.o x.1 x.2.1:=by
  intro l m q;induction q with
  | nil=>intro x hx;exact nomatch hx| @cons p q G C f t g =>
   intro x hx;rcases D9.mp hx with e|hx
   .subst e;exact PL I (by rw[<- f.1];exact f.2.1)
   .exact g x hx
 exact all r x hx
def wy5(K:eM):TE:=λ_ H Q=>∀p,H p=dv->Q (.ref p) (l6 H p (.dN K []))
def vu6:PE X (.Dict [] [] pos) (wy5 X.K):=λkI s σ H Q I h =>
 wpAny_Dict_empty #[.ref s.o.h.v,_,I.laid (a:=s.o.h.v) (o:=.dN X.K []) (t':=s.H) (λ_ _ q=>B8 _ q) (B9 _)
  #[J8 _,beq_eq_false_iff_ne.mpr (E1 (J7 I.big)),[],.nil,_,[].e,0,E7 _ rfl,#[rfl,rfl,rfl],rfl,rfl,Pd],rfl,h _ (I.aB.y (B9 _))]
def wy7(K:eM)(g ty:TE):TE:=λσ H Q=>g σ H λx h=>ty σ h λy f=>∃a b kvs k v,x=.ref a/\y=.ref b/\f a=du (.dN K kvs)/\BE K f b k/\dA kvs k=du v/\Q v f
def vu8{o i:gI}{pos:jU}{j ty:TE}(J:X.A.ga+2<cLine)(N:PE X o j)(hi:PE X i ty)(L:uL i):PE X (.Subscript o i pos) (wy7 X.K j ty):=by
 intro kI s σ H Q I h
 (apply vd3 RW.lookup L (bu (N kI s σ H _ I h) ?_);intro u m #[x,H1,Y,q,t];apply bu (hi kI m σ H1 _ Y t) ?_;intro G s2 #[y,Z,g,n,a,b,kvs,k,v,ex,U,R,O,l,r])
 subst ex;subst U;obtain rfl:u=F8 a:=q;obtain rfl:G=F8 b:=n;let#[z,hd,xs,f,dd]:=UD g R;apply#[dd.B,?_];let#[w',hw,B]:=d8.some_of (v:=v) (o:=(atKey xs k).t (·.2)) (by rw[<- l];exact f.val k);let#[p,M,S]:=F6.mp hw;apply wpAny_getItem_heap (knd:=CN (eW X.c X.w)) J (PL g O) dd M ?_;rw[S];exact#[v,Z,g.tok _,B,r]
def YV(K:eM):R2:=λx y H Q=>∃a b kvs k,x=.ref b/\y=.ref a/\H a=du (.dN K kvs)/\BE K H b k/\Q (.bl (!(dA kvs k).fg)) H
def vg8(l:X.A.ga+2<cLine):dM X (L8 .NotIn) (YV X.K):=by intro kI s σ H x y v u Q I i g h;let#[a,b,kvs,k,rfl,rfl,o,n,q]:=h;obtain rfl:v=F8 b:=i;obtain rfl:u=F8 a:=g;let#[z,m,xs,f,dd]:=UD I o;apply wpAny_notIn_heap (knd:=CN (eW X.c X.w)) l (PL I n) m dd ?_;let e:=(f.val k).iX;rw[vo] at e;rw[<- e];exact#[.bl (!(dA kvs k).fg),H,I.tok _,rfl,q]
def x01(K:eM)(h ty g:TE):TS:=λD σ H=>g σ H λv j=>h σ j λx i=>ty σ i λy f=>∃a b kvs k,x=.ref a/\y=.ref b/\f a=du (.dN K kvs)/\BE K f b k/\kvs.l<iZ/\D.nx σ (l6 f a (.dN K (putK kvs k v)))
def vt4{o i value:gI}{pos f:jU}{t ty p:TE}(hu:X.A.ga+2<cLine)(ho:PE X o t)(hi:PE X i ty)(hv:PE X value p)(m:X4 value (du (.Subscript o i f)) pos.line X.f=pure eH): PS X (.Assign [.Subscript o i f] value pos) (x01 X.K t ty p):=by
 intro kI s σ H D I h
 (apply wpAny_Assign_Subscript (bu (hv kI s σ H _ I h) ?_) m;intro r N #[v,H1,I1,R,Y];apply bu (ho kI N σ H1 _ I1 Y) ?_;intro u M #[x,H2,I2,Q,U];apply bu (hi kI M σ H2 _ I2 U) ?_;intro iv s3 #[y,J,I3,O,a,b,kvs,k,ex,ey,e,G,l,S])
 subst ex;subst ey;obtain rfl:u=F8 a:=Q;obtain rfl:iv=F8 b:=O;let#[z,hd,xs,g,dd]:=UD I3 e;let hz:xs.l<=iZ:=by rw[<- SX g];exact z
 let hl:(putK kvs k v).l<=iZ:=by let:=CQ kvs k v;omega
 apply wpAny_setItem_heap (knd:=CN (eW X.c X.w)) (hsz:=hz) hu (PL I3 G) dd λh' L m=>?_;let#[q,es,ep,C,n,h3,h4,_,h5]:=L;let B:∀{c j},yJ X.K J c j->yJ X.K (l6 J a (.dN X.K (putK kvs k v))) c j:=λh=>h.gw (λc j ec=>by rw[dj (UI ec e (λz=>nomatch z))];exact ec) λc o j ec=>by rw[dj (UI ec e (λz=>nomatch z))];exact ec
 apply#[σ,_,Fm (ob:=.dN X.K (putK kvs k v)) I3 (by rw[e];exact R0) m #[q,C] #[hl,hd,_,Paired.vP (g.put k G R) λ_ _ z=>#[z.1,let ⟨c,h1,n⟩:=z.2.1;#[c,B h1,B n],z.2.2],q,es,ep,C,n,h3,h4,h5],S]
end
end L2
namespace L3
open PySem PySem.Spec PyProof.Rows L2
def kT(kvs:bf (fD×D))(k:fD):b0 D:=(kvs.find? λf=>decide (f.1=k)).t (·.2)
def Bd(kvs:bf (fD×D))(k:fD)(v:D):bf (fD×D):=if(kvs.any λf=>decide (f.1=k))=dS then kvs.t (λf=>if f.1=k then(f.1,v) else f) else kvs++[(k,v)]
def Dm(q:fD):D:=.tup (.tup (q.1.t kD)::q.2.t kD)
section
variable{X:Cx}{K:eM}{G:Gp}{H:Hp}{p:fy}
theorem XQ:∀{kvs:bf (fD×D)} {ys:bf (fD×V)},aG K H kvs ys->(kT kvs k=dv/\dA ys k=dv)\/∃d v,kT kvs k=du d/\dA ys k=du v/\af K H d v
 | [],ys,⟨f,i⟩=>by
  let:ys=[]:=by cases ys with|nil=>rfl|cons y ys=>simp at f
  subst this;exact .inl #[rfl,rfl]
 | (g,d)::kvs,[],⟨f,i⟩=>by simp at f| (g,d)::kvs,(q,v)::ys,⟨f,i⟩=>by
  rw[C1,C1] at f;let#[l,u]:=R6 f;let l:g=q:=l;subst l;let#[x,B,m,o,n]:=i.aq;rw[C1] at m;let#[j,t]:=R6 m;let j:v=x:=j;subst j;by_cases h:g=k
  .right;exact#[d,v,by simp[kT,M6,h],Fz h,o]
  .have r:=XQ (k:=k) (kvs:=kvs) (ys:=ys) #[u,by rw[t];exact n];let A:kT ((g,d)::kvs) k=kT kvs k:=by simp[kT,M6,h]
   rw[A,Fx h];exact r
theorem vi4(q:af K H d v):∀{kvs:bf (fD×D)} {ys:bf (fD×V)},aG K H kvs ys->aG K H (kvs.t (λf=>if f.1=k then(f.1,d) else f)) (ys.t (λf=>if f.1=k then(f.1,v) else f))/\(kvs.any λf=>decide (f.1=k))=(ys.any λf=>decide (f.1=k))
 | [],ys,⟨g,j⟩=>by
  let:ys=[]:=by cases ys with|nil=>rfl|cons y ys=>simp at g
  subst this;exact#[#[rfl,.nil],rfl]
 | (h,J)::kvs,[],⟨g,j⟩=>by simp at g| (h,J)::kvs,(A,r)::ys,⟨g,j⟩=>by
  rw[C1,C1] at g;let#[m,I]:=R6 g;let m:h=A:=m;subst m;let#[x,L,o,u,t]:=j.aq;rw[C1] at o;let#[l,E]:=R6 o;let l:r=x:=l;subst l;let#[#[C,n],B]:=vi4 (k:=k) q (kvs:=kvs) (ys:=ys) #[I,by rw[E];exact t];apply#[#[?_,?_],by rw[P7,P7,B]]
  .rw[C1,C1,C1,C1,C];by_cases i:h=k <;> simp[i]
  .rw[C1,C1,C1,C1];by_cases i:h=k
   .simp only[i,if_true];exact .cons q n
   .simp only[i,if_false];exact .cons u n
def wl7(q:af K H d v)(h:aG K H kvs ys):aG K H (Bd kvs k d) (putK ys k v):=by
 let#[g,f]:=vi4 (k:=k) q h;unfold Bd putK;rw[f];split
 .exact g
 .exact#[by rw[B7,B7,h.1];rfl,by rw[B7,B7];exact h.2.fj (.cons q .nil)]
theorem Le.dN(h:H p=du (.dN K xs)):Le H (l6 H p (.dN K ys)):=
  ⟨fun b zs q => by by_cases e: b = p
                    · subst e;rw[h] at q;cases q
                    · rw[dj e];exact q,
   fun b o u q => by by_cases e: b = p
                     · subst e;rw[h] at q;cases q
                     · rw[dj e];exact q⟩
theorem Df:∀{ks:bf lR} {xs:bf V},ah K H (ks.t kD) xs->xs=ks.t kV
 | [],xs,h=>ah.aX h| k::ks,xs,h=>by let#[x,r,rfl,g,f]:=ah.aq h;rw[CH g,Df f];rfl
def Xc(h:af K H (Dm q) v):∃b,v=.ref b/\BE K H b q:=by let#[b,xs,rfl,g,k]:=h.aU;let#[x,r,rfl,l,j]:=ah.aq k;let#[c,m,rfl,f,i]:=l.aU;rw[Df i] at f;rw[Df j] at g;exact#[b,rfl,c,g.tp,f.tp]
def yx(f:aZ k X.A):X.A.ga+2<cLine:=by let:=f.un;omega
def xi5:bI:=λ_ G q=>∀p,G p=dv->q (.ref p) (aC G p (.sZ []))
def ws3:E3 X (.Dict [] [] pos) xi5:=dW vu6 λj H Q h=>by let#[i,G,q,k,c,t,f]:=h;exact λp g=>f (.ref p) _ (.ref p) _ (by rw[af]) (c.put (o:=.sZ []) (Le.y g) #[[],iL,rfl,.nil]) (Le.y g) (t p (c.y g))
def xi8(i h:bI):bI:=λf G q=>i f G λx j=>h f j λy g=>∃a kvs k d,x=.ref a/\y=Dm k/\g a=du (.sZ kvs)/\kT kvs k=du d/\q d g
def ws5(Z:aZ k X.A)(ho:E3 X o to)(hi:E3 X i J)(Y:uL i:=by exact λ_ _=>rfl):E3 X (.Subscript o i pos) (xi8 to J):=
 dW (vu8 (yx Z) ho hi Y) λσ H Q h=>by
  let#[g,G,q,m,c,t,f]:=h;apply#[g,G,_,m,c,t,λx G1 v H1 U c1 r N=>#[g,G1,_,m.le r,c1,N,λy G2 u H2 S c2 n M=>?_]];let#[a,kvs,B,d,rfl,rfl,hg,j,L]:=M;let Iq:=af.le n U;cases Iq.ao;let#[b,rfl,O]:=Xc S;let#[I,e,R]:=c2 a _ hg;rcases XQ (k:=B) R with⟨l,_⟩|⟨d',w,l,E,C⟩
  .rw[l] at j;cases j
  .rw[l] at j;cases j;exact⟨a,b,I,B,w,rfl,rfl,e,O,E,f _ _ _ _ C c2 (r.u n) L⟩
@[reducible] def w98:R3:=λx y G q=>∃(k:fD) (kvs:bf (fD×D)) (a:fy),x=Dm k/\y=.ref a/\G a=du (.sZ kvs)/\q (.bl (!(kT kvs k).fg)) G
def vr1(u:aZ k X.A):gO X (L8 .NotIn) w98:=uc (vg8 (yx u)) λx y H Q h=>by
 let#[d,e,G,q,r,o,c,#[g,kvs,a,rfl,rfl,B,t],f]:=h;cases o.ao;let#[b,rfl,m]:=Xc r;let#[l,e,n]:=c a _ B;apply#[a,b,l,g,rfl,rfl,e,m,?_];let C:(kT kvs g).fg=(dA l g).fg:=by rcases XQ (k:=g) n with⟨j,i⟩|⟨E,w,j,i,_⟩ <;> rw[j,i] <;> rfl
 rw[C] at t;exact f _ _ _ _ af.nJ c (Le.j H) t
def xi4(j i h:bI):fR:=λn f G=>h f G λv m=>j f m λx l=>i f l λy g=>∃(a:fy) (kvs:bf (fD×D)) (k:fD),x=.ref a/\y=Dm k/\g a=du (.sZ kvs)/\kvs.l<iZ/\n.nx f (aC g a (.sZ (Bd kvs k v)))
def wl0{pos g:jU}(hr:aZ k X.A)(ho:E3 X o to)(hi:E3 X i L)(Z:E3 X value J) (hs:X4 value (du (.Subscript o i g)) pos.line X.f=pure eH:=by rfl):S3 X (.Assign [.Subscript o i g] value pos) (xi4 to L J):=
 qV (vt4 (yx hr) ho hi Z hs) λD σ H h=>by
  let#[j,G,d,l,c,t,f]:=h;apply#[j,G,_,l,c,t,λv G1 w H1 Y c1 r Q=>#[j,G1,_,l.le r,c1,Q,λx G2 u H2 U c2 q O=>#[j,G2,_,l.le (r.u q),c2,O,λy G3 z I S E n N=>?_]]];let#[a,kvs,k,rfl,rfl,hg,hl,M]:=N;let YY:=af.le n U;cases YY.ao;let#[b,rfl,R]:=Xc S;let#[B,e,C]:=E a _ hg;let m:Le I (l6 I a (.dN _ (putK B k w))):=Le.dN e;let ZD:B.l=kvs.l:=by let:=cv J1 C.1;rw[B0,B0] at this;exact this.M
  apply#[a,b,B,k,rfl,rfl,e,R,by rw[ZD];exact hl,?_];apply f.nx _ _ _ _ (((l.le r).le q).le (n.u m)) ?_ (r.u (q.u (n.u m))) M;exact E.put m #[_,iL,(wl7 (af.le (q.u n) Y) C).le m]
end
end L3
namespace Rw
open PySem PyProof.Rows L2 L3
def Wv.tr(le:fr<=f)(h:∀r∈new,Rw.tg fr f r):Wv fr f new (λ_ _=>dm):=#[le,h,λ_ _ _ _ _=>trivial]
def xo9(E:W<=16)(C:x<fr)(B:y<fr)(p:o∈L3.signs):∀r∈gR W x y fr o,tg fr (oo fr o) r:=by
 let l:∀r∈c9 fr x y W,tg fr (fr+1) r:=λr f=>by let#[i,hi,rfl]:=D6.mp f;let hi:=K0.mp hi;apply#[B9 _,(),(),by simp,λc h=>?_];simp only[D9,Z0,or_false] at h;rcases h with rfl|rfl <;> exact⟨(),(),()⟩
 let g:∀(z i k m:br) (j:bf (br×br)),fr<=z->z<fr+m->i<32->(∀c∈j,c.1<z/\c.2<32)->j.l<=2->tg fr (fr+m) (.turn z i j):=λz i k m j A u t n q=>#[A,u,t,q,λc h=>#[by let:=n c h;omega,by let:=n c h;omega,(n c h).2]];intro r f;rcases Yi p with rfl|rfl|rfl|rfl|rfl|rfl|rfl
 all_goals
  simp only[gR,oo,cW,C4,if_false,if_true,F7,D9,Z0,or_false,List.mem_replicate] at f⊢
 .rcases f with rfl|rfl|rfl|rfl
  .exact⟨(),(),(),()⟩
  .exact⟨(),(),(),()⟩
  .exact g _ _ 0 2 _ () () () (by simp;omega) (by simp)
  .exact⟨(),(),(),()⟩
 .rcases f with(rfl|rfl)|rfl|rfl
  .exact⟨(),(),(),()⟩
  .exact⟨(),(),(),()⟩
  .exact g _ _ 0 2 _ () () () (by simp) (by simp)
  .exact⟨(),(),(),()⟩
 .exact l r f
 .rcases f with f|(rfl|rfl)|⟨_,rfl⟩
  .exact CK (l r f) (B9 _) ()
  .exact⟨(),(),(),()⟩
  .exact⟨(),(),(),()⟩
  .exact⟨(),(),(),()⟩
 .rcases f with f|(rfl|rfl)|⟨_,rfl⟩
  .exact CK (l r f) (B9 _) ()
  .exact⟨(),(),(),()⟩
  .exact⟨(),(),(),()⟩
  .exact⟨(),(),(),()⟩
 .rcases f with(rfl|rfl)|rfl
  .exact⟨(),(),(),()⟩
  .exact⟨(),(),(),()⟩
  .exact g _ _ 0 2 _ () () () (by simp) (by simp)
 .rcases f with((rfl|rfl)|rfl|rfl)|rfl|rfl|rfl
  .exact⟨(),(),(),()⟩
  .exact⟨(),(),(),()⟩
  .exact⟨(),(),(),()⟩
  .exact⟨(),(),(),()⟩
  .exact g _ _ 0 3 _ () () () (by simp) (by simp)
  .exact g _ _ 0 3 _ () () () (by simp) (by simp)
  .exact g _ _ 0 3 _ () () () (by simp) (by simp)
def PQ(h:W<=16)(g:lq W bs a):∀r∈dQ fr a,tg fr (bq fr a) r:=by
 intro r f;cases a with
 | num i =>obtain rfl:=D8.mp f;let j:i<2^W:=g;let:=C9 j (U5 (n:=2) ∅ h);exact#[B9 _,T9 _,(),()]
 | box x=>cases f
theorem WG:∀{ps:bf br} {fr:br},f0<=fr->(∀p∈ps,p<f0)->∀r∈jQ fr ps,tg fr (fr+ps.l) r
 | [],_,_,_,_,hr=>nomatch hr| p::ps,fr,g,f,r,hr=>by
  let i:=f p D0;rcases D9.mp hr with rfl|hr
  .exact⟨B9 _,by simp,by rw[C0];omega,()⟩
  .exact CK (WG (fr:=fr+1) () (λp h=>f p (C2 _ h)) r hr) () (by rw[C0];omega)
def vs5(n:x<fr):Wv fr (fr+2) [.take fr (.box x),.turn (fr+1) 0 [(fr,31)]] (λ_ b'=>gt b' (fr+1)=0\/gt b' (fr+1)=1):=by
 apply⟨(),λr f=>?_,λl k h m i=>?_⟩
 .simp only[D9,Z0,or_false] at f;rcases f with rfl|rfl
  .exact⟨B9 _,(),(),()⟩
  .exact⟨(),(),(),by simp,λc g=>by rw[D8.mp g];exact#[(),(),()]⟩
 .have o:=h.len;let j:gt (da 1 k (.take fr (.box x))) (fr+1)=0:=by rw[Fo (),cp (),i (fr+1) ()]
  rw[QQ,QQ,wl1,Hk (by rw[yj];omega),cu rfl,j];split
  .exact .inr (uC0 0)
  .exact .inl rfl
abbrev Gm(a fr f:br)(new:bf k')(st:br):ck:=Wk a fr f new st (λ_=>dm) (λ_ _=>dm)
theorem Gm.seq(h1:Gm a fr m g j)(l:Gm (a+g.l) m f k i):Gm a fr f (g++k) (j+i):=(Wk.seq h1 l λ_ _ _ _ _=>trivial).imp (λ_ h=>h) λ_ _ _ _ _=>trivial
def BY(bs:bf gq)(a fr:br)(x:bf k'×bf br×br×br):ck:=Gm a fr x.2.2.1 x.1 x.2.2.2/\x.2.1.l=bs.l/\∀p∈x.2.1,p<x.2.2.1
def x07(h:∀p∈pl,p<fr)(j:fr<=f)(i:p<f):∀q∈fh bs pl x p,q<f:=λq g=>by
 rcases Ge g with z|z
 .exact C9 (h q z) j
 .rw[z];exact i
def Qz{bs:bf gq}{pl:bf br}(f:pl.l=bs.l)(h:∀p∈pl,p<f0)(g:f0<=fr)(j:lq W bs a):fO bs pl fr a<bq fr a:=by
 cases a with
 | num i=>exact T9 _| box x=>exact C9 (h _ (K5 (vy1 j f))) g
mutual
theorem YG(i:W<=16):∀(r:ai) {a:br} {pl:bf br} {fr:br},ou W bs r->yq r->pl.l=bs.l->(∀p∈pl,p<fr)->BY bs a fr (cQ W bs r a pl fr)
 | .is x c,a,pl,fr,hr,_,g,h=>#[Wk.of (Wv.tr (qW c).1 (PQ i hr.2)),by show(fh _ _ _ _).l=_;unfold fh;rw[K2];exact g,x07 h (qW c).1 (Qz g h (B9 _) hr.2)]| .op x o c d,a,pl,fr,hr,_,g,h=>by
  let#[_,Y,l,M]:=hr;let f1:=qW (fr:=fr) c;let f2:=qW (fr:=bq fr c) d;let N:=w24 (fr:=bq (bq fr c) d) (o:=o);let b1:=Qz g h (B9 fr) l;let b2:=Qz g h f1.1 M;apply#[Wk.of (Wv.tr (by show fr<=oo _ _;omega) λr hr=>?_),by show(fh _ _ _ _).l=_;unfold fh;rw[K2];exact g,x07 h (by show fr<=oo _ _;omega) N.2.2];rcases F7.mp hr with hr|hr
  .rcases F7.mp hr with hr|hr
   .exact CK (PQ i l r hr) (B9 _) (by show bq fr c<=oo _ _;omega)
   .exact CK (PQ i M r hr) f1.1 N.1
  .exact CK (xo9 i () b2 Y r hr) () (B9 _)
 | .e_ c j m,a,pl,fr,hr,B,g,h=>by obtain⟨l,u,FT⟩:lq W bs c/\dF W bs j/\dF W bs m:=hr;obtain⟨Li,Ll⟩:gf j/\gf m:=B;let#[E,L,J]:=uf i j (a:=a) u Li g h;let Q:=E.le;let#[G,X,U]:=uf i m (a:=a+(bB W bs j a pl fr).1.l) FT Ll g λp A=>C9 (h p A) Q;let C:=G.le;unfold cQ BY;dsimp only;generalize bB W bs j a pl fr=y at *;generalize bB W bs m (a+y.1.l) pl y.2.2.1=n at *;let A:=qW (fr:=n.2.2.1) c;let Z:=Qz g h (D4 Q C) l;let ty:=Wv.tr (fr:=bq n.2.2.1 c+2) (U0 _ _) (WG (f0:=n.2.2.1) (ps:=uY y.2.1 n.2.1) () λp q=>C9 (J p (Xo q)) C);let H:=Wv.tr (fr:=bq n.2.2.1 c+2) (U0 _ _) (WG (f0:=n.2.2.1) (ps:=uN y.2.1 n.2.1) () λp q=>U p (Xn q));rw[<- EX] at H;let R:Gm a fr _ _ _:=(E.seq G).seq (Wk.of (Wv.tr A.1 (PQ i l)));let I:=(Wk.seq (P2:=λ_=>dm) R (Wk.of (vs5 Z)) λ_ _ _ _ _=>trivial).seq (Wk.choice (ch:=bq n.2.2.1 c+1) ty H (by rw[zf,zf,EX]) ()) λ_ _ _ ⟨_,_,f,_⟩ _=>f;rw[zf] at I;exact#[I.imp (λ_ p=>p) λ_ _ _ _ _=>trivial,by rw[Hr (by rw[L,X])];exact L,λx t=>W' (f0:=n.2.2.1) () (λx t=>C9 (J x t) C) x t]
 | .fN k j,a,pl,fr,_,B,_,_=>B.n
theorem uf(j:W<=16):∀(rs:bf ai) {a:br} {pl:bf br} {fr:br},dF W bs rs->gf rs->pl.l=bs.l->(∀p∈pl,p<fr)->BY bs a fr (bB W bs rs a pl fr)
 | [],a,pl,fr,_,_,f,h=>#[Wk.of (Wv.nil λ_=>trivial),f,h]| r::rs,a,pl,fr,g,i,f,h=>by let#[l,q,n]:=YG j r (a:=a) g.1 i.1 f h;let#[k,o,m]:=uf j rs (a:=a+(cQ W bs r a pl fr).1.l) g.2 i.2 q n;exact#[l.seq k,o,m]
end
end Rw
namespace Law
open PySem L2 L3 Rw
def Rn(f:br->br):kZ->kZ
 | .num n=>.num n| .box y=>.box (f y)
def ui(f:br->br):k'->k'
 | .add x o=>.add (f x) (Rn f o)| .take x o=>.take (f x) (Rn f o)| .turn x i g=>.turn (f x) i (g.t λc=>(f c.1,c.2))| .swap x y=>.swap (f x) (f y)| .go x n k=>.go (f x) n k| .aL x n k=>.aL (f x) n k
structure yK(f:br->br)(m d:br):Prop where
 inj:∀x y,f x=f y->x=y
 up:∀x,m<=x->f x=x+d
section
variable{f:br->br}{m d:br}
def Qj(h:yK f m d)(g:m<=fr)(a:jt):dQ (fr+d) a=(dQ fr a).t (ui f):=by
 cases a with
 | num i=>show[k'.add (fr+d) _]=[k'.add (f fr) _];rw[h.up fr g];rfl| box x=>rfl
def Xg(a:jt):bq (fr+d) a=bq fr a+d:=by
 cases a with
 | num i=>show fr+d+1=fr+1+d;omega| box x=>rfl
def Qi{bs:bf gq}(h:yK f m d){pl:bf br}(j:m<=fr)(g:pl.l=bs.l)(k:lq W bs a):fO bs (pl.t f) (fr+d) a=f (fO bs pl fr a):=by
 cases a with
 | num i=>exact(h.up fr j).M| box x =>show((pl.t f)[iW bs x]?).E 0=f ((pl[iW bs x]?).E 0);rw[F5,B6 (by rw[g];exact WW k)];rfl
def xj3(h:yK f m d)(g:m<=fr):c9 (fr+d) (f x) (f y) k=(c9 fr x y k).t (ui f):=by unfold c9;rw[L9];exact L5 λi _=>by show _=k'.turn (f fr) _ _;rw[h.up fr g];rfl
def xp0(h:yK f m d)(g:m<=fr):gR W (f x) (f y) (fr+d) o=(gR W x y fr o).t (ui f)/\Dd (fr+d) o=f (Dd fr o)/\oo (fr+d) o=oo fr o+d:=by
 let k:=h.up fr g;let j:=h.up (fr+1) ();let i:=h.up (fr+2) ();unfold gR Dd oo
 repeat' split
 all_goals apply#[?_,(),()]
 all_goals simp[ui,Rn,k,j,i,xj3 h g,ur]
def w63{pl:bf br}:fh bs (pl.t f) x (f p)=(fh bs pl x p).t f:=by unfold fh;rw[LW]
theorem HK(h:yK f m d):∀{ps qs:bf br},uY (ps.t f) (qs.t f)=(uY ps qs).t f/\uN (ps.t f) (qs.t f)=(uN ps qs).t f
 | [],_=>by simp[uY,uN]| _::_,[]=>#[rfl,rfl]| p::ps,q::qs=>by
  let#[i,g]:=HK h (ps:=ps) (qs:=qs);by_cases e:p=q
  .simp[uY,uN,e,i,g]
  .simp[uY,uN,e,mt (h.inj p q) e,i,g]
theorem Xa(h:yK f m d):∀{ps qs:bf br} {fr:br},m<=fr->gU (fr+d) (ps.t f) (qs.t f)=(gU fr ps qs).t f
 | [],_,_,_=>by simp[gU]| _::_,[],_,_=>rfl| p::ps,q::qs,fr,g=>by
  by_cases e:p=q
  .simp[gU,e,Xa h g]
  .simp[gU,e,mt (h.inj p q) e,h.up fr g,ur fr d 1,Xa h (show m<=fr+1 by omega)]
theorem wx5(h:yK f m d):∀{ps:bf br} {fr:br},m<=fr->jQ (fr+d) (ps.t f)=(jQ fr ps).t (ui f)
 | [],_,_=>rfl| p::ps,fr,g=>by show k'.add (fr+d) (.box (f p))::jQ (fr+d+1) (ps.t f)=k'.add (f fr) (.box (f p))::(jQ (fr+1) ps).t (ui f);rw[h.up fr g,ur fr d 1,wx5 h (show m<=fr+1 by omega)]
def xr6{ys ns:bf k'}:uF a (f ch) (ys.t (ui f)) (ns.t (ui f))=(uF a ch ys ns).t (ui f):=by unfold uF;simp[ui]
abbrev Ai(f:br->br)(d:br)(x y:bf k'×bf br×br×br):ck:=y=(x.1.t (ui f),x.2.1.t f,x.2.2.1+d,x.2.2.2)
mutual
theorem ww9{bs:bf gq}(h:yK f m d)(u:W<=16)(t:bs.l<=6):∀(r:ai) {a:br} {pl:bf br} {fr:br},ou W bs r->yq r->pl.l=bs.l->m<=fr->Ai f d (cQ W bs r a pl fr) (cQ W bs r a (pl.t f) (fr+d))
 | .is x c,a,pl,fr,k,q,g,j=>by let#[_,l]:=k;simp only[Ai,cQ,yc,Qj h j,Xg,Qi h j g l,w63,B0]| .op x o c e,a,pl,fr,k,q,g,j=>by let#[_,ho,l,Q]:=k;let f1:=(qW (fr:=fr) c).1;let f2:=(qW (fr:=bq fr c) e).1;let#[O,N,M]:=xp0 h (W:=W) (x:=fO bs pl fr c) (y:=fO bs pl (bq fr c) e) (fr:=bq (bq fr c) e) (o:=o) ();simp only[Ai,cQ,yc,Qj h j,Xg,Qj h (show m<=bq fr c by omega),Qi h j g l,Qi h (show m<=bq fr c by omega) g Q,O,N,M,w63,<- B7,B0]| .e_ c i p,a,pl,fr,k,q,g,j=>by
  let#[l,H,A]:=k;obtain⟨B,C⟩:gf i/\gf p:=q;let#[_,_,l1,Z,_]:=uU (a:=a) (fr:=fr) u t i H B g;let G:=Qn h u t i (a:=a) H B g j;let#[_,_,k1,k2,_]:=uU (a:=a+(bB W bs i a pl fr).1.l) (fr:=(bB W bs i a pl fr).2.2.1) u t p A C g;let E:=Qn h u t p (a:=a+(bB W bs i a pl fr).1.l) A C g (show m<=(bB W bs i a pl fr).2.2.1 by omega);simp only[Ai] at G E;simp only[Ai,cQ,G,B0];rw[E];generalize bB W bs i a pl fr=y at *;generalize bB W bs p (a+y.1.l) pl y.2.2.1=n at *;let f1:=(qW (fr:=n.2.2.1) c).1;let I:m<=n.2.2.1:=()
  let#[L,J]:=HK h (ps:=y.2.1) (qs:=n.2.1);let R:=h.up (bq n.2.2.1 c) ();let g1:=h.up (bq n.2.2.1 c+1) ();let U:bq n.2.2.1 c+d+1=bq n.2.2.1 c+1+d:=()
  let S:bq n.2.2.1 c+d+2=bq n.2.2.1 c+2+d:=()
  simp only[Qj h I,Xg,Qi h I g l,L,J,B0,B4,B7,U,S,Xa h (show m<=bq n.2.2.1 c+2 by omega),wx5 h (show m<=bq n.2.2.1 c+2 by omega),<- g1,xr6,C1,GB,ui,Rn,R,C0,W7];apply Av rfl (Av rfl (Av ?_ rfl));show _+d+_=_+_+d;omega
 | .fN _ _,a,pl,fr,k,q,g,j=>rfl
theorem Qn{bs:bf gq}(h:yK f m d)(i:W<=16)(g:bs.l<=6):∀(rs:bf ai) {a:br} {pl:bf br} {fr:br},dF W bs rs->gf rs->pl.l=bs.l->m<=fr->Ai f d (bB W bs rs a pl fr) (bB W bs rs a (pl.t f) (fr+d))
 | [],a,pl,fr,_,_,_,_=>rfl| r::rs,a,pl,fr,t,u,n,x=>by obtain⟨o,y⟩:ou W bs r/\dF W bs rs:=t;obtain⟨j,p⟩:yq r/\gf rs:=u;let#[_,_,A,q,_]:=vc3 (a:=a) (fr:=fr) i g r o j n;let l:=ww9 h i g r (a:=a) o j n x;let k:=Qn h i g rs (a:=a+(cQ W bs r a pl fr).1.l) y p q (show m<=(cQ W bs r a pl fr).2.2.1 by omega);simp only[Ai] at l k;simp only[Ai,bB,l,B0,k,B7]
end
end
def LI(T:br->ck):k'->ck
 | .add x o=>¬ T x/\∀y,o=.box y->¬ T y| .take x o=>¬ T x/\∀y,o=.box y->¬ T y| .turn x _ f=>¬ T x/\∀c∈f,¬ T c.1| .swap x y=>¬ T x/\¬ T y| .go x _ _=>¬ T x| .aL x _ _=>¬ T x
def xh3(h:∀x,¬ T (f x))(r:k'):LI T (ui f r):=by
 cases r with
 | add x o=>exact#[h x,λy e=>by cases o <;> cases e;exact h _]
 | take x o=>exact#[h x,λy e=>by cases o <;> cases e;exact h _]
 | turn x i j=>exact#[h x,λc g=>by let#[l,_,rfl]:=D6.mp g;exact h _]| swap x y=>exact#[h x,h y]| go x n k=>exact h x| aL x n k=>exact h x
structure Ce(T:br->Prop)(b b':bf bz):Prop where
 len:b.l=b'.l
 eq:∀i,¬ T i->gt b i=gt b' i
def val_eq(h:Ce T b b')(f:∀y,o=.box y->¬ T y):val b o=val b' o:=by
 cases o with
 | num n=>rfl| box y=>exact h.eq y (f y rfl)
def nT{T:br->ck}{i x:br}(h:T i)(h':¬ T x):¬ i=x:=λe=>h' (e▸h)
def wr8(p:LI T r)(h:Ce T b b')(l:r.ok b.l):Ce T (da 1 b r) (da 1 b' r)/\∀i,T i->gt (da 1 b' r) i=gt b' i:=by
 let m:=h.len;cases r with
 | add x o =>
  let#[f1,f2]:=p;let f:x<b.l:=l.1;apply#[#[by rw[yj,yj,m],λi hi=>?_],λi hi=>?_]
  .rw[He f,He (),h.eq x f1,val_eq h f2,h.eq i hi]
  .rw[He (),cp (nT hi f1)]
 | take x o =>
  let#[f1,f2]:=p;let f:x<b.l:=l.1;apply#[#[by rw[yj,yj,m],λi hi=>?_],λi hi=>?_]
  .rw[Fo f,Fo (),h.eq x f1,val_eq h f2,h.eq i hi]
  .rw[Fo (),cp (nT hi f1)]
 | turn x j q =>
  let#[f1,f2]:=p;let f:x<b.l:=l.1;let g:mH b q=mH b' q:=by unfold mH;rw[T8,O5,O5];exact#[λz c g=>by rw[<- h.eq _ (f2 c g)];exact z c g,λz c g=>by rw[h.eq _ (f2 c g)];exact z c g]
  apply#[#[by rw[yj,yj,m],λi hi=>?_],λi hi=>?_]
  .rw[Hk f,Hk (),h.eq x f1,g,h.eq i hi]
  .rw[Hk (),cp (nT hi f1)]
 | swap x y =>
  let#[f1,f2]:=p;obtain⟨f,t,_⟩:x<b.l/\y<b.l/\y≠x:=l;apply#[#[by rw[yj,yj,m],λi hi=>?_],λi hi=>?_]
  .show gt ((b.I x _).I y _) i=gt ((b'.I x _).I y _) i;rw[nQ (by rw[K2];exact t),nQ f,nQ (by rw[K2];omega),nQ (),h.eq x f1,h.eq y f2,h.eq i hi]
  .show gt ((b'.I x _).I y _) i=_;rw[nQ (by rw[K2];omega),nQ (),cp (nT hi f2),cp (nT hi f1)]
 | go x n k=>exact#[h,λ_ _=>rfl]| aL x n k=>exact#[h,λ_ _=>rfl]
theorem Xj(j:Pairs rs)(g:∀r∈rs,LI T r):∀{n s:br} {b b':bf bz},kQ sz rs b s->Ce T b b'->(rn dS rs n s b').1=(rn dS rs n s b).1/\(rn dS rs n s b').2.1=(rn dS rs n s b).2.1/\Ce T (rn dS rs n s b).2.2 (rn dS rs n s b').2.2/\∀i,T i->gt (rn dS rs n s b').2.2 i=gt b' i
 | 0,s,b,b',_,h=>#[rfl,rfl,h,λ_ _=>rfl]| n+1,s,b,b',c,h=>by
  let l:dZ dS rs b' s=dZ dS rs b s:=by
   show bD rs b' s=bD rs b s;unfold bD;split
   .rfl
   .rename_i x n k e;rw[h.eq x (g _ (K5 e))]
   .rfl
  cases f:dZ dS rs b s with
  | false=>rw[yi f,yi (l.u f)];exact#[rfl,rfl,h,λ_ _=>rfl]| true =>
   rw[ua f,ua (l.u f)];let c2:=(EY (fw:=dS) j c f).1;let key:(dG dS rs b' s).1=(dG dS rs b s).1/\Ce T (dG dS rs b s).2 (dG dS rs b' s).2/\∀i,T i->gt (dG dS rs b' s).2 i=gt b' i:=by
    show(cf rs b' s).1=(cf rs b s).1/\Ce T (cf rs b s).2 (cf rs b' s).2/\∀i,T i->gt (cf rs b' s).2 i=gt b' i;unfold cf;split
    .rename_i x n k e;rw[h.eq x (g _ (K5 e))];split <;> exact#[rfl,h,λ_ _=>rfl]
    .rename_i r B e;let m:=K5 e;exact#[rfl,wr8 (g _ m) h (by rw[c.bo.len];exact c.ro _ m)]
    .exact#[rfl,h,λ_ _=>rfl]
   let#[q,p,o]:=key;let#[A,y,u,t]:=Xj j g (n:=n) c2 p;rw[q];exact#[cv (·+1) A,y,u,λi hi=>(t i hi).u (o i hi)]
def xj0{b b':bf bz}(h:b.l=b'.l)(e:∀i,gt b i=gt b' i):b=b':=List.ext_getElem h λi g f=>by rw[<- Fd g,<- Fd f];exact e i
inductive gQ(rs:bf k')(z:br)(f:bf bz):br->bf bz->br->Prop
 | done:gQ rs z f z f 0
 | step {s:br} {bs:bf bz} {d:br}:s<z->bD rs bs s=dS->gQ rs z f (cf rs bs s).1 (cf rs bs s).2 d->gQ rs z f s bs (d+1)
theorem gQ.trans(f:y<=z)(g:gQ rs z k y l j):∀{s:br} {bs:bf bz} {i:br},gQ rs y l s bs i->gQ rs z k s bs (j+i)
 | _,_,_,.done=>g| _,_,_,.step h m t=>.step (C9 h f) m (gQ.u f g t)
abbrev fM(W:bf k')(a:br)(rs:bf k'):ck:=∀(j:br) (row:k'),rs[j]?=du row->W[a+j]?=du (mv a row)
theorem gQ.seg(hw:fM W a rs)(j:Pairs rs):∀{n s:br} {b b':bf bz},kQ sz rs b s->rn dS rs n s b=(n,rs.l,b')->gQ W (a+rs.l) b' (a+s) b n
 | 0,s,b,b',_,h=>by let h:(0,s,b)=(0,rs.l,b'):=h;cases h;exact .done
 | n+1,s,b,b',c,h=>by
  cases f:dZ dS rs b s with
  | false=>rw[yi f] at h;cases h
  | true =>
   let k:s<rs.l:=by
    rcases GA s rs.l with z|z
    .exact z
    .have e:s=rs.l:=NM c.le z;let:bD rs b s=eH:=by rw[e];exact Ek
     let f:bD rs b s=dS:=f;rw[this] at f;cases f
   let#[i,g]:=xq3 (r:=[]) hw c k;rw[D7] at i g;let g:=g f;rw[D7] at g;rw[ua f] at h;let h:((rn dS rs n (cf rs b s).1 (cf rs b s).2).1+1,(rn dS rs n (cf rs b s).1 (cf rs b s).2).2)=(n+1,rs.l,b'):=h;rw[OE] at h;apply .step () (i.u f) ?_;rw[g];exact gQ.seg hw j (EY j c f).1 (Av (Q2 h.1) h.2)
theorem w61(g:Pairs rs):∀{n s:br} {b:bf bz},kQ sz rs b s->rn dS (j3 rs) n (rs.l-s) b=((rn eH rs n s b).1,rs.l-(rn eH rs n s b).2.1,(rn eH rs n s b).2.2)
 | 0,_,_,_=>rfl| n+1,s,b,c=>by
  let#[h,i]:=YD (bs:=b) g c.le;cases f:dZ eH rs b s with
  | false=>rw[yi f,yi (fw:=dS) (h.u f)]| true =>let e:dG dS (j3 rs) b (rs.l-s)=(rs.l-(dG eH rs b s).1,(dG eH rs b s).2):=i f;rw[ua f,ua (fw:=dS) (h.u f),e,w61 g (EY g c f).1]
def wl2(g:Pairs rs)(c:kQ sz rs b 0)(h:rn dS rs n 0 b=(n,rs.l,b')):rn dS (j3 rs) n 0 b'=(n,(j3 rs).l,b):=by
 let c1:kQ sz rs b' rs.length:=by let:=Xi (fw:=dS) g (n:=n) c;rw[h] at this;exact this
 let f:=vf1 g (n:=n) n c (by rw[h];exact B9 _);rw[h] at f;rw[show n-(n,rs.l,b').1=0 by show n-n=0;omega] at f;let f:rn eH rs n rs.l b'=(n+0,0,b):=f;let f2:=w61 g (n:=n) c1;rw[Z8,f] at f2;rw[AO];exact f2
def dI(add:cg)(aO:br)(pl:bf br):bf k':=(D3 pl.l).t λj=>if add=dS then k'.add (aO+j) (.box (pl.E j 0)) else k'.take (aO+j) (.box (pl.E j 0))
def P_{pl:bf br}(m:aO+pl.l<=sz)(k:∀p∈pl,p<sz/\(p<aO\/aO+pl.l<=p)):∀r∈dI add aO pl,tg 0 sz r:=by
 intro r h;let#[j,f,rfl]:=D6.mp h;let f:=K0.mp f;let i:pl.E j 0∈pl:=by rw[F4,B6 f];exact M4 f
 let#[l,n]:=k _ i;let g:kZ.ok sz (aO+j) (.box (pl.E j 0)):=#[l,()];split
 .exact#[J8 _,(),g]
 .exact#[J8 _,(),g]
theorem v70:∀{f:bf k'} {b:bf bz},(∀r∈f,∃x o,(r=.add x o\/r=.take x o)/\aO<=x/\x<aO+m)->aO+m<=b.l->∀i,i<aO\/aO+m<=i->gt (lU f b) i=gt b i
 | [],_,_,_,_,_=>rfl| r::f,b,h,j,i,hi=>by
  let#[x,o,e,l,k]:=h r D0;rw[QQ,v70 (λr g=>h r (C2 _ g)) (by rw[yj];exact j) i hi];rcases e with rfl|rfl
  .rw[He (),cp ()]
  .rw[Fo (),cp ()]
def vo7{pl:bf br}(h:cZ sz b)(f:aO+pl.l<=sz)(l:∀p∈pl,p<sz/\(p<aO\/aO+pl.l<=p)):cZ sz (lU (dI add aO pl) b)/\∀i,i<aO\/aO+pl.l<=i->gt (lU (dI add aO pl) b) i=gt b i:=
 ⟨(Yl (P_ f l) h (B9 _)).1,v70 (λr k=>by
  let#[j,g,rfl]:=D6.mp k;let g:=K0.mp g;apply#[aO+j,.box (pl.E j 0),?_,(),()];cases add
  .exact .inr rfl
  .exact .inl rfl) (by rw[h.len];exact f)⟩
structure lG(W:br)(bs:bf gq)(rs:bf ai):Prop where
 nb:bs.l<=6
 nd:bs.Nodup
 ok:dF W bs rs
 nt:gf rs
 dp:aW rs<=6
 sz:22*cC rs<=3960
 hW:W<=16
def iM(W:br)(bs:bf gq)(rs:bf ai):br:=(bB W bs rs 0 (D3 bs.l) bs.l).2.2.2
def cb(f m:br):bf br:=(D3 m).t λj=>f+j
def jy(add:cg)(W:br)(bs:bf gq)(rs:bf ai)(f aO fr:br):bf k':=jT [] [(bB W bs rs 0 (cb f bs.l) fr).1,dI add aO (bB W bs rs 0 (cb f bs.l) fr).2.1,j3 (bB W bs rs 0 (cb f bs.l) fr).1]
def xq9:mv a (mv b r)=mv (a+b) r:=by cases r <;> first|rfl|(show k'.go _ _ _=k'.go _ _ _;congr 1;omega)|(show k'.aL _ _ _=k'.aL _ _ _;congr 1;omega)
theorem Qu:∀{cs:bf (bf k')} {a:bf k'},(jT a cs).l=a.l+(cs.t J1).sum
 | [],a=>rfl| c::cs,a=>by rw[jT,Qu,QK,C1,N8];omega
def fM.part(h:fM W a (jT acc (c::L))):fM W (a+acc.l) c/\fM W a (jT (dJ acc c) L):=#[λj row e=>by rw[K6,<- xq9];exact h _ _ (xf7 e),h]
def XC{b:bf bz}(h:b.l<=i):gt b i=0:=by unfold gt;rw[F4,M9 h];rfl
def Zy(g:cZ sz X)(f:cZ sz Y):∃Z,cZ sz Z/\∀i,gt Z i=if t<=i/\i<t+m then gt Y i else gt X i:=by
 apply#[(D3 sz).t λi=>if t<=i/\i<t+m then gt Y i else gt X i,#[by simp,λv h=>?_],λi=>?_]
 .let#[i,hi,rfl]:=D6.mp h;let hi:=K0.mp hi;split
  .exact CG f hi
  .exact CG g hi
 .rcases GA i sz with z|z
  .rw[Fd (by simpa using z),List.getElem_map,List.getElem_range]
  .rw[XC (by simpa using z),XC (b:=Y) (by rw[f.len];exact z),XC (b:=X) (by rw[g.len];exact z),ite_self]
def QR(t m:br):(cb t m).l=m:=by unfold cb;rw[B0,F0]
def XO(h:t+m<=fr)(f:p∈cb t m):p<fr:=by let#[j,g,rfl]:=D6.mp f;let:=K0.mp g;omega
section
variable{W src aO fr sz:br}{bs:bf gq}{rs:bf ai}
def wz2(g:src+bs.l<=fr):yK (λx=>if x<bs.l then src+x else x+(fr-bs.l)) bs.l (fr-bs.l):=#[λx y e=>by split at e <;> split at e <;> omega,λx f=>cp ()]
def w13(ok:lG W bs rs)(k:src+bs.l<=fr):(bB W bs rs 0 (cb src bs.l) fr).2.2.2=iM W bs rs/\(∀p∈(bB W bs rs 0 (cb src bs.l) fr).2.1,src<=p/\p<src+bs.l\/fr<=p)/\∀T:br->ck,(∀x,src<=x->x<src+bs.l->¬ T x)->(∀x,fr<=x->¬ T x)->∀r∈(bB W bs rs 0 (cb src bs.l) fr).1,LI T r:=by
 let h:=Qn (wz2 k) ok.hW ok.nb rs (a:=0) (pl:=D3 bs.l) (fr:=bs.l) ok.ok ok.nt (F0) (B9 _);let n:(D3 bs.l).t (λx=>if x<bs.l then src+x else x+(fr-bs.l))=cb src bs.length:=L5 λx j=>cu (K0.mp j);rw[n,show bs.l+(fr-bs.l)=fr by omega] at h;simp only[Ai] at h;rw[h];apply#[rfl,λp m=>?_,λT g f r l=>?_]
 .let#[x,_,rfl]:=D6.mp m;split <;> omega
 .let#[i,_,rfl]:=D6.mp l;apply xh3 (λx=>?_) i;split
  .exact g _ () ()
  .exact f _ ()
def v50(ok:lG W bs rs)(Q:src+bs.l<=fr)(ht:aO+bs.l<=fr)(hd:src+bs.l<=aO\/aO+bs.l<=src)(O:(bB W bs rs 0 (cb src bs.l) fr).2.2.1<=sz)(l:cZ sz X)(R:∀i,fr<=i->gt X i=0): ∃L,cZ sz L/\(∀i,fr<=i->gt L i=0)/\∀(M:bf k') (a:br),fM M a (jy add W bs rs src aO fr)->gQ M (a+(jy add W bs rs src aO fr).l) L a X (2*iM W bs rs+bs.l):=by
 let#[s1,s2,s3]:=w13 ok Q;let#[u,h,Zi]:=uf (a:=0) ok.hW rs ok.ok ok.nt (QR src bs.l) (fr:=fr) (λp f=>XO Q f);unfold jy;generalize (bB W bs rs 0 (cb src bs.l) fr)=Z at *;let l3:=u.le;let f:=u.pr.pairs;let vk:At Z.1 0 Z.1:=λj r e=>by rw[L6];exact e
 let#[J,H,q1,_,g]:=u.run sz Z.1 X vk l O R trivial;let g:=g 0;rw[O_,L6] at g;let g:rn dS Z.1 Z.2.2.2 0 X=(Z.2.2.2,Z.1.l,J):=g;let y:∀r∈Z.1,r.ok sz:=λr k=>Yh (u.ok r k) O;let N:∀p∈Z.2.1,p<sz/\(p<aO\/aO+Z.2.1.l<=p):=λp f=>by let:=s2 p f;let:=Zi p f;rw[h];omega
 let#[c1,c2]:=vo7 (add:=add) (aO:=aO) H (by rw[h];omega) N;let By:=P_ (add:=add) (aO:=aO) (sz:=sz) (by rw[h];omega) N;let S:∀r∈dI add aO Z.2.1,r.plain=dS:=λr k=>Fw (By r k);generalize E:lU (dI add aO Z.2.1) J=X2 at *;rw[h] at c2;let#[I,B,A]:=Zy (t:=aO) (m:=bs.l) l c1;let ex:Ce (λi=>aO<=i/\i<aO+bs.l) X I:=#[by rw[l.len,B.len],λi hi=>by rw[A,cp hi]];let#[f1,f2,G,f4]:=Xj f (s3 (λi=>aO<=i/\i<aO+bs.l) (λx _ _=>()) λx _=>()) (n:=Z.2.2.2) (s:=0) #[l,y,J8 _] ex;rw[g] at f1 f2 G;let e3:rn dS Z.1 Z.2.2.2 0 I=(Z.2.2.2,Z.1.l,X2):=Av f1 (Av f2 (xj0 (by rw[<- G.len,c1.len];exact H.len) λi=>by
  by_cases q:aO<=i/\i<aO+bs.l
  .rw[f4 i q,A,cu q]
  .rw[<- G.eq i q,c2 i ()]))
 let e4:=wl2 f #[B,y,J8 _] e3;apply#[I,B,λi hi=>by rw[A,cp ()];exact R i hi,λM a hw=>?_];let#[h1,hw]:=hw.part;let#[h2,hw]:=hw.part;let#[h3,_]:=hw.part;let Y:=gQ.seg h1 f #[l,y,J8 _] g;let o:=gQ.seg (n:=(dI add aO Z.2.1).l) h2 (CS S) #[H,λr k=>EW (By r k) (B9 _),J8 _] (QP S 0 _ 0 J rfl (L6 _));let U:=gQ.seg h3 (uu0 f) #[c1,w16 y,J8 _] e4;let C:(dI add aO Z.2.1).l=bs.l:=by unfold dI;rw[B0,F0,h]
 rw[E] at o;rw[C] at o;simp only[QK,C,AO,W7,O_,L6] at Y o U;rw[Qu,C1,C1,C1,GB,AO,C,N8,N8,N8,M',W7];rw[show a+(0+(Z.1.l+(bs.l+(Z.1.l+0))))=a+(Z.1.l+bs.l)+Z.1.l by omega,show 2*iM W bs rs+bs.l=Z.2.2.2+bs.l+Z.2.2.2 by rw[s1];omega];apply gQ.u () (gQ.u () U ?_) Y;rw[K6] at o;exact o
end
def kr(w:gq)(k:br):D:=.tup [.str w,.int (k:bz)]
def qj(W:br)(bs:bf gq)(p:bf ai):bz:=((2*iM W bs p+bs.l:br):bz)
inductive i_(W:br)(bs:bf gq)(rs:bf ai)(f aO fr:br):D->bf k'->br->Prop
 | lay {k:br}:i_ W bs rs f aO fr (kr "lay" k) (jy dS W bs rs f aO fr) (bB W bs rs 0 (cb f bs.l) fr).2.2.1
 | clear {k:br}:i_ W bs rs f aO fr (kr "clear" k) (jy eH W bs rs f aO fr) (bB W bs rs 0 (cb f bs.l) fr).2.2.1
 | lT:i_ W bs rs f aO fr (.tup [.str "show"]) ((D3 bs.l).t λj=>k'.add (bs.l+j) (.box (aO+j))) (aO+bs.l)
def C_(m k:br):br:=if k=1 then 0 else k*m
structure uD4(W:br)(bs:bf gq)(PP:bf (bf ai)):Prop where
 ok:∀p∈PP,lG W bs p/\22*cC p<=440
 hW:1<=W
 hb:1<=bs.l
 yC:bs.l<=6
def qK(m k:br):br:=if k=0 then 0 else(k+1)*m
structure Lv(fr sz:br)(X:bf bz):Prop where
 ok:cZ sz X
 z:∀i,fr<=i->gt X i=0
def wu(W:br)(bs:bf gq)(g:bf (bf ai))(l f:br):br:=if l=f then bs.l else 2*iM W bs (g.E (max l f-1) [])+bs.l
section
variable{W:br}{bs:bf gq}{PP:bf (bf ai)}
def getD_mem(h:k<PP.l):PP.E k []∈PP:=by rw[F4,B6 h];exact M4 h
def w74(h:k<=n):qK m k+m<=(2+n)*m:=by
 unfold qK;split
 .exact D4 () (N5 m (show 1<=2+n by omega))
 .rw[<- Z6];exact N5 m ()
def vi6(h:j<k):qK m j+m<=qK m k:=by
 unfold qK;rw[cp (show¬ k=0 by omega)];split
 .rw[L6];exact D4 () (N5 m (show 1<=k+1 by omega))
 .rw[<- Z6];exact N5 m ()
def wp1(h:k≠0):2*m<=qK m k:=by unfold qK;rw[cp h];exact N5 m ()
def vs7:C_ m (k+1)=qK m k:=by
 unfold C_ qK;by_cases h:k=0
 .rw[cu (),cu h]
 .rw[cp (),cp h]
def Lv.step{fr sz t l f:br}{X:bf bz}{mv:D}{rows:bf k'}(U:uD4 W bs PP)(vg:fr=(2+PP.l)*bs.l)(L:Lv fr sz X)(u:i_ W bs (PP.E (max l f-1) []) (C_ bs.l (max l f)) ((max l f+1)*bs.l) fr mv rows t)(x:t<=sz) (A:mv=kr "lay" (l+1)/\f=l+1/\l+1<=PP.l\/mv=kr "clear" l/\l=f+1/\l<=PP.l\/mv=.tup [.str "show"]/\f=l/\l=PP.l/\1<=l): ∃g,Lv fr sz g/\∀(q:bf k') (a:br),fM q a rows->gQ q (a+rows.l) g a X (wu W bs PP l f):=by
 obtain⟨k,G,H⟩:∃k,max l f=k+1/\k+1<=PP.l:=#[max l f-1,by rcases A with⟨_,_,_⟩|⟨_,_,_⟩|⟨_,_,_,_⟩ <;> omega,by rcases A with⟨_,_,_⟩|⟨_,_,_⟩|⟨_,_,_,_⟩ <;> omega];rw[G,vs7,show(k+1+1)*bs.l=qK bs.l (k+1) from(cp ()).M,L0] at u;let f1:=w74 (m:=bs.l) (k:=k) (n:=PP.l) ();let f2:=w74 (m:=bs.l) H;let Y:=vi6 (m:=bs.l) (show k<k+1 by omega);let f4:=wp1 (m:=bs.l) (k:=k+1) ();let S:l≠f->wu W bs PP l f=2*iM W bs (PP.E k [])+bs.l:=λh=>by unfold wu;rw[cp h,G];rfl
 let mk:∀add,(bB W bs (PP.E k []) 0 (cb (qK bs.l k) bs.l) fr).2.2.1<=sz->l≠f->∃g,Lv fr sz g/\∀(q:bf k') (a:br),fM q a (jy add W bs (PP.E k []) (qK bs.l k) (qK bs.l (k+1)) fr)->gQ q (a+(jy add W bs (PP.E k []) (qK bs.l k) (qK bs.l (k+1)) fr).l) g a X (wu W bs PP l f):=λadd x h=>by let#[g,O,N,M]:=v50 (add:=add) (U.ok _ (getD_mem H)).1 () () (.inl Y) x L.ok L.z;rw[S h];exact#[g,#[O,N],M]
 rcases A with⟨rfl,C,_⟩|⟨rfl,C,_⟩|⟨rfl,C,_,_⟩
 .cases u;exact mk dS x ()
 .cases u;exact mk eH x ()
 .cases u;rw[show wu W bs PP l f=bs.l from cu C.M];generalize qK bs.l (k+1)=tg at *;let o:=QR tg bs.l;let Z:((D3 bs.l).t λj=>k'.add (bs.l+j) (.box (tg+j)))=dI dS bs.l (cb tg bs.l):=by unfold dI;rw[o];exact L5 λj B=>by rw[cu rfl,F4,cb,F5,sW (K0.mp B)];rfl
  rw[Z];let E:∀p∈cb tg bs.l,p<sz/\(p<bs.l\/bs.l+(cb tg bs.l).l<=p):=λp R=>by let#[j,B,rfl]:=D6.mp R;let:=K0.mp B;rw[o];omega
  let#[c1,c2]:=vo7 (add:=dS) (aO:=bs.l) L.ok (by rw[o];omega) E;let J:=P_ (add:=dS) (aO:=bs.l) (sz:=sz) (by rw[o];omega) E;let I:∀r∈dI dS bs.l (cb tg bs.l),r.plain=dS:=λr y=>Fw (J r y);let Q:(dI dS bs.l (cb tg bs.l)).l=bs.l:=by unfold dI;rw[B0,F0,o]
  rw[o] at c2;apply#[_,#[c1,λi hi=>by rw[c2 i ()];exact L.z i hi],λq a hw=>?_];let F:=gQ.seg (n:=(dI dS bs.l (cb tg bs.l)).l) hw (CS I) #[L.ok,λr y=>EW (J r y) (B9 _),J8 _] (QP I 0 _ 0 X rfl (L6 _));rw[Q] at F⊢;exact F
end
end Law
namespace L2
open PySem PySem.Spec PyProof.Rows
section
variable{X:Cx}{tg:gI}
def w60{lo hi:bz}:P3 lo hi (-1)=(((lo-hi).i:br):bz):=by
 unfold P3;rw[cp ∅];split
 .simp;omega
 .omega
def uy3{a b:bz}(j:-(2^40)<=a)(f:a<2^40)(i:-(2^40)<=b)(g:b<2^40):Rx a b (-1)=dS:=by
 let h:=w60 (lo:=a) (hi:=b);let fits:∀x:bz,-(2^42)<=x->x<=2^42->Rv x=dS:=by intro x l k;unfold Rv;simp;omega
 unfold Rx;rw[fits a () (),fits b () (),fits (-1) () (),fits _ () (),cp ∅,fits _ () ()];simp
def vf4{kI:bf (fy×jC)}{f:St}{H:Hp}{s:fC}{R:It->Hp->ck}{E:fx->fC->ck}{lo hi:bz}{t u v:Tok}{tk:br}(I:lp X kI f H s)(h1:-(2^40)<=lo)(k:lo<2^40)(j:-(2^40)<=hi)(i:hi<2^40) (q:R (Am lo (-1) (lo-hi).i) H):i3 (model X.c X.w) X.A (pyIter (.ref s.o.h.v)) (BN X kI f tg R) E { s with heap:=s.o.R { cls:=.type "range",data:=.fields [.int lo t,.int hi u,.int (-1) v].e},toks:=tk}:=by
 apply wpAny_pyIter_range (SJ ..) (uy3 h1 k j i) ?_;let g:lp X kI f H { s with heap:=s.o.R { cls:=.type "range",data:=.fields [.int lo t,.int hi u,.int (-1) v].e},toks:=tk}:=I.kept λb o e=>B8 _ e;apply#[(s.o.R { cls:=.type "range",data:=.fields [.int lo t,.int hi u,.int (-1) v].e}).h.v,[(s.o.R { cls:=.type "range",data:=.fields [.int lo t,.int hi u,.int (-1) v].e}).h.v],_,_,H,rfl,
  g.kept (t':=tk) λb o e=>B8 _ e,uy1 _ lo (-1) _,?_,λb h=>?_,q]
 .have m:lo+((0:br):bz)*(-1)=lo:=by simp
  let l:=w60 (lo:=lo) (hi:=hi);show SH _ _ (lo+((0:br):bz)*(-1)) ((((lo-hi).i:br):bz)-((0:br):bz)) (-1);rw[m,<- l,show(P3 lo hi (-1)-((0:br):bz))=P3 lo hi (-1) by simp];exact E7 _ rfl
 .have e:b=(s.o.R { cls:=.type "range",data:=.fields [.int lo t,.int hi u,.int (-1) v].e}).h.v:=by simpa using h
  subst e;exact g.oM (B9 _) (g.aB.y (B9 _))
def xg7(h:TA):TI:=λf H R=>h f H λg k=>∃i j:bz,g=[.int i,.int j,.int (-1)]/\(-(2^40)<=i/\i<2^40/\-(2^40)<=j/\j<2^40)/\R (Am i (-1) (i-j).i) k
def vg2(E:Gl X "range")(C:X.mg "range" = dv)(G:PA X [a,b,d] m)(B:D2 [a,b,d] X.f=(eH,eval a X.f)::D2 [b,d] X.env:=by rfl)(J:(backTo pos (D2 [b,d] X.f)).any (·.1)=eH:=by rfl):
  PI X tg (.Call (.Name "range" p) [a,b,d] [] pos) (xg7 m):=by
 intro kI s l H R I h;apply Call_ (sI I E C OR (J9 (bu (G pos kI s l H _ I h) λN Q ⟨M,S,L,o,k⟩=>?_) B J));let#[i,j,e,#[k,A,y,x],q]:=k;subst e;cases o with
 | cons r f =>
  cases f with
  | cons u f =>
   cases f with
   | cons g f =>cases f;let#[t,rfl]:=r;let#[O,rfl]:=u;let#[n,rfl]:=g;exact call_range_3 () (vf4 L k A y x q) (.inl (O' (va ((Ou ()).mpr (show(-1:bz).natAbs<2^50 by decide)) ∅)))
end
end L2
namespace L3
open PySem PySem.Spec PyProof.Rows L2
def WH(g:eD):uH:=λf G r=>g f G λh k=>match h with|[.int i,.int j,.int (-1)]=>(-(2^40)<=i/\i<2^40/\-(2^40)<=j/\j<2^40)/\r #[jx i (-1) (i-j).i,λ_=>dm] k|_=>b8
def vj0{K:eM}{m:L2.St}{H:Hp}{n:eD}{R:It->Hp->ck}(h:nA K (WH n) m H R):xg7 (eB K n) m H R:=by
 let#[k,G,q,A,c,t,f]:=h;apply#[k,G,_,A,c,t,λN Q L O E c1 J g=>?_];split at g
 .rename_i i j;let#[x,r,rfl,u,B]:=E.aq;let#[y,M,rfl,p,C]:=B.aq;let#[z,I,rfl,o,l]:=C.aq;rw[af] at u p o;subst u p o;rw[l.aX];exact#[i,j,rfl,g.1,f _ _ _ _ v98 c1 J g.2]
 .exact g.n
def xg6(i:Gl X "range")(h:X.mg "range" = dv)(j:A3 X [a,b,d] f)(g:D2 [a,b,d] X.f=(eH,eval a X.f)::D2 [b,d] X.env:=by rfl)(k:(backTo pos (D2 [b,d] X.f)).any (·.1)=eH:=by rfl):
  I3 X tg (.Call (.Name "range" p) [a,b,d] [] pos) (WH f):=CD (vg2 i h j g k) λ_ _ _=>vj0
end L3
namespace L2
open PySem PySem.Spec PyProof.Rows
section
variable{X:Cx}
def vl1{P:hH}{w:hL}{ns:bf bz}{vs:bf (lR×fx)}(f:vs.t (·.1)=ns.t M7){us:bf fx}(g:us.l=vs.l)(h:∀(j:br) (v:fx),us[j]?=du v->∃k x,vs[j]?=du (k,x)/\(eW P w).is k v=dS):x_ us ns:=by
 induction ns generalizing vs us with
 | nil =>
  let:vs=[]:=by simpa using f
  subst this;let:us=[]:=by simpa using g
  subst this;exact .nil
 | cons n ns i =>
  match vs,f,us,g with
  | (k,x)::vs,f,u::us,g =>rw[C1,C1,W6] at f;let#[o,m,e,hi]:=h 0 u rfl;cases e;obtain rfl:k=.inl n:=f.1;let#[t,rfl]:=(show∃t,u=.int n t from xf4 hi);exact .cons n t (i f.2 (by simpa using g) λj v l=>h (j+1) v (by simpa using l))
def uw4(hh:X.A.handled=dv):bK X (.builtin "sorted") (λxs H Q=>∃(p:fy) (ns:bf bz) (kvs:bf (lR×V)),xs=[.ref p]/\kvs.t (·.1)=ns.t M7/\H p=du (.dK kvs)/\ns.l<64/\∀(l:fy) (k:bf bz),H l=dv->k.Perm ns->k.Pairwise (·<=·)->Q (.ref l) (l6 H l (.lst (k.t V.int)))):=by
 intro kI s R H xs us Q I r h;let#[p,ns,kvs,rfl,hk,hd,Gg,q]:=h;let#[u,rfl,S]:=vals1 r;cases S;apply Calls.call_function_entry kind_sorted plain_sorted entry_sorted (args_sorted1 _) ?_;unfold Builtin.«sorted»;let#[z,x,C,i,dd]:=yX I.aB (.inl hd);let#[o,es,M,Y,hc,fI,Bq,U,Z]:=id dd;let Lm:=i.keys;let FX:=i.l;apply B5 (m:=checkCount "sorted" 1 1 _) (C8 (B5 (W.kdu_collect (A:=X.A.in1) (W.kdl_dict (kvs:=C) (ep:=M) x) hh #[o,es,Y,hc,fI,Bq,U,Z] () λn t f FZ E=>?_)));let y:f.L.l=C.l:=by rw[L4];exact E.1
 let hi:=vl1 (P:=X.c) (w:=X.w) (ns:=ns) (by rw[<- Lm];exact hk) y λj v e=>E.2 j v (by rw[<- TK];exact e);let J:f.L.l<=iZ:=()
 let O:lp X kI R H { s with heap:=n,toks:=t}:=I.kept FZ;apply B5 (wpAny_newList ?_ J);let B:(n.R (seqObj "list" f.L.e 0)).r n.h.v=du (seqObj "list" f.L.e 0):=E7 _ rfl;show i3 _ _ _ _ _ { s with heap:=n.R (seqObj "list" f.L.e 0),toks:=t};apply B5 (O0 (Q3 slot_list_sort #[_,B,rfl] entry_list_sort (list_sort_tree B hi (by rw[hi.l];exact Gg) λout k a1 N a3=>#[_,rfl,?_]) (args_list_sort _)));let#[c,e]:=sortedHeap_at (out:=out) B;apply C8 #[_,rfl,.ref n.h.v,_,O.laid (t':=t) (λb u L=>?_) (B9 _) (show bC X.c X.w _ _ _ (.lst (k.t V.int)) from #[by rw[B0,N.length_eq,<- hi.l];exact J,out.L,c,QZ a1,e]),rfl,q _ _ (O.aB.y (B9 _)) N a3];let G:=E4 L;rw[sortedHeap_old (J7 G) (by rw[size_push'];exact Nat.lt_succ_of_lt G)];exact B8 _ L
end
end L2
namespace L3
open PySem PySem.Spec PyProof.Rows L2
section
variable{X:Cx}{K:eM}{H:Hp}
@[reducible] def vr6:C3:=λh G q=>∃(a:fy) (f:bf bz) (kvs:bf (lR×D)),h=[.ref a]/\kvs.t (·.1)=f.t M7/\G a=du (.bR kvs)/\f.l<64/\∀(p:fy) (g:bf bz),G p=dv->g.Perm f->g.Pairwise (·<=·)->q (.ref p) (aC G p (.lst (g.t .int)))
def vb5(o:aZ k X.A):Call3 X (.builtin "sorted") vr6:=nR (uw4 o.hd) <| by intro xs H Q #[C,G,q,r,c,t,f];let#[a,m,kvs,rfl,u,n,B,t]:=t;let#[v,rfl,l]:=r.one;cases l.ao;let#[i,e,j]:=c a _ n;exact#[_,m,i,rfl,by rw[<- u];exact j.1.M,e,B,λp h g y x=>f _ _ _ _ af.fG (c.cY g (Yg h)) (Le.y g) (t p h (c.y g) y x)]
end
end L3
namespace Law
open PySem L2 L3
def mu(i:br):hC:=B19.main.body.getD i (.Pass #[0,0,0,0])
abbrev Vc:hC:=mu 8
abbrev Va:hC:=mu 9
abbrev UY:hC:=mu 10
abbrev VT:hC:=mu 11
abbrev Vk:hC:=mu 12
abbrev Vj:hC:=mu 13
abbrev Vh:hC:=mu 14
abbrev Vl:hC:=mu 15
abbrev VS:hC:=mu 16
abbrev Wo:hC:=mu 18
abbrev Wq:hC:=mu 19
abbrev UM:hC:=inClass (mu 22) 0
abbrev UL:hC:=inClass (mu 22) 1
abbrev UN:hC:=inClass (mu 22) 2
abbrev UO:hC:=inClass (mu 22) 3
abbrev UP:hC:=inClass (mu 22) 4
abbrev Wt:hC:=mu 23
abbrev Ww:hC:=mu 24
abbrev Wu:hC:=mu 25
abbrev VX:hC:=mu 26
abbrev Wx:hC:=mu 27
abbrev Wl:hC:=mu 28
abbrev Vf:hC:=mu 29
abbrev UK:hC:=mu 30
abbrev U_:hC:=mu 31
abbrev UZ:hC:=mu 32
abbrev U':hC:=mu 33
abbrev Wj:hC:=mu 34
abbrev Wd:hC:=mu 35
abbrev UW:hC:=mu 36
abbrev Wm:hC:=mu 37
abbrev VM:hC:=mu 39
abbrev VN:hC:=mu 40
abbrev VW:hC:=mu 42
abbrev Wr:hC:=mu 43
abbrev Ws:hC:=mu 44
abbrev Wi:hC:=mu 46
abbrev Ve:hC:=mu 47
abbrev Vd:hC:=mu 49
abbrev VO:hC:=mu 50
abbrev VZ:hC:=mu 51
abbrev Wf:hC:=mu 52
abbrev VL:hC:=mu 53
abbrev UX:hC:=mu 54
abbrev V_:hC:=mu 55
abbrev VP:hC:=mu 56
abbrev Wz:hC:=mu 57
abbrev VJ:hC:=mu 59
abbrev Wg:hC:=mu 60
abbrev Wa:hC:=mu 61
abbrev Wc:hC:=mu 62
abbrev Vg:hC:=mu 63
abbrev VR:hC:=mu 64
abbrev VQ:hC:=mu 65
abbrev V':hC:=mu 66
abbrev VI:hC:=mu 67
abbrev EV:hC:=inClass (mu 69) 0
abbrev UU:hC:=inClass (mu 69) 1
abbrev UR:hC:=inClass (mu 69) 2
abbrev US:hC:=inClass (mu 69) 3
abbrev UQ:hC:=inClass (mu 69) 5
abbrev UT:hC:=inClass (mu 69) 7
abbrev Vi:hC:=mu 70
abbrev Vb:hC:=mu 71
abbrev VU:hC:=mu 72
abbrev Wn:hC:=mu 73
abbrev VY:hC:=mu 74
abbrev Wy:hC:=mu 75
abbrev Vt:hC:=mu 77
abbrev Vx:hC:=mu 78
abbrev Vy:hC:=mu 79
abbrev Vo:hC:=mu 80
abbrev Vu:hC:=mu 81
abbrev VC:hC:=mu 82
abbrev VD:hC:=mu 83
abbrev VG:hC:=mu 84
abbrev VA:hC:=mu 85
abbrev Vr:hC:=mu 86
abbrev Vq:hC:=mu 87
abbrev VF:hC:=mu 88
abbrev VH:hC:=mu 89
abbrev Vw:hC:=mu 90
abbrev Vp:hC:=mu 91
abbrev Vn:hC:=mu 92
abbrev Vz:hC:=mu 93
abbrev VE:hC:=mu 94
abbrev Vm:hC:=mu 95
abbrev VB:hC:=mu 96
abbrev Vv:hC:=mu 97
abbrev Vs:hC:=mu 98
abbrev WA:hC:=mu 99
local macro_rules|`(tactic|ac_nf)=>`(tactic|exact ⟨rfl,rfl,rfl,∅,rfl,∅,∅⟩)
def m7:ae ["code", "at", "row"] ["code"] (bj Vc):=by ac_nf
def w46:ae ["row"] ["row"] (bj Va):=by ac_nf
def w49:ae ["row"] ["row"] (bj UY):=by ac_nf
def w35:ae ["row"] ["row"] (bj VT):=by ac_nf
def w42:ae ["row", "size"] ["row", "size"] (bj Vk):=by ac_nf
def w43:ae ["row"] ["row"] (bj Vj):=by ac_nf
def rD:ae ["row", "at", "rows", "fellow"] ["row", "at", "rows"] (bj Vh):=by ac_nf
def ke:ae ["codes", "rows", "code", "ahead"] ["codes"] (bj Vl):=by ac_nf
def w36:ae ["row", "ahead"] ["row", "ahead"] (bj VS):=by ac_nf
def rg:ae ["code", "last"] ["code"] (bj Wo):=by ac_nf
def w29:ae ["row", "last"] ["row", "last"] (bj Wq):=by ac_nf
def w56:ae ["self", "wide", "fresh"] ["self", "wide", "fresh"] (bj UM):=by ac_nf
def w57:ae ["self"] ["self"] (bj UL):=by ac_nf
def w55:ae ["self", "rows"] ["self", "rows"] (bj UN):=by ac_nf
def w54:ae ["self", "chosen", "yes", "no"] ["self", "chosen", "yes", "no"] (bj UO):=by ac_nf
def rJ:ae ["self", "box", "number", "rows", "start"] ["self", "box", "number", "rows"] (bj UP):=by ac_nf
def mQ:ae ["pieces", "boxes", "wide", "places", "fresh", "loom", "where"] ["pieces", "boxes", "wide", "places", "fresh"] (bj Wt):=by ac_nf
def j7:ae ["rows", "where", "loom", "row", "first", "second"] ["rows", "where", "loom"] (bj Ww):=by ac_nf
def gx:ae ["row", "where", "loom", "yes", "no", "chosen", "unlike", "name"] ["row", "where", "loom"] (bj Wu):=by ac_nf
def rq:ae ["atom", "where", "loom", "box"] ["atom", "where", "loom"] (bj VX):=by ac_nf
def w27:ae ["sign", "first", "second", "loom"] ["sign", "first", "second", "loom"] (bj Wx):=by ac_nf
def mT:ae ["first", "second", "loom", "box", "over"] ["first", "second", "loom"] (bj Wl):=by ac_nf
def m6:ae ["first", "second", "loom", "box", "over"] ["first", "second", "loom"] (bj Vf):=by ac_nf
def rK:ae ["first", "second", "loom", "box"] ["first", "second", "loom"] (bj UK):=by ac_nf
def rF:ae ["first", "second", "loom", "box"] ["first", "second", "loom"] (bj U_):=by ac_nf
def w48:ae ["first", "second", "loom"] ["first", "second", "loom"] (bj UZ):=by ac_nf
def w47:ae ["first", "second", "loom"] ["first", "second", "loom"] (bj U'):=by ac_nf
def mU:ae ["first", "second", "count", "loom", "both", "box"] ["first", "second", "count", "loom"] (bj Wj):=by ac_nf
def mV:ae ["first", "second", "loom", "apart", "box"] ["first", "second", "loom"] (bj Wd):=by ac_nf
def kg:ae ["first", "second", "loom", "apart", "other_way", "box"] ["first", "second", "loom"] (bj UW):=by ac_nf
def mS:ae ["asked", "loom", "below", "box"] ["asked", "loom"] (bj Wm):=by ac_nf
def iQ:ae ["word", "stretch", "program", "source", "target", "fresh", "many", "told", "woven", "carried"] ["word", "stretch", "program", "source", "target", "fresh"] (bj VM):=by ac_nf
def mW:ae ["stretch", "program", "many", "told"] ["stretch", "program"] (bj VN):=by ac_nf
def w33:ae ["program"] ["program"] (bj VW):=by ac_nf
def mR:ae ["rows", "plain", "row"] ["rows"] (bj Wr):=by ac_nf
def w28:ae ["row"] ["row"] (bj Ws):=by ac_nf
def gy:ae ["program", "cuts", "all_pieces", "parts", "begin", "size"] ["program", "cuts"] (bj Wi):=by ac_nf
def w45:ae ["program", "cuts"] ["program", "cuts"] (bj Ve):=by ac_nf
def dY:ae ["plan", "n", "s", "marks", "shown", "at", "move", "may_be"] ["plan", "n", "s"] (bj Vd):=by ac_nf
def rB:ae ["move", "marks", "n", "s", "k"] ["move", "marks", "n", "s"] (bj VO):=by ac_nf
def w32:ae ["k"] ["k"] (bj VZ):=by ac_nf
def w30:ae ["k", "marks"] ["k", "marks"] (bj Wf):=by ac_nf
def j8:ae ["marks", "many"] ["marks"] (bj VL):=by ac_nf
def w50:ae ["move", "marks"] ["move", "marks"] (bj UX):=by ac_nf
def iO:ae ["plan", "marks", "sets", "move"] ["plan"] (bj V_):=by ac_nf
def w37:ae ["plan"] ["plan"] (bj VP):=by ac_nf
def w25:ae ["plan", "costs"] ["plan", "costs"] (bj Wz):=by ac_nf
def iR:ae ["program", "cuts", "s", "plan", "parts", "word", "slots", "codes"] ["program", "cuts", "s", "plan"] (bj VJ):=by ac_nf
def rj:ae ["program", "cuts", "s", "plan", "prices"] ["program", "cuts", "s", "plan"] (bj Wg):=by ac_nf
def iN:ae ["plan", "many", "slots", "told", "move"] ["plan", "many"] (bj Wa):=by ac_nf
def rl:ae ["move", "slots", "many", "held"] ["move", "slots", "many"] (bj Wc):=by ac_nf
def kf:ae ["slots", "many", "taken", "box"] ["slots", "many"] (bj Vg):=by ac_nf
def dX:ae ["program", "parts", "plan", "slots", "fresh", "known", "codes", "at", "move", "standing", "k", "key"] ["program", "parts", "plan", "slots"] (bj VR):=by ac_nf
def rA:ae ["move", "stretch", "program", "source", "target", "fresh", "word"] ["move", "stretch", "program", "source", "target", "fresh"] (bj VQ):=by ac_nf
def w31:ae ["slot", "many"] ["slot", "many"] (bj V'):=by ac_nf
def w38:ae ["slot", "many"] ["slot", "many"] (bj VI):=by ac_nf
def wz7:ae ["self", "code", "boxes", "place"] ["self", "code", "boxes", "place"] (bj EV):=by ac_nf
def w51:ae ["self"] ["self"] (bj UU):=by ac_nf
def w52:ae ["self"] ["self"] (bj UR):=by ac_nf
def rH:ae ["self", "row"] ["self"] (bj US):=by ac_nf
def w53:ae ["self"] ["self"] (bj UQ):=by ac_nf
def rG:ae ["self", "row"] ["self"] (bj UT):=by ac_nf
def w44:ae ["row", "held"] ["row", "held"] (bj Vi):=by ac_nf
def rE:ae ["row", "held", "way", "first"] ["row", "held", "way"] (bj Vb):=by ac_nf
def w34:ae ["operand", "held"] ["operand", "held"] (bj VU):=by ac_nf
def rh:ae ["row", "held", "cond"] ["row", "held"] (bj Wn):=by ac_nf
def iP:ae ["code", "boxes", "most", "ride", "steps", "word"] ["code", "boxes", "most"] (bj VY):=by ac_nf
def w26:ae ["there", "there_word", "may_go_on"] ["there", "there_word", "may_go_on"] (bj Wy):=by ac_nf
def dE:ae ["_law_state", "_law_many", "_law_script", "_law_k", "_law_rest", "_law_cell", "_law_number_here", "_law_digit"] ["_law_state", "_law_many"] (bj Vt):=by ac_nf
def dD:ae ["_law_state", "_law_many", "_law_letters", "_law_names_here", "_law_k", "_law_name", "_law_begin", "_law_j", "_law_words", "_law_first"] ["_law_state", "_law_many"] (bj Vx):=by ac_nf
def rC:ae ["_law_state", "_law_wide", "_law_form"] ["_law_state", "_law_wide"] (bj Vy):=by ac_nf
def w41:ae ["_law_state", "_law_names_here", "_law_wide"] ["_law_state", "_law_names_here", "_law_wide"] (bj Vo):=by ac_nf
def gE:ae ["_law_rows_here", "_law_total", "_law_row_here"] ["_law_rows_here"] (bj Vu):=by ac_nf
def gB:ae ["_law_state", "_law_names_here", "_law_wide", "_law_deep", "_law_room", "_law_spare", "_law_form", "_law_x", "_law_one", "_law_yes", "_law_times"] ["_law_state", "_law_names_here", "_law_wide", "_law_deep", "_law_room", "_law_spare"] (bj VC):=by ac_nf
def j':ae ["_law_state", "_law_names_here", "_law_wide", "_law_deep", "_law_room", "_law_spare", "_law_rows_here", "_law_k", "_law_left"] ["_law_state", "_law_names_here", "_law_wide", "_law_deep", "_law_room", "_law_spare"] (bj VD):=by ac_nf
def j9:ae ["_law_rows_here", "_law_found", "_law_row_here"] ["_law_rows_here"] (bj VG):=by ac_nf
def gC:ae ["_law_state", "_law_wide", "_law_names_here", "_law_room", "_law_rows_here"] ["_law_state"] (bj VA):=by ac_nf
def gF:ae ["_law_state", "_law_many", "_law_most", "_law_n", "_law_found", "_law_left", "_law_k"] ["_law_state", "_law_many", "_law_most"] (bj Vr):=by ac_nf
def w39:ae ["_law_s", "_law_is_alone"] ["_law_s", "_law_is_alone"] (bj Vq):=by ac_nf
def mX:ae ["_law_plan_here", "_law_found", "_law_move"] ["_law_plan_here"] (bj VF):=by ac_nf
def gA:ae ["_law_state", "_law_first", "_law_last", "_law_s", "_law_is_alone", "_law_fits", "_law_m", "_law_found"] ["_law_state", "_law_first", "_law_last", "_law_s", "_law_is_alone"] (bj VH):=by ac_nf
def mZ:ae ["_law_there", "_law_n", "_law_s", "_law_found", "_law_k"] ["_law_there", "_law_n", "_law_s"] (bj Vw):=by ac_nf
def w40:ae ["_law_there", "_law_move"] ["_law_there", "_law_move"] (bj Vp):=by ac_nf
def eL:ae ["_law_state", "_law_way_here", "_law_n", "_law_s", "_law_found", "_law_there", "_law_move", "_law_some", "_law_one"] ["_law_state", "_law_way_here", "_law_n", "_law_s"] (bj Vn):=by ac_nf
def gD:ae ["_law_state", "_law_n", "_law_s", "_law_is_left", "_law_calm", "_law_way_here", "_law_there", "_law_back"] ["_law_state", "_law_n", "_law_s", "_law_is_left", "_law_calm"] (bj Vz):=by ac_nf
def j_:ae ["_law_state", "_law_n", "_law_is_left", "_law_least"] ["_law_state", "_law_n"] (bj VE):=by ac_nf
def iT:ae ["_law_state", "_law_names_here", "_law_n", "_law_rows_here", "_law_plan_here"] ["_law_state"] (bj Vm):=by ac_nf
def mY:ae ["_law_state", "_law_names_here", "_law_row_here"] ["_law_state"] (bj VB):=by ac_nf
def iS:ae ["_law_state", "_law_names_here", "_law_rows_here", "_law_k", "_law_x"] ["_law_state"] (bj Vv):=by ac_nf
def cF:ae ["_law_state", "_law_form", "_law_program_here", "_law_some", "_law_cuts_here", "_law_s", "_law_is_left", "_law_plan_here"] ["_law_state"] (bj Vs):=by ac_nf
def bG:ae ["_law_script", "_law_state", "_law_program_here", "_law_some", "_law_cuts_here", "_law_s", "_law_plan_here", "_law_is_left", "_law_many", "_law_code", "_law_wanted", "_law_told", "_law_due", "_law_move", "_law_k", "_law_values", "_law_word", "_law_place", "_law_boxes", "_law_taken", "_law_again"] ["_law_script"] (bj WA):=by ac_nf
@[reducible]def bM:fy:=196
set_option genInjectivity false
structure EF(K:eM)(mg:gq->b0 fx) where
 cl:kP K bM
 m:mg "Loom" = du (.ref bM)
 ki:bO K bM "wide"
 jS:bO K bM "fresh"
 dh:bO K bM "rows"
 sU:bO K bM "steps"
@[reducible]def de:fy:=534
structure EE(K:eM)(mg:gq->b0 fx) where
 cl:kP K de
 m:mg "Ride" = du (.ref de)
 dh:bO K de "rows"
 kj:bO K de "held"
 gG:bO K de "spot"
structure Fg(K:eM)(mg:gq->b0 fx)(x:gq)(st:hC)(ps:bf gq) extends FnAt K x x st ps where
 g:mg x=du (.ref a)
structure Tx1(K:eM)(mg:gq->b0 fx) where
 p_:Fg K mg "check_code" Vc ["code"]
 mn:Fg K mg "boxes_read" Va ["row"]
 qf:Fg K mg "bits_of" UY ["row"]
 pq:Fg K mg "numbers_of" VT ["row"]
 pV:Fg K mg "is_within" Vk ["row", "size"]
 pW:Fg K mg "is_apart" Vj ["row"]
 pX:Fg K mg "has_fellow" Vh ["row", "at", "rows"]
 mh:Fg K mg "joined" Vl ["codes"]
 px:Fg K mg "moved" VS ["row", "ahead"]
 oU:Fg K mg "turned" Wo ["code"]
 oS:Fg K mg "turned_row" Wq ["row", "last"]
 my:FnAt K "__init__" "Loom.__init__" UM ["self", "wide", "fresh"]
 bL:FnAt K "fresh_box" "Loom.fresh_box" UL ["self"]
 bU:FnAt K "put" "Loom.put" UN ["self", "rows"]
 jm:FnAt K "put_by_choice" "Loom.put_by_choice" UO ["self", "chosen", "yes", "no"]
 iq:FnAt K "put_unless" "Loom.put_unless" UP ["self", "box", "number", "rows"]
 lY:Fg K mg "weave" Wt ["pieces", "boxes", "wide", "places", "fresh"]
 ie:Fg K mg "weave_rows" Ww ["rows", "where", "loom"]
 oQ:Fg K mg "weave_choose" Wu ["row", "where", "loom"]
 l_:Fg K mg "place_of" VX ["atom", "where", "loom"]
 oP:Fg K mg "weave_sign" Wx ["sign", "first", "second", "loom"]
 oX:Fg K mg "total" Wl ["first", "second", "loom"]
 pZ:Fg K mg "difference" Vf ["first", "second", "loom"]
 kG:Fg K mg "gap" UK ["first", "second", "loom"]
 mq:Fg K mg "bits_of_both" U_ ["first", "second", "loom"]
 qe:Fg K mg "bits_of_any" UZ ["first", "second", "loom"]
 qb:Fg K mg "bits_of_one" U' ["first", "second", "loom"]
 lZ:Fg K mg "sum_without_both" Wj ["first", "second", "count", "loom"]
 oZ:Fg K mg "smaller" Wd ["first", "second", "loom"]
 qg:Fg K mg "alike" UW ["first", "second", "loom"]
 oW:Fg K mg "truth" Wm ["asked", "loom"]
 pF:Fg K mg "marking" VM ["word", "stretch", "program", "source", "target", "fresh"]
 pE:Fg K mg "marking_steps" VN ["stretch", "program"]
 pe:Fg K mg "pieces" VW ["program"]
 ig:Fg K mg "unrolled" Wr ["rows"]
 oR:Fg K mg "unrolled_row" Ws ["row"]
 l0:Fg K mg "stretches" Wi ["program", "cuts"]
 ml:Fg K mg "costs" Ve ["program", "cuts"]
 mm:Fg K mg "checked" Vd ["plan", "n", "s"]
 pC:Fg K mg "may_do" VO ["move", "marks", "n", "s"]
 kC:Fg K mg "set_of" VZ ["k"]
 l9:Fg K mg "stands" Wf ["k", "marks"]
structure Tx2(K:eM)(mg:gq->b0 fx) extends Tx1 K mg where
 ma:Fg K mg "many_in" VL ["marks"]
 mw:Fg K mg "behind" UX ["move", "marks"]
 pb:Fg K mg "sets_along" V_ ["plan"]
 pB:Fg K mg "most_marks" VP ["plan"]
 oN:Fg K mg "work" Wz ["plan", "costs"]
 pG:Fg K mg "made" VJ ["program", "cuts", "s", "plan"]
 oY:Fg K mg "steps" Wg ["program", "cuts", "s", "plan"]
 o9:Fg K mg "slots_along" Wa ["plan", "many"]
 o7:Fg K mg "slots_behind" Wc ["move", "slots", "many"]
 pY:Fg K mg "free_slot" Vg ["slots", "many"]
 pz:Fg K mg "move_codes" VR ["program", "parts", "plan", "slots"]
 pA:Fg K mg "move_code" VQ ["move", "stretch", "program", "source", "target", "fresh"]
 o_:Fg K mg "shown_code" V' ["slot", "many"]
 pH:Fg K mg "left_code" VI ["slot", "many"]
 kF:FnAt K "__init__" "Ride.__init__" EV ["self", "code", "boxes", "place"]
 jj:FnAt K "place" "Ride.place" UU ["self"]
 jl:FnAt K "boxes" "Ride.boxes" UR ["self"]
 jk:FnAt K "forth" "Ride.forth" US ["self"]
 gn:FnAt K "at_end" "Ride.at_end" UQ ["self"]
 gm:FnAt K "may_forth" "Ride.may_forth" UT ["self"]
 mj:Fg K mg "holds" Vi ["row", "held"]
 qa:Fg K mg "change" Vb ["row", "held", "way"]
 pj:Fg K mg "operand_value" VU ["operand", "held"]
 oV:Fg K mg "turn_bit" Wn ["row", "held"]
 pd:Fg K mg "run_forth" VY ["code", "boxes", "most"]
 oO:Fg K mg "word_of" Wy ["there", "there_word", "may_go_on"]
 cV:Fg K mg "_law_draw" Vt ["_law_state", "_law_many"]
 ji:Fg K mg "_law_names" Vx ["_law_state", "_law_many"]
 me:Fg K mg "_law_number" Vy ["_law_state", "_law_wide"]
 pS:Fg K mg "_law_atom" Vo ["_law_state", "_law_names_here", "_law_wide"]
 ip:Fg K mg "_law_heavy" Vu ["_law_rows_here"]
 pJ:Fg K mg "_law_row" VC ["_law_state", "_law_names_here", "_law_wide", "_law_deep", "_law_room", "_law_spare"]
 il:Fg K mg "_law_rows" VD ["_law_state", "_law_names_here", "_law_wide", "_law_deep", "_law_room", "_law_spare"]
 gj:Fg K mg "_law_unrolled" VG ["_law_rows_here"]
 pL:Fg K mg "_law_program" VA ["_law_state"]
 pQ:Fg K mg "_law_cuts" Vr ["_law_state", "_law_many", "_law_most"]
 mf:Fg K mg "_law_cap" Vq ["_law_s", "_law_is_alone"]
 kE:Fg K mg "_law_turned" VF ["_law_plan_here"]
 ij:Fg K mg "_law_way" VH ["_law_state", "_law_first", "_law_last", "_law_s", "_law_is_alone"]
 pN:Fg K mg "_law_moves" Vw ["_law_there", "_law_n", "_law_s"]
 pR:Fg K mg "_law_behind_move" Vp ["_law_there", "_law_move"]
 pT:Fg K mg "_law_aside" Vn ["_law_state", "_law_way_here", "_law_n", "_law_s"]
structure n'(K:eM)(mg:gq->b0 fx) extends Tx2 K mg where
 pM:Fg K mg "_law_plan" Vz ["_law_state", "_law_n", "_law_s", "_law_is_left", "_law_calm"]
 pI:Fg K mg "_law_size" VE ["_law_state", "_law_n"]
 pU:Fg K mg "_law_all_at_once" Vm ["_law_state"]
 pK:Fg K mg "_law_round" VB ["_law_state"]
 pO:Fg K mg "_law_long" Vv ["_law_state"]
 pP:Fg K mg "_law_done" Vs ["_law_state"]
 ic:Fg K mg "law" WA ["_law_script"]
 au:EF K mg
 aJ:EE K mg
 nk:Mk K bM my.a
 eZ:Meth K bM "fresh_box" bL.a
 h9:Meth K bM "put" bU.a
 Kt:Meth K bM "put_by_choice" jm.a
 Bj:Meth K bM "put_unless" iq.a
 nj:Mk K de kF.a
 LN:∃t,Binds K kF.fd ["self", "code", "boxes", "place"] [.int 0 t]
 Kq:Meth K de "place" jj.a
 Ks:Meth K de "boxes" jl.a
 Kr:Meth K de "forth" jk.a
 Bi:Meth K de "at_end" gn.a
 Bh:Meth K de "may_forth" gm.a
 iV:∃t,mg "NUMBERS" = du (.int 4294967296 t)
 Du:∃t,mg "BITS" = du (.int 32 t)
 bZ:∃t,mg "BELOW_NOUGHT" = du (.int 31 t)
 wF:mg "abs" = dv
 qm:mg "all" = dv
 sA:mg "bool" = dv
 gN:mg "dict" = dv
 kK:mg "divmod" = dv
 cK:mg "enumerate" = dv
 fL:mg "int" = dv
 bQ:mg "isinstance" = dv
 aY:mg "len" = dv
 di:mg "list" = dv
 ql:mg "max" = dv
 qk:mg "min" = dv
 bw:mg "range" = dv
 gM:mg "reversed" = dv
 iB:mg "sorted" = dv
 wD:mg "str" = dv
 tj:mg "sum" = dv
 cj:mg "tuple" = dv
 wC:mg "zip" = dv
end Law
namespace Law
open PySem L2 L3 Rw
section
variable{P:hH}{w:hL}{K:eM}{mg:gq->b0 fx}{base:hR}(T:n' K mg)
def qI:fS:=spec (λf G=>∃(st:fy) (m:bz),f=[.ref st,.int m]/\b9 G st/\0<m/\m<1073741824)
 (λf G d g=>∃(st:fy) (m v:bz),f=[.ref st,.int m]/\cJ st G g/\d=.int v/\0<=v/\v<m)
variable(ds:bf D)(G:Gp)(R:DK)
inductive tP:Prop
 | mk (row:k') (a x:br) (bs:bf bz) (n:bz) (k:br) (_:ds=[row.d,.ref a]) (_:(row=.go x n k\/row=.aL x n k)) (_:G a=du (.lst (bs.t .int))) (_:x<bs.l) (_:R (.bl (decide (gt bs x=n))) G):tP
inductive wW:Prop
 | mk (o:kZ) (a:br) (bs:bf bz) (_:ds=[o.d,.ref a]) (_:G a=du (.lst (bs.t .int))) (_:(∀y,o=.box y->y<bs.l)) (_:R (.int (val bs o)) G):wW
inductive wL:Prop
 | mk (x i:br) (cs:bf (br×br)) (a sz:br) (bs:bf bz) (_:ds=[(k'.turn x i cs).d,.ref a]) (_:(k'.turn x i cs).ok sz) (_:cZ sz bs) (_:G a=du (.lst (bs.t .int))) (_:∀f,Af a (da 1 bs (.turn x i cs)) G f->R .non f):wL
inductive mC:Prop
 | mk (row:k') (a sz:br) (s:bz) (bs:bf bz) (_:ds=[row.d,.ref a,.int s]) (_:(s=1\/s=-1)) (_:row.ok sz) (_:cZ sz bs) (_:G a=du (.lst (bs.t .int))) (_:∀f,Af a (da s bs row) G f->R .non f):mC
inductive qA:Prop
 | mk (p f g:fy) (rs:bf k') (bs:bf bz) (s:br) (_:ds=[.ref p]) (_:bT de G p f g rs bs s) (_:R (.bl (decide (s=rs.l))) G):qA
inductive tU:Prop
 | mk (p f g:fy) (rs:bf k') (bs:bf bz) (s:br) (_:ds=[.ref p]) (_:bT de G p f g rs bs s) (_:R (.int (s:bz)) G):tU
inductive tW:Prop
 | mk (p f g:fy) (rs:bf k') (bs:bf bz) (s:br) (_:ds=[.ref p]) (_:bT de G p f g rs bs s) (_:∀q,G q=dv->R (.ref q) (aC G q (.lst (bs.t .int)))):tW
inductive qz:Prop
 | mk (p f g:fy) (rs:bf k') (bs:bf bz) (s sz:br) (_:ds=[.ref p]) (_:bT de G p f g rs bs s) (_:kQ sz rs bs s) (_:R (.bl (bD rs bs s)) G):qz
inductive xC:Prop
 | mk (p h g:fy) (rs:bf k') (bs:bf bz) (s sz:br) (_:ds=[.ref p]) (_:bT de G p h g rs bs s) (_:kQ sz rs bs s) (_:∀f,(bD rs bs s=eH->f=G)->(bD rs bs s=dS->bT de f p h g rs (cf rs bs s).2 (cf rs bs s).1/\∀b,b≠p->b≠g->f b=G b)->R (.bl (bD rs bs s)) f):xC
inductive tV:Prop
 | mk (p:fy) (j:D) (i bx:fy) (rs:bf k') (bs:bf bz) (s:br) (_:ds=[.ref p,.tup [j,.ref i],.ref bx,.int (s:bz)]) (_:G p=du (.ins de [])) (_:G i=du (.lst (rs.t k'.d))) (_:G bx=du (.lst (bs.t .int))) (_:∀g h f,G g=dv->G h=dv->bT de f p g h rs bs s->(∀b o,b≠p->G b=du o->f b=du o)->R .non f):tV
def dy{G:Gp}{st:fy}{m:bz}{q:DK}(h:b9 G st)(j:0<m)(h1:m<1073741824)(k:∀(v:bz) (f:Gp),cJ st G f->0<=v->v<m->q (.int v) f): ∃R,qI [.ref st,.int m] G R/\∀d f,R d f->q d f:=vd6 ⟨st,m,rfl,h,j,h1⟩ λd f ⟨n,l,v,e,a,ed,i,g⟩=>by cases e;subst ed;exact k v f a i g
def xi9{G:Gp}{p t bx:fy}{rs:bf k'}{bs:bf bz}{s:br}{x:D}{q:Gp->ck}(u:G p=dv)(y:G t=du (.lst (rs.t k'.d)))(A:G bx=du (.lst (bs.t .int))) (k:∀g i f,G g=dv->G i=dv->bT de f p g i rs bs s->aj G f->q f):∃R,tV [.ref p,.tup [x,.ref t],.ref bx,.int (s:bz)] (aC G p (.ins de [])) R/\∀d f,R d f->d=.non/\q f:=by
 let j:aj G (aC G p (.ins de [])):=aj.j.S u;exact lh (k0:=λd f=>d=.non/\∃g i,G g=dv/\G i=dv/\bT de f p g i rs bs s/\aj G f)
   (λR h=>#[p,x,t,bx,rs,bs,s,rfl,ay,j.kp _ _ y,j.kp _ _ A,λg i f r n m l=>h _ _ #[rfl,g,i,j.none r,j.none n,m,#[λb o e=>l b o (aT e u) (j.kp _ _ e)]]]) λd f ⟨e,g,i,r,n,m,l⟩=>#[e,k g i f r n m l]
inductive qy:Prop
 | mk (row:k') (sz:br) (_:ds=[row.d]) (_:row.ok sz) (_:∀q f,G q=dv->f q=du (.lst ((rb row).t .int))->aj G f->R (.ref q) f):qy
inductive tS:Prop
 | mk (row:k') (sz:br) (_:ds=[row.d]) (_:row.ok sz) (_:∀q f,G q=dv->f q=du (.lst ((kh row).t .int))->aj G f->R (.ref q) f):tS
inductive tI:Prop
 | mk (row:k') (sz:br) (_:ds=[row.d]) (_:row.ok sz) (_:∀q f,G q=dv->f q=du (.lst ((hV row).t .int))->aj G f->R (.ref q) f):tI
inductive xv:Prop
 | mk (row:k') (sz:br) (_:ds=[row.d,.int (sz:bz)]) (_:row.ok sz) (_:∀f,aj G f->R (.bl dS) f):xv
inductive xw:Prop
 | mk (row:k') (sz:br) (_:ds=[row.d]) (_:row.ok sz) (_:∀f,aj G f->R (.bl dS) f):xw
inductive xx:Prop
 | mk (row:k') (g:br) (f:fy) (rs:bf k') (_:ds=[row.d,.int (g:bz),.ref f]) (_:G f=du (.lst (rs.t k'.d))) (_:Pairs rs) (_:rs[g]?=du row) (_:R (.bl dS) G):xx
inductive xB:Prop
 | mk (f:fy) (rs:bf k') (sz:br) (_:ds=[.tup [.int (sz:bz),.ref f]]) (_:G f=du (.lst (rs.t k'.d))) (_:(∀r∈rs,r.ok sz)) (_:Pairs rs) (_:∀g,aj G g->R .non g):xB
inductive jX(a b c d:Prop):Prop
 | mk:a->b->c->d->jX a b c d
inductive Ta(a b c d e:Prop):Prop
 | mk:a->b->c->d->e->Ta a b c d e
inductive yL(a b c d e f:Prop):Prop
 | mk:a->b->c->d->e->f->yL a b c d e f
inductive S_(a b c d e f g:Prop):Prop
 | mk:a->b->c->d->e->f->g->S_ a b c d e f g
inductive OV(a b c d e f g h:Prop):Prop
 | mk:a->b->c->d->e->f->g->h->OV a b c d e f g h
inductive BZ(a b c d e f g h i:Prop):Prop
 | mk:a->b->c->d->e->f->g->h->i->BZ a b c d e f g h i
inductive OZ(a b c d e f g h i j:Prop):Prop
 | mk:a->b->c->d->e->f->g->h->i->j->OZ a b c d e f g h i j
inductive OY(a b c d e f g h i j k l m:Prop):Prop
 | mk:a->b->c->d->e->f->g->h->i->j->k->l->m->OY a b c d e f g h i j k l m
inductive OX(a b c d e f g h i j k l m n o:Prop):Prop
 | mk:a->b->c->d->e->f->g->h->i->j->k->l->m->n->o->OX a b c d e f g h i j k l m n o
inductive OW(a b c d e f g h i j k l m n o p q:Prop):Prop
 | mk:a->b->c->d->e->f->g->h->i->j->k->l->m->n->o->p->q->OW a b c d e f g h i j k l m n o p q
inductive B'{a b:Type}(p:a->b->Prop):Prop
 | mk (A B) (_:p A B):B' p
inductive kY{a b c:Type}(p:a->b->c->Prop):Prop
 | mk (A B C) (_:p A B C):kY p
inductive uG{a b c d:Type}(p:a->b->c->d->Prop):Prop
 | mk (A B C D) (_:p A B C D):uG p
inductive Ey{a b c d e:Type}(p:a->b->c->d->e->Prop):Prop
 | mk (A B C D E) (_:p A B C D E):Ey p
inductive Xi7{a b c d e f g:Type}(p:a->b->c->d->e->f->g->Prop):Prop
 | mk (A B C D E F G) (_:p A B C D E F G):Xi7 p
inductive Sh{a b c d e f g h:Type}(p:a->b->c->d->e->f->g->h->Prop):Prop
 | mk (A B C D E F G H) (_:p A B C D E F G H):Sh p
inductive LY{a b c d e f g h i j k l m n o p:Type}(p:a->b->c->d->e->f->g->h->i->j->k->l->m->n->o->p->Prop):Prop
 | mk (A B C D E F G H I J K L M N O P) (_:p A B C D E F G H I J K L M N O P):LY p
def bV{S:fS}{ds:bf D}{G:Gp}{q:DK}(h:S ds G q):∃R,S ds G R/\∀d f,R d f->q d f:=⟨q,h,λ_ _ z=>z⟩
inductive tD:Prop
 | mk (a c:cg) (w:gq) (_:ds=[.bl a,.str w,.bl c]) (_:R (.str (if a=dS then w else if c=dS then "tired" else "torn")) G):tD
inductive wU:Prop
 | mk (h:D) (g bx:fy) (rs:bf k') (bs:bf bz) (most sz:br) (_:ds=[.tup [h,.ref g],.ref bx,.int (most:bz)]) (_:G g=du (.lst (rs.t k'.d))) (_:G bx=du (.lst (bs.t .int))) (_:kQ sz rs bs 0) (_:Pairs rs) (_:∀q f,G q=dv->f q=du (.lst ((rn dS rs most 0 bs).2.2.t .int))->aj G f->R (outD dS rs (rn dS rs most 0 bs) q) f):wU
inductive xE:Prop
 | mk (p:fy) (W fr:br) (_:ds=[.ref p,.int (W:bz),.int (fr:bz)]) (_:G p=du (.ins bM [])) (_:∀rp f,G rp=dv->av bM f p rp W fr [] 0->(∀b o,b≠p->G b=du o->f b=du o)->R .non f):xE
inductive eF:Prop
 | mk (p rp:fy) (W fr:br) (rows:bf k') (st:br) (_:ds=[.ref p]) (_:av bM G p rp W fr rows st) (_:∀f,av bM f p rp W (fr+1) rows st->cP p rp G f->R (.int (fr:bz)) f):eF
inductive eE:Prop
 | mk (p rp q:fy) (W fr:br) (rows new:bf k') (st:br) (_:ds=[.ref p,.ref q]) (_:av bM G p rp W fr rows st) (_:G q=du (.lst (new.t k'.d))) (_:q≠rp) (_:rows.l<=9000) (_:new.l<=1000) (_:∀f,av bM f p rp W fr (rows++new) (st+new.l)->cP p rp G f->R .non f):eE
inductive fc(g:br)(xs:br->br->bf D)(bx:br->br)(fn:br->br)(nw:br->br->br->br->bf k')(ds:bf D)(G:Gp)(R:DK):Prop
 | mk (p rp:fy) (W fr x y:br) (rows:bf k') (st:br) (_:ds=xs x y++[.ref p]) (_:av bM G p rp W fr rows st) (_:W<=16) (_:rows.l+2*g<=4100) (_:∀f,av bM f p rp W (fn fr) (rows++nw W x y fr) (st+(nw W x y fr).l)->cP p rp G f->R (.int (bx fr:bz)) f):fc g xs bx fn nw ds G R
def xy(x y:br):bf D:=[.int (x:bz),.int (y:bz)]
def xk0:fS:=fc 20 xy (λf=>f) (λf=>f+2) λW x y f=>gR W x y f "+"
def xk5:fS:=fc 20 xy (λf=>f) (λf=>f+2) λW x y f=>gR W x y f "-"
def Py:fS:=fc 0 xy (λf=>f) (λf=>f+1) λ_ x y f=>[.add f (.box x),.take f (.box y)]
def Us:fS:=fc 0 xy (λf=>f) (λf=>f+1) λW x y f=>c9 f x y W
def xk7:fS:=fc 20 xy (λf=>f+1) (λf=>f+2) λW x y f=>gR W x y f "|"
def xk6:fS:=fc 20 xy (λf=>f+1) (λf=>f+2) λW x y f=>gR W x y f "^"
inductive tF:Prop
 | mk (n:br) (_:n<=2) (_:fc 19 (λx y=>[.int (x:bz),.int (y:bz),.int (n:bz)]) (λfr=>fr+1) (λfr=>fr+2) (λW x y fr=>c9 fr x y W++([.add (fr+1) (.box x),.add (fr+1) (.box y)]++C7 n (.take (fr+1) (.box fr)))) ds G R):tF
def xk1:fS:=fc 20 xy (λf=>f+1) (λf=>f+2) λW x y f=>gR W x y f "<"
def xk8:fS:=fc 20 xy (λf=>f+2) (λf=>f+3) λW x y f=>gR W x y f "="
inductive wI:Prop
 | mk (o:gq) (_:o∈L3.signs) (_:fc 21 (λx y=>[.str o,.int (x:bz),.int (y:bz)]) (λfr=>Dd fr o) (λfr=>oo fr o) (λW x y fr=>gR W x y fr o) ds G R):wI
inductive qw:Prop
 | mk (p rp g:fy) (W fr:br) (rows:bf k') (st:br) (bs:bf gq) (pl:bf br) (a:jt) (_:ds=[aD a,.ref g,.ref p]) (_:av bM G p rp W fr rows st) (_:G g=du (.bR (bN bs pl))) (_:pl.l=bs.l) (_:lq W bs a) (_:rows.l<=4100) (_:∀f,av bM f p rp W (bq fr a) (rows++dQ fr a) (st+(dQ fr a).l)->cP p rp G f->R (.int (fO bs pl fr a:bz)) f):qw
inductive tX:Prop
 | mk (p rp q:fy) (W fr x:br) (n:bz) (rows new:bf k') (st:br) (_:ds=[.ref p,.int (x:bz),.int n,.ref q]) (_:av bM G p rp W fr rows st) (_:G q=du (.lst (new.t k'.d))) (_:q≠rp) (_:rows.l<=9000) (_:new.l<=1000) (_:∀f,av bM f p rp W fr (rows++(.go x n (rows.l+new.l+1)::(new++[.aL x n rows.l]))) st->cP p rp G f->R .non f):tX
inductive xD:Prop
 | mk (p rp g f:fy) (W fr ch:br) (rows ys ns:bf k') (st:br) (_:ds=[.ref p,.int (ch:bz),.ref g,.ref f]) (_:av bM G p rp W fr rows st) (_:G g=du (.lst (ys.t k'.d))) (_:G f=du (.lst (ns.t k'.d))) (_:g≠rp) (_:f≠rp) (_:rows.l<=4100) (_:ys.l<=10) (_:ns.l<=10) (_:∀h,av bM h p rp W fr (rows++uF rows.l ch ys ns) (st+(ys.l+3))->cP p rp G h->R .non h):xD
inductive wM:Prop
 | mk (p rp:fy) (W fr x:br) (rows:bf k') (st:br) (_:ds=[.int (x:bz),.ref p]) (_:av bM G p rp W fr rows st) (_:rows.l<=4100) (_:∀f,av bM f p rp W (fr+2) (rows++[.take fr (.box x),.turn (fr+1) 0 [(fr,31)]]) (st+2)->cP p rp G f->R (.int ((fr+1:br):bz)) f):wM
inductive fT(dp:br)(ds:bf D)(G:Gp)(R:DK):Prop
 | mk (d:D) (p rp f:fy) (W fr:br) (bs:bf gq) (pl:bf br) (rows:bf k') (st:br) (rs:bf ai) (_:ds=[d,.ref f,.ref p]) (_:av bM G p rp W fr rows st) (_:G f=du (.bR (bN bs pl))) (_:uW G d=du (bc rs)) (_:d≠.ref rp) (_:pl.l=bs.l) (_:bs.l<=6) (_:bs.Nodup) (_:dF W bs rs) (_:gf rs) (_:aW rs<dp) (_:rows.l+22*cC rs<=3960) (_:W<=16) (_:∀g,av bM g p rp W (bB W bs rs rows.l pl fr).2.2.1 (rows++(bB W bs rs rows.l pl fr).1) (st+(bB W bs rs rows.l pl fr).2.2.2)->g f=du (.bR (bN bs (bB W bs rs rows.l pl fr).2.1))->(∀b o,b≠p->b≠rp->b≠f->G b=du o->g b=du o)->R .non g):fT dp ds G R
def xj8:fS:=fT 8
def xk9{n:br}:n<*T.ie.1<*fT 0:=Fj (by intro ds G R #[_,_,_,_,_,_,_,_,_,_,_,_,_,_,_,_,_,_,_,_,_,h,_];omega)
inductive nK(dp:br)(ds:bf D)(G:Gp)(R:DK):Prop
 | mk (p rp f:fy) (W fr:br) (bs:bf gq) (pl:bf br) (rows:bf k') (st:br) (c:jt) (ys ns:bf ai) (_:ds=[df (.e_ c ys ns),.ref f,.ref p]) (_:av bM G p rp W fr rows st) (_:G f=du (.bR (bN bs pl))) (_:pl.l=bs.l) (_:bs.l<=6) (_:bs.Nodup) (_:ou W bs (.e_ c ys ns)) (_:yq (.e_ c ys ns)) (_:aW ys<dp) (_:aW ns<dp) (_:rows.l+22*qY (.e_ c ys ns)<=3960) (_:W<=16) (_:∀g,av bM g p rp W (cQ W bs (.e_ c ys ns) rows.l pl fr).2.2.1 (rows++(cQ W bs (.e_ c ys ns) rows.l pl fr).1) (st+(cQ W bs (.e_ c ys ns) rows.l pl fr).2.2.2)->g f=du (.bR (bN bs (cQ W bs (.e_ c ys ns) rows.l pl fr).2.1))->(∀b o,b≠p->b≠rp->b≠f->G b=du o->g b=du o)->R .non g):nK dp ds G R
inductive tE:Prop
 | mk (pc i:fy) (W fr:br) (bs:bf gq) (pl:bf br) (rs:bf ai) (_:ds=[.ref pc,.tup (bs.t .str),.int (W:bz),.ref i,.int (fr:bz)]) (_:G pc=du (.lst (bc rs))) (_:G i=du (.lst (pl.t nD))) (_:pl.l=bs.l) (_:bs.l<=6) (_:bs.Nodup) (_:dF W bs rs) (_:gf rs) (_:aW rs<=6) (_:22*cC rs<=3960) (_:W<=16) (_:∀(g f:fy) (h:Gp),G g=dv->G f=dv->g≠f->h g=du (.lst ((bB W bs rs 0 pl fr).1.t k'.d))->h f=du (.lst ((bB W bs rs 0 pl fr).2.1.t nD))->aj G h->R (.tup [.ref g,.ref f,.int ((bB W bs rs 0 pl fr).2.2.1:bz),.int ((bB W bs rs 0 pl fr).2.2.2:bz)]) h):tE
inductive mB:Prop
 | mk (st:fy) (m:br) (_:ds=[.ref st,.int (m:bz)]) (_:b9 G st) (_:1<=m) (_:m<=6) (_:∀(bs:bf gq) (f:Gp),bs.l=m->(∀b∈bs,b.l<=20)->bs.Nodup->cJ st G f->R (.tup (bs.t .str)) f):mB
inductive tM:Prop
 | mk (st:fy) (W:br) (_:ds=[.ref st,.int (W:bz)]) (_:b9 G st) (_:W<=16) (_:∀(i:br) (f:Gp),i<2^W->cJ st G f->R (.int (i:bz)) f):tM
inductive tN:Prop
 | mk (st:fy) (W:br) (bs:bf gq) (_:ds=[.ref st,.tup (bs.t .str),.int (W:bz)]) (_:b9 G st) (_:W<=16) (_:1<=bs.l) (_:bs.l<=6) (_:∀(a:jt) (f:Gp),lq W bs a->cJ st G f->R (aD a) f):tN
def uR{G:Gp}{p rp:fy}{W fr st:br}{rows:bf k'}{q:DK}(h:av bM G p rp W fr rows st)(k:∀f,av bM f p rp W (fr+1) rows st->cP p rp G f->q (.int (fr:bz)) f):∃R,eF [.ref p] G R/\∀d f,R d f->q d f:=bV ⟨p,rp,W,fr,rows,st,rfl,h,k⟩
def xr7{G:Gp}{p rp g:fy}{W fr st:br}{rows new:bf k'}{q:DK}(h:av bM G p rp W fr rows st)(i:G g=du (.lst (new.t k'.d)))(j:g≠rp)(h1:rows.l<=9000)(l:new.l<=1000)(k:∀f,av bM f p rp W fr (rows++new) (st+new.l)->cP p rp G f->q .non f):∃R,eE [.ref p,.ref g] G R/\∀d f,R d f->q d f:=bV ⟨p,rp,g,W,fr,rows,new,st,rfl,h,i,j,h1,l,k⟩
def vt{g:br}{xs:br->br->bf D}{bx fn:br->br}{nw:br->br->br->br->bf k'}{G:Gp}{p rp:fy}{W fr x y st:br}{rows:bf k'}{q:DK}(h:av bM G p rp W fr rows st)(i:W<=16)(h1:rows.l+2*g<=4100)(k:∀f,av bM f p rp W (fn fr) (rows++nw W x y fr) (st+(nw W x y fr).l)->cP p rp G f->q (.int (bx fr:bz)) f):∃R,fc g xs bx fn nw (xs x y++[.ref p]) G R/\∀d f,R d f->q d f:=bV ⟨p,rp,W,fr,x,y,rows,st,rfl,h,i,h1,k⟩
def Qs{G:Gp}{p rp g:fy}{W fr st:br}{rows:bf k'}{bs:bf gq}{pl:bf br}{a:jt}{q:DK}(h:av bM G p rp W fr rows st)(hw:G g=du (.bR (bN bs pl)))(i:pl.l=bs.l)(j:lq W bs a)(h1:rows.l<=4100)(k:∀f,av bM f p rp W (bq fr a) (rows++dQ fr a) (st+(dQ fr a).l)->cP p rp G f->q (.int (fO bs pl fr a:bz)) f):∃R,qw [aD a,.ref g,.ref p] G R/\∀d f,R d f->q d f:=bV ⟨p,rp,g,W,fr,rows,st,bs,pl,a,rfl,h,hw,i,j,h1,k⟩
def w87{G:Gp}{st:fy}{W:br}{bs:bf gq}{q:DK}(g:b9 G st)(h:W<=16)(h1:1<=bs.l)(i:bs.l<=6)(k:∀(a:jt) f,lq W bs a->cJ st G f->q (aD a) f):∃R,tN [.ref st,.tup (bs.t .str),.int (W:bz)] G R/\∀d f,R d f->q d f:=bV ⟨st,W,bs,rfl,g,h,h1,i,k⟩
def y0{G:Gp}{p rp g:fy}{W fr st:br}{rows new:bf k'}{q:DK}(A:av bM G p rp W fr rows st)(h:G g=dv)(h1:rows.l<=9000)(i:new.l<=1000)(k:∀f,av bM f p rp W fr (rows++new) (st+new.l)->cP p rp G f->q .non f):∃R,eE [.ref p,.ref g] (aC G g (.lst (new.t k'.d))) R/\∀d f,R d f->q d f:=xr7 (A.S h) ay (E1 (aT A.ro h)) h1 i λf l j=>k f l ((cP.j.S h).u j)
theorem uv0:∀{l m:bf gq},l.Nodup->(∀x∈l,x∈m)->l.l<=m.l
 | [],m,_,_=>J8 _| x::l,m,j,h=>by let#[n,k]:=M5.mp j;let g:=h x D0;let i:=uv0 (l:=l) (m:=m.erase x) k λy f=>(Ku (λe=>n (by rw[<- e];exact f))).mpr (h y (C2 _ f));rw[HL g] at i;let:0<m.l:=TM g;rw[C0];omega
def kJ(b:gq)(i:br):gq:=b++C5 "z" ++ #[[97+i].e]
def vz5{b:gq}{i j:br}(h:kJ b i=kJ b j):i=j:=by
 let e:=cv (λx:gq=>x.cps.L) h;let c:∀k,(kJ b k).cps.L=b.cps.L++[122,97+k]:=λk=>by show((b.cps++(C5 "z").cps)++[97+k].e).L=_;rw[Dn,Dn,D5];rfl
 let e:(kJ b i).cps.L=(kJ b j).cps.L:=e;rw[c,c] at e;let:=List.append_cancel_left e;simp at this;exact this
def vo8{b g:gq}{f:bf gq}(n:f.l<26)(h:g∉f\/∀i,i<26->kJ b i∈f):g∉f:=by
 rcases h with h|h
 .exact h
 .exfalso;let k:((D3 26).t (kJ b)).Nodup:=Po.mpr (List.nodup_range.imp λl e=>l (vz5 e));let:=uv0 (m:=f) k λx j=>by let#[i,hi,rfl]:=D6.mp j;exact h i (K0.mp hi)
  rw[B0,F0] at this;omega
def xf5{f:bf gq}(h:∀w∈f,w.l=1):(f.t SF).sum=f.l:=by
 induction f with
 | nil=>rfl| cons w f g=>rw[C1,N8,C0,h w D0,g λx i=>h x (C2 _ i)];omega
def dn:bf gq:=[C5 "box",C5 "num",C5 "is",C5 "op",C5 "go",C5 "add",C5 "take",C5 "turn",C5 "swap",C5 "come",C5 "lay",C5 "show"]
def vr8:((D3 12).all λf=>(D3 7).all λm=>decide (((D3 m).t λk=>dn.E ((f+5*k)%12) (C5 "")).Nodup)&&((D3 m).t λk=>dn.E ((f+5*k)%12) (C5 "")).all λw=>decide (w.l<=20))=dS:=∅
def KQ:∀l:bf gq,strsOf (l.t D.str)=du l:=by
 intro l;induction l with
 | nil=>rfl| cons w l f=>show(strsOf (l.t D.str)).t (w::·)=_;rw[f];rfl
def w88{x:bz}(h1:0<=x)(g:x<26):cS (C5 "abcdefghijklmnopqrstuvwxyz").cps.L x=du (97+x.i):=by
 let#[n,rfl]:=Eb h1;let f:n<26:=()
 let key:∀n:Fin 26,(C5 "abcdefghijklmnopqrstuvwxyz").cps.L[n.val]?=du (97+n.val):=∅;let e:=vp6 (xs:=(C5 "abcdefghijklmnopqrstuvwxyz").cps.L) (i:=(n:bz)) h1 (by exact g);rw[e,<- B6];exact key #[n,f]
def w80{d:D}{xs:bf D}{G:Gp}{f:d9}{i:br}{g:qO}{tb:fR}{E:jr}(j:uW G d=du xs)(n:f[i]?=du (du d))(k:∀ok:Gp->ck,(∀l,uW l d=du xs->ok l)->forL ok g tb E xs f G):wA (yW (fK i)) g tb E f G:=by
 unfold wA yW fK;rw[n];cases d with
 | tup ds =>
  let e:ds=xs:=by simpa[uW] using j
  subst e;exact k _ λ_ _=>trivial
 | ref a =>let m:bt (G a)=du xs:=j;dsimp only;rw[m];exact k _ λl h=>h| _=>exact cz j (by simp[uW])
def v27{W:br}{bs:bf gq}{q:ai}{l:bf ai}{a:br}{pl:bf br}{fr:br}:bB W bs (q::l) a pl fr=((cQ W bs q a pl fr).1++(bB W bs l (a+(cQ W bs q a pl fr).1.l) (cQ W bs q a pl fr).2.1 (cQ W bs q a pl fr).2.2.1).1,(bB W bs l (a+(cQ W bs q a pl fr).1.l) (cQ W bs q a pl fr).2.1 (cQ W bs q a pl fr).2.2.1).2.1,(bB W bs l (a+(cQ W bs q a pl fr).1.l) (cQ W bs q a pl fr).2.1 (cQ W bs q a pl fr).2.2.1).2.2.1,(cQ W bs q a pl fr).2.2.2+(bB W bs l (a+(cQ W bs q a pl fr).1.l) (cQ W bs q a pl fr).2.1 (cQ W bs q a pl fr).2.2.1).2.2.2):=rfl
theorem v25{W:br}{bs:bf gq}:∀(l:bf ai) {r:ai} {a:br} {pl:bf br} {fr:br},bB W bs (l++[r]) a pl fr=((bB W bs l a pl fr).1++(cQ W bs r (a+(bB W bs l a pl fr).1.l) (bB W bs l a pl fr).2.1 (bB W bs l a pl fr).2.2.1).1,(cQ W bs r (a+(bB W bs l a pl fr).1.l) (bB W bs l a pl fr).2.1 (bB W bs l a pl fr).2.2.1).2.1,(cQ W bs r (a+(bB W bs l a pl fr).1.l) (bB W bs l a pl fr).2.1 (bB W bs l a pl fr).2.2.1).2.2.1,(bB W bs l a pl fr).2.2.2+(cQ W bs r (a+(bB W bs l a pl fr).1.l) (bB W bs l a pl fr).2.1 (bB W bs l a pl fr).2.2.1).2.2.2)
 | [],r,a,pl,fr=>by
  show((cQ W bs r a pl fr).1++[],(cQ W bs r a pl fr).2.1,(cQ W bs r a pl fr).2.2.1,(cQ W bs r a pl fr).2.2.2+0)=([]++(cQ W bs r (a+0) pl fr).1,(cQ W bs r (a+0) pl fr).2.1,(cQ W bs r (a+0) pl fr).2.2.1,0+(cQ W bs r (a+0) pl fr).2.2.2)
  rw[D7,J6,O_,O_,L6]
 | q::l,r,a,pl,fr=>by rw[K3,v27,v27,v25 l];simp only[B4,D5,K6]
def jI:bf gq->bf br->bf br->bf gq
 | b::h,p::g,q::f=>if p=q then jI h g f else b::jI h g f| _,_,_=>[]
def ny(bs:bf gq):bf gq->br->bf br->bf br
 | [],_,g=>g| n::h,f,g=>ny bs h (f+1) (fh bs g n f)
theorem Hw:∀{bs:bf gq} {ps qs:bf br} {x:gq},x∈jI bs ps qs->x∈bs
 | [],ps,qs,x,h=>by cases ps <;> cases qs <;> cases h
 | b::bs,[],qs,x,h=>by cases qs <;> cases h
 | b::bs,p::ps,[],x,h=>by cases h
 | b::bs,p::ps,q::qs,x,h=>by
  unfold jI at h;split at h
  .exact C2 _ (Hw h)
  .rcases D9.mp h with e|h
   .rw[e];exact D0
   .exact C2 _ (Hw h)
def vt0{b n:gq}{bs:bf gq}{p f:br}{pl:bf br}(h:b≠n):fh (b::bs) (p::pl) n f=p::fh bs pl n f:=by unfold fh;rw[iW,cp h,Q0];rfl
def yk{b n:gq}{bs:bf gq}{p:br}{pl:bf br}(h:b≠n):mE (b::bs) (p::pl) n=mE bs pl n:=by unfold mE;rw[iW,cp h,Q0];rfl
def CM{b:gq}{bs:bf gq}{p:br}{pl:bf br}:mE (b::bs) (p::pl) b=p:=by unfold mE;rw[iW,cu rfl];rfl
theorem XU{b:gq}{bs:bf gq}:∀{ns:bf gq} {p f:br} {pl:bf br},b∉ns->ny (b::bs) ns f (p::pl)=p::ny bs ns f pl
 | [],_,_,_,_=>rfl| n::ns,p,f,pl,h=>by let g:b≠n:=λe=>h (by rw[e];exact D0);show ny (b::bs) ns (f+1) (fh (b::bs) (p::pl) n f)=p::ny bs ns (f+1) (fh bs pl n f);rw[vt0 g,XU λe=>h (C2 _ e)]
theorem Xv:∀{bs:bf gq} {ps qs:bf br} {f:br},bs.Nodup->ps.l=bs.l->qs.l=bs.l->ny bs (jI bs ps qs) f ps=gU f ps qs
 | [],ps,qs,f,_,g,h=>by let m:ps=[]:=E6 g;subst m;cases qs <;> rfl
 | b::bs,[],qs,f,_,g,_=>by cases g
 | b::bs,p::ps,[],f,_,_,h=>by cases h
 | b::bs,p::ps,q::qs,f,l,g,h=>by
  let#[k,j]:=M5.mp l;let g:ps.l=bs.l:=Q2 g;let h:qs.l=bs.l:=Q2 h;let i:b∉jI bs ps qs:=λe=>k (Hw e);unfold jI gU;split
  .rw[XU i,Xv j g h]
  .show ny (b::bs) (jI bs ps qs) (f+1) (fh (b::bs) (p::ps) b f)=_;let e:fh (b::bs) (p::ps) b f=f::ps:=by unfold fh;rw[iW,cu rfl];rfl
   rw[e,XU i,Xv j g h]
theorem Ym:∀{bs:bf gq} {ps qs:bf br} {f:br},bs.Nodup->ps.l=bs.l->qs.l=bs.l -> ((jI bs ps qs).t λn=>k'.add (mE bs (gU f ps qs) n) (.box (mE bs ps n)))=jQ f (uY ps qs)/\((jI bs ps qs).t λn=>k'.add (mE bs (gU f ps qs) n) (.box (mE bs qs n)))=jQ f (uN ps qs)
 | [],ps,qs,f,_,j,i=>by let m:ps=[]:=E6 j;let l:qs=[]:=E6 i;subst m l;exact#[rfl,rfl]| b::bs,[],qs,f,_,j,_=>by cases j
 | b::bs,p::ps,[],f,_,_,i=>by cases i
 | b::bs,p::ps,q::qs,f,x,j,i=>by
  let#[u,t]:=M5.mp x;let j:ps.l=bs.l:=Q2 j;let i:qs.l=bs.l:=Q2 i;let h:∀n∈jI bs ps qs,b≠n:=λn g e=>u (by rw[e];exact Hw g);by_cases e:p=q
  .have k:=Ym (f:=f) t j i;let m:jI (b::bs) (p::ps) (q::qs)=jI bs ps qs:=by rw[jI,cu e]
   let l:gU f (p::ps) (q::qs)=p::gU f ps qs:=by rw[gU,cu e]
   let r:uY (p::ps) (q::qs)=uY ps qs:=by rw[uY,cu e]
   let o:uN (p::ps) (q::qs)=uN ps qs:=by rw[uN,cu e]
   rw[m,l,r,o,<- k.1,<- k.2];exact#[L5 λn g=>by rw[yk (h n g),yk (h n g)],L5 λn g=>by rw[yk (h n g),yk (h n g)]]
  .have k:=Ym (f:=f+1) t j i;let m:jI (b::bs) (p::ps) (q::qs)=b::jI bs ps qs:=by rw[jI,cp e]
   let l:gU f (p::ps) (q::qs)=f::gU (f+1) ps qs:=by rw[gU,cp e]
   let r:uY (p::ps) (q::qs)=p::uY ps qs:=by rw[uY,cp e]
   let o:uN (p::ps) (q::qs)=q::uN ps qs:=by rw[uN,cp e]
   rw[m,l,r,o,C1,C1,CM,CM,CM];show(_::_=k'.add f (.box p)::jQ (f+1) (uY ps qs))/\(_::_=k'.add f (.box q)::jQ (f+1) (uN ps qs))
   rw[<- k.1,<- k.2];exact#[cv _ (L5 λn g=>by rw[yk (h n g),yk (h n g)]),cv _ (L5 λn g=>by rw[yk (h n g),yk (h n g)])]
theorem vc5:∀{bs:bf gq} {ps qs:bf br},ps.l=bs.l->qs.l=bs.l->(jI bs ps qs).l=(uY ps qs).l
 | [],ps,qs,g,f=>by let j:ps=[]:=E6 g;let i:qs=[]:=E6 f;subst j i;rfl| b::bs,[],qs,g,_=>by cases g
 | b::bs,p::ps,[],_,f=>by cases f
 | b::bs,p::ps,q::qs,g,f=>by
  let h:=vc5 (bs:=bs) (ps:=ps) (qs:=qs) (Q2 g) (Q2 f);unfold jI uY;split
  .exact h
  .rw[C0,C0,h]
def vi7:∀{bs:bf gq} {pl ps:bf br},bs.Nodup->pl.l=bs.l->ps.l=bs.l->Ff (bN bs pl) (bN bs ps)=bN bs ps:=by
 let key:∀(f g:bf gq) (k i j:bf br),(f++g).Nodup->k.l=f.l->i.l=g.l->j.l=g.l->Ff (bN (f++g) (k++i)) (bN g j)=bN (f++g) (k++j):=by
  intro f g;induction g generalizing f with
  | nil =>intro k i j _ _ l o;let B:i=[]:=E6 l;let A:j=[]:=E6 o;subst B A;rfl| cons b g r =>
   intro k i j m n l o;cases i with
   | nil=>cases l
   | cons p i =>
    cases j with
    | nil=>cases o
    | cons q j =>
     let x:b∈f++b::g:=by simp
     let st:oi (bN (f++b::g) (k++p::i)) (.inr b) (.int (q:bz))=bN (f++b::g) (k++q::i):=by
      rw[Yw x m (by rw[B4,B4,n,l])];let t:iW (f++b::g) b=f.l:=by
       let u:b∉f:=λh=>(U7.mp m).2.2 b h b D0 rfl;clear r m n l o x;induction f with
       | nil=>show(if b=b then 0 else _)=0;rw[cu rfl]| cons a f r =>let y:¬ a=b:=λe=>u (by rw[e];exact D0);show(if a=b then 0 else 1+iW (f++b::g) b)=_;rw[cp y,r λh=>u (C2 _ h),C0];omega
      unfold fh;rw[t,<- n,List.set_append_right _ _ (B9 _),Z8];rfl
     show Ff (oi (bN (f++b::g) (k++p::i)) (.inr b) (.int (q:bz))) (bN g j)=_;rw[st];let:=r (f++[b]) (k++[q]) i j (by simpa using m) (by simp[n]) (Q2 l) (Q2 o);simpa using this
 intro bs pl ps m n l;let:=key [] bs [] pl ps m rfl n l;simpa using this
theorem v64:∀{bs:bf gq} {ps:bf br},ps.l=bs.l->(bN bs ps).t (λf=>kD f.1)=bs.t D.str
 | [],ps,_=>by cases ps <;> rfl
 | b::bs,[],h=>by cases h
 | b::bs,p::ps,h=>by show D.str b::(bN bs ps).t (λf=>kD f.1)=_;rw[v64 (Q2 h)];rfl
theorem un1:∀{bs:bf gq} {ps qs:bf br},bs.Nodup->ps.l=bs.l->qs.l=bs.l->bs.filter (λn=>!decide (mE bs ps n=mE bs qs n))=jI bs ps qs
 | [],ps,qs,_,_,_=>by cases ps <;> cases qs <;> rfl
 | b::bs,[],qs,_,g,_=>by cases g
 | b::bs,p::ps,[],_,_,f=>by cases f
 | b::bs,p::ps,q::qs,m,g,f=>by
  let#[k,j]:=M5.mp m;let l:=un1 j (show ps.l=bs.l from Q2 g) (show qs.l=bs.l from Q2 f);let h:bs.filter (λn=>!decide (mE (b::bs) (p::ps) n=mE (b::bs) (q::qs) n))=jI bs ps qs:=by rw[<- l];apply KZ λn o=>?_;let i:b≠n:=λe=>k (by rw[e];exact o);rw[yk i,yk i]
  by_cases e:p=q
  .rw[Ik (by rw[CM,CM];simp[e]),h,jI,cu e]
  .rw[Ir (by rw[CM,CM];simp[e]),h,jI,cp e]
theorem v76{bs:bf gq}:∀{u:bf gq} {x:gq} {f:br} {pl:bf br},ny bs (u++[x]) f pl=fh bs (ny bs u f pl) x (f+u.l)
 | [],x,f,pl=>rfl| n::u,x,f,pl=>by show ny bs (u++[x]) (f+1) (fh bs pl n f)=fh bs (ny bs u (f+1) (fh bs pl n f)) x (f+(u.l+1));rw[v76,show f+1+u.l=f+(u.l+1) by omega]
theorem vp7{bs:bf gq}:∀{u:bf gq} {f:br} {pl:bf br},(ny bs u f pl).l=pl.l
 | [],f,pl=>rfl| n::u,f,pl=>by show(ny bs u (f+1) (fh bs pl n f)).l=_;rw[vp7];unfold fh;rw[K2]
def cR{f:d9->Gp->ck}{s:d9}{G:Gp}(h:f s G):Go f s G:=h
inductive wJ:Prop
 | mk (row:k') (m:br) (_:ds=[row.d,.int ((m:bz)-1)]) (_:(∀x n k,(row=.go x n k\/row=.aL x n k)->k<m)) (_:R (om m row).d G):wJ
inductive wK:Prop
 | mk (h:D) (g:fy) (rs:bf k') (_:ds=[.tup [h,.ref g]]) (_:G g=du (.lst (rs.t k'.d))) (_:Pairs rs) (_:rs.l<=9000000) (_:∀q f,G q=dv->f q=du (.lst ((j3 rs).t k'.d))->aj G f->R (.tup [h,.ref q]) f):wK
inductive wX:Prop
 | mk (row:k') (a:br) (_:ds=[row.d,.int (a:bz)]) (_:R (mv a row).d G):wX
inductive tO:Prop
 | mk (g:fy) (cs:bf cE) (_:ds=[.ref g]) (_:G g=du (.lst (cs.t cE.d))) (_:(∀c∈cs,G c.ra=du (.lst (c.rs.t k'.d))/\c.rs.l<=6000)) (_:0<cs.l) (_:cs.l<=2100) (_:∀q f,G q=dv->f q=du (.lst ((jT [] (cs.t cE.rs)).t k'.d))->aj G f->R (.tup [.int (ni cs:bz),.ref q]) f):tO
def add_l{G:Gp}{a b:fy}{xs ys:bf D}{q:DK}(h1:G a=du (.lst xs))(g:G b=du (.lst ys))(f:xs.l+ys.l<=10000001)(k:∀p,G p=dv->q (.ref p) (aC G p (.lst (xs++ys)))):mJ (.ref a) (.ref b) G q:=by show(match G a,G b with|some (.lst xs),du (.lst ys)=>xs.l+ys.l<=iZ/\∀p,G p=dv->q (.ref p) (aC G p (.lst (xs++ys)))|_,_=>b8);rw[h1,g];exact⟨D4 f ∅,k⟩
inductive fU(dp:br)(ds:bf D)(G:Gp)(R:DK):Prop
 | mk (rs:bf ai) (_:ds=[.tup (bc rs)]) (_:aW rs<dp) (_:bS rs<=1000) (_:gL rs) (_:∀(q:fy) (f:Gp),G q=dv->f q=du (.lst (bc (aF rs)))->aj G f->R (.ref q) f):fU dp ds G R
def xj9:fS:=fU 8
def xl0{n:br}:n<*T.ig.1<*fU 0:=Fj (by intro ds G R #[_,_,h,_];omega)
inductive nL(dp:br)(ds:bf D)(G:Gp)(R:DK):Prop
 | mk (r:ai) (_:ds=[df r]) (_:lE r<=dp) (_:mK r<=1000) (_:Bz r) (_:∀(q:fy) (f:Gp),G q=dv->f q=du (.lst (bc (eA r)))->aj G f->R (.ref q) f):nL dp ds G R
inductive wV:Prop
 | mk (x y:D) (rs:bf ai) (_:ds=[.tup [x,y,.tup (bc rs)]]) (_:aW rs<=6) (_:bS rs<=1000) (_:gL rs) (_:∀(q:fy) (f:Gp),G q=dv->f q=du (.lst (bc (aF rs)))->aj G f->R (.ref q) f):wV
structure jY(st sp:fy)(G G':Gp):Prop where
 at_:b9 G' st
 A_:∃s:bz,G' sp=du (.lst [.int s])
 kp:∀c o,c≠st->c≠sp->G c=du o->G' c=du o
def jY.refl{G:Gp}{st sp:fy}{s:bz}(S:b9 G st)(h:G sp=du (.lst [.int s])):jY st sp G G:=⟨S,⟨s,h⟩,λ_ _ _ _ e=>e⟩
def jY.trans{st sp:fy}{G G1 h:Gp}(a:jY st sp G G1)(b:jY st sp G1 h):jY st sp G h:=⟨b.at_,b.A_,λc o g f e=>b.kp c o g f (a.kp c o g f e)⟩
def jY.Ac{st sp:fy}{G G1 g:Gp}(a:jY st sp G G1)(b:cJ st G1 g)(n:sp≠st):jY st sp G g:=⟨b.at_,(let ⟨s,e⟩:=a.A_;#[s,b.kp _ _ n e]),λc o f h e=>b.kp c o f (a.kp c o f h e)⟩
theorem jY.grow{st sp:fy}{G G1 f:Gp}(a:jY st sp G G1)(g:aj G1 f):jY st sp G f:=⟨a.at_.grow g,(let ⟨s,e⟩:=a.A_;#[s,g.kp _ _ e]),λc o i h e=>g.kp _ _ (a.kp c o i h e)⟩
def jY.put{st sp:fy}{G G1:Gp}{xs ys:bf D}{q:fy}(a:jY st sp G G1)(h:G q=dv)(k:G1 q=du (.lst xs))(g:q≠st)(f:q≠sp):jY st sp G (aC G1 q (.lst ys)):=⟨a.at_.I k g,(let ⟨s,e⟩:=a.A_;#[s,by rw[aA (E1 f)];exact e]),λc o j i e=>by rw[aA (aT e h)];exact a.kp c o j i e⟩
def jY.less{st sp:fy}{G G1:Gp}{s s':bz}(a:jY st sp G G1)(h:G1 sp=du (.lst [.int s]))(n:sp≠st):jY st sp G (aC G1 sp (.lst [.int s'])):=⟨a.at_.I h n,⟨s',ay⟩,λc o g f e=>by rw[aA f];exact a.kp c o g f e⟩
theorem jW:∀{a b:bf ai},gL (a++b)↔gL a/\gL b
 | [],b=>by simp[gL]| r::a,b=>by show Bz r/\gL (a++b)↔(Bz r/\gL a)/\gL b;rw[jW,and_assoc]
inductive fX(dp:br)(ds:bf D)(G:Gp)(R:DK):Prop
 | mk (d:D) (rs:bf ai) (_:ds=[d]) (_:uW G d=du (bc rs)) (_:gL rs) (_:bS rs<=10000000) (_:aW rs<dp) (_:R (.int (bS rs:bz)) G):fX dp ds G R
def xk4:fS:=fX 8
def xl4{n:br}:n<*T.ip.1<*fX 0:=Fj (by intro ds G R #[_,_,_,_,_,_,h,_];omega)
inductive fW(dp:br)(ds:bf D)(G:Gp)(R:DK):Prop
 | mk (st sp:fy) (W f room:br) (bs:bf gq) (s:bz) (_:ds=[.ref st,.tup (bs.t .str),.int (W:bz),.int (f:bz),.int (room:bz),.ref sp]) (_:b9 G st) (_:sp≠st) (_:G sp=du (.lst [.int s])) (_:W<=16) (_:1<=bs.l) (_:bs.l<=6) (_:f<dp) (_:f<=5) (_:room<=200) (_:∀(rs:bf ai) (g:Gp),dF W bs rs->gL rs->bS rs<=room->aW rs<=f->rs.l<=4->jY st sp G g->R (.tup (bc rs)) g):fW dp ds G R
def xk3:fS:=fW 8
def xl3{n:br}:n<*T.il.1<*fW 0:=Fj (by intro ds G R #[_,_,_,_,_,_,_,_,_,_,_,_,_,_,h,_];omega)
inductive nM(dp:br)(ds:bf D)(G:Gp)(R:DK):Prop
 | mk (st sp:fy) (W f room:br) (bs:bf gq) (s:bz) (_:ds=[.ref st,.tup (bs.t .str),.int (W:bz),.int (f:bz),.int (room:bz),.ref sp]) (_:b9 G st) (_:sp≠st) (_:G sp=du (.lst [.int s])) (_:W<=16) (_:1<=bs.l) (_:bs.l<=6) (_:f<=dp) (_:f<=5) (_:1<=room) (_:room<=200) (_:∀(r:ai) (g:Gp),ou W bs r->Bz r->mK r<=room->lE r<=f->jY st sp G g->R (df r) g):nM dp ds G R
inductive fV(dp:br)(ds:bf D)(G:Gp)(R:DK):Prop
 | mk (rs:bf ai) (_:ds=[.tup (bc rs)]) (_:aW rs<dp) (_:gL rs) (_:bS rs<=10000000) (_:∀(q:fy) (f:Gp),G q=dv->f q=du (.lst (bc (aF rs)))->aj G f->R (.ref q) f):fV dp ds G R
def Pz:fS:=fV 8
def xl2{n:br}:n<*T.gj.1<*fV 0:=Fj (by intro ds G R #[_,_,h,_];omega)
def gd(ks:bf br)(n:br):ck:=ks≠[]/\(∀k∈ks,1<=k)/\ks.sum=n
def nI(ks:bf br):bf bz:=ks.t λ(k:br)=>(k:bz)
theorem w73:∀ks:bf br,(nI ks).sum=((ks.sum:br):bz)
 | []=>rfl| k::ks=>by let:=w73 ks;show(k:bz)+(nI ks).sum=_;rw[this,N8];omega
def gS:bf br->bf ai->bf (bf ai)
 | [],_=>[]| c::f,O=>O.fh c::gS f (O.G c)
theorem v43:∀(l:bf br) (c:br) (O:bf ai),gS (l++[c]) O=gS l O++[(O.G l.sum).fh c]
 | [],c,O=>rfl| k::l,c,O=>by
  show O.fh k::gS (l++[c]) (O.G k)=O.fh k::gS l (O.G k)++[_]
  rw[v43 l c,List.drop_drop,N8];rfl
theorem QA:∀(l:bf br) (O:bf ai),l.sum<=O.l->(gS l O).t J1=l
 | [],O,_=>rfl| k::l,O,h=>by rw[N8] at h;show(O.fh k).l::(gS l (O.G k)).t J1=k::l;rw[QA l _ (by rw[Tp];omega),Tr,W8 ()]
def lJ(G:Gp):bf fy->bf (bf ai)->ck
 | [],f=>f=[]| a::as,f=>∃p t,f=p::t/\G a=du (.lst (bc p))/\lJ G as t
theorem lJ.kp{G f:Gp}(g:∀a o,G a=du o->f a=du o):∀{as:bf fy} {ps:bf (bf ai)},lJ G as ps->lJ f as ps
 | [],_,h=>h| _::_,_,⟨p,t,e,h,r⟩=>#[p,t,e,g _ _ h,r.kp g]
theorem lJ.u_{G f:Gp}:∀{as:bf fy} {ps:bf (bf ai)},(∀a∈as,∀o,G a=du o->f a=du o)->lJ G as ps->lJ f as ps
 | [],_,_,h=>h| a::_,_,g,⟨p,t,e,h,r⟩=>#[p,t,e,g a D0 _ h,r.u_ λb i=>g b (C2 _ i)]
theorem lJ.snoc{G:Gp}{a:fy}{p:bf ai}(h1:G a=du (.lst (bc p))):∀{as:bf fy} {ps:bf (bf ai)},lJ G as ps->lJ G (as++[a]) (ps++[p])
 | [],_,h=>by rw[show _=[] from h];exact#[p,[],rfl,h1,rfl]| _::_,_,⟨f,t,e,h,r⟩=>by rw[e];exact#[f,t++[p],rfl,h,r.snoc h1]
theorem lJ.len{G:Gp}:∀{as:bf fy} {ps:bf (bf ai)},lJ G as ps->as.l=ps.l
 | [],_,h=>by rw[show _=[] from h];rfl| _::_,_,⟨f,t,e,h,r⟩=>by rw[e,C0,C0,r.len]
def wu3{O:bf ai}{a c:br}(h:a+c<=O.l):cutD (bc O) (du (a:bz)) (du ((a:bz)+(c:bz)))=bc ((O.G a).fh c):=by
 let g:HT.cD (bc O).l 0 (du (a:bz))=a:=by rw[HT.hJ];exact W8 (by rw[lO];omega)
 let f:HT.cD (bc O).l (bc O).l (du ((a:bz)+(c:bz)))=a+c:=by exact(HT.hJ _ _ (a+c)).u (W8 (by rw[lO];omega))
 unfold cutD;rw[g,f,vD,vD,<- LO,<- LM,Y8]
inductive qx:Prop
 | mk (s:br) (b:cg) (_:ds=[.int (s:bz),.bl b]) (_:s<=100) (_:∀f,aj G f->R (.int (gK s b:bz)) f):qx
inductive kL:Prop
 | mk (a:fy) (w:bf Pm) (_:ds=[.ref a]) (_:G a=du (.lst (w.t bX))) (_:w.l<=10000) (_:∀q f,G q=dv->f q=du (.lst ((n_ w).t bX))->aj G f->R (.ref q) f):kL
inductive eU(dp:br)(ds:bf D)(G:Gp)(R:DK):Prop
 | mk (st:fy) (f l s:br) (b:cg) (_:ds=[.ref st,.int (f:bz),.int (l:bz),.int (s:bz),.bl b]) (_:b9 G st) (_:f<l) (_:l-f<=dp) (_:l<=24) (_:l-f<=gK s b) (_:s<=8) (_:∀(q:fy) (w:bf Mv) (g:Gp),cJ st G g->G q=dv->q≠st->g q=du (.lst (w.t mD))->qq f l s b w->w.l<=(l-f)*(l-f)->R (.ref q) g):eU dp ds G R
def xk2:fS:=eU 26
inductive xl:Prop
 | mk (a:fy) (m n s:br) (_:ds=[.ref a,.int (n:bz),.int (s:bz)]) (_:G a=du (.lst ((fz m).t .int))) (_:n<=24) (_:m<2^n) (_:∀(q:fy) (ps:bf Mv) (f:Gp),G q=dv->f q=du (.lst (ps.t mD))->(∀p,p∈ps↔nY n s m p)->ps.l<=1000->aj G f->R (.ref q) f):xl
def Ut{G:Gp}{s:br}{b:cg}{q:DK}(g:s<=100)(k:∀f,aj G f->q (.int (gK s b:bz)) f):∃R,qx [.int (s:bz),.bl b] G R/\∀d f,R d f->q d f:=lh (k0:=λd f=>d=.int (gK s b:bz)/\aj G f) (λR h=>#[s,b,rfl,g,λf x=>h _ _ #[rfl,x]]) λd f ⟨e,x⟩=>by subst e;exact k f x
def xr8{G:Gp}{a:fy}{w:bf Pm}{q:DK}(h:G a=du (.lst (w.t bX)))(i:w.l<=10000)(k:∀g f,G g=dv->f g=du (.lst ((n_ w).t bX))->aj G f->q (.ref g) f):∃R,kL [.ref a] G R/\∀d f,R d f->q d f:=lh (k0:=λd f=>∃g,d=.ref g/\G g=dv/\f g=du (.lst ((n_ w).t bX))/\aj G f) (λR j=>#[a,w,rfl,h,i,λg f x y z=>j _ _ #[g,rfl,x,y,z]]) λd f ⟨g,e,x,y,z⟩=>by subst e;exact k g f x y z
def QW{G:Gp}{a:fy}{w:bf Mv}{q:DK}(h:G a=du (.lst (w.t mD)))(i:w.l<=10000)(k:∀g f,G g=dv->f g=du (.lst ((gp w).t mD))->aj G f->q (.ref g) f):∃R,kL [.ref a] G R/\∀d f,R d f->q d f:=xr8 (w:=w.t du) (by rw[HD];exact h) (by rw[B0];exact i) λg f x y z=>k g f x (by rw[XW,HD] at y;exact y) z
def PD{G:Gp}{st:fy}{f l s dp:br}{b:cg}{q:DK}(S:b9 G st)(h1:f<l)(x:l-f<=dp)(u:l<=24)(t:l-f<=gK s b)(r:s<=8)(k:∀(g:fy) (w:bf Mv) (h:Gp),cJ st G h->G g=dv->g≠st->h g=du (.lst (w.t mD))->qq f l s b w->w.l<=(l-f)*(l-f)->q (.ref g) h):∃R,eU dp [.ref st,.int (f:bz),.int (l:bz),.int (s:bz),.bl b] G R/\∀d h,R d h->q d h:=lh (k0:=λd h=>∃(g:fy) (w:bf Mv),d=.ref g/\cJ st G h/\G g=dv/\g≠st/\h g=du (.lst (w.t mD))/\qq f l s b w/\w.l<=(l-f)*(l-f)) (λR y=>#[st,f,l,s,b,rfl,S,h1,x,u,t,r,λg w h p o n m j i=>y _ _ #[g,w,rfl,p,o,n,m,j,i]]) λd h ⟨g,w,e,p,o,n,m,j,i⟩=>by subst e;exact k g w h p o n m j i
def xl1{n:br}:n<*T.ij.1<*eU 0:=Fj (by intro ds G R #[st,f,l,s,b,_,_,h,g,_];omega)
inductive qv:Prop
 | mk (k:br) (_:ds=[.int (k:bz)]) (_:k<=1000) (_:(k=0->R (.int 0) G)) (_:(∀i,k=i+1->R (.int (1*2^i)) G)):qv
inductive tJ:Prop
 | mk (b m:br) (_:ds=[.int (m:bz)]) (_:m<2^b) (_:R (.int (pc b m:bz)) G):tJ
inductive tT:Prop
 | mk (p:Pm) (m:br) (_:ds=[bX p,.int (m:bz)]) (_:Bg m p) (_:R (.int (jc m p:bz)) G):tT
inductive tH:Prop
 | mk (a:fy) (w:bf Pm) (_:ds=[.ref a]) (_:G a=du (.lst (w.t bX))) (_:nU 0 w) (_:w.l<=3000) (_:∀q f,G q=dv->f q=du (.lst ((0::f' 0 w).t nD))->aj G f->R (.ref q) f):tH
inductive w_:Prop
 | mk (a:fy) (w:bf Pm) (_:ds=[.ref a]) (_:G a=du (.lst (w.t bX))) (_:nU 0 w) (_:w.l<=3000) (_:∀(M:bz) f,M∈((0::f' 0 w).t λm=>(mx 24 m:bz))->(∀z∈((0::f' 0 w).t λm=>(mx 24 m:bz)),z<=M)->aj G f->R (.int M) f):w_
def eh(pl:bf bz):bf Pm->bz
 | []=>0| none::r=>eh pl r| some p::r=>pl.E (p.2-1) 0+eh pl r
inductive wH:Prop
 | mk (a b:fy) (w:bf Pm) (pl:bf bz) (_:ds=[.ref a,.ref b]) (_:G a=du (.lst (w.t bX))) (_:G b=du (.lst (pl.t .int))) (_:w.l<=3000) (_:(∀p,du p∈w->1<=p.2/\p.2<=pl.l)) (_:∀f,aj G f->R (.int (eh pl w)) f):wH
def wu8{G:Gp}{a:fy}{w:bf Pm}{q:DK}(h:G a=du (.lst (w.t bX)))(i:nU 0 w)(j:w.l<=3000)(k:∀g f,G g=dv->f g=du (.lst ((0::f' 0 w).t nD))->aj G f->q (.ref g) f):∃R,tH [.ref a] G R/\∀d f,R d f->q d f:=lh (k0:=λd f=>∃g,d=.ref g/\G g=dv/\f g=du (.lst ((0::f' 0 w).t nD))/\aj G f) (λR l=>#[a,w,rfl,h,i,j,λg f x y z=>l _ _ #[g,rfl,x,y,z]]) λd f ⟨g,e,x,y,z⟩=>by subst e;exact k g f x y z
theorem Hx{pl:bf bz}:∀{l r:bf Pm},eh pl (l++r)=eh pl l+eh pl r
 | [],r=>by show eh pl r=0+eh pl r;omega| none::l,r=>by show eh pl (l++r)=eh pl l+eh pl r;exact Hx| some p::l,r=>by show _+eh pl (l++r)=(_+eh pl l)+eh pl r;rw[Hx];omega
inductive qu:Prop
 | mk (k m:br) (_:ds=[.int (k:bz),.int (m:bz)]) (_:k<=1000) (_:R (.bl (vF k m)) G):qu
def PB{G:Gp}{k m:br}{q:DK}(h:k<=1000)(g:q (.bl (vF k m)) G):∃R,qu [.int (k:bz),.int (m:bz)] G R/\∀d f,R d f->q d f:=iD (v:=.bl (vF k m)) (G1:=G) (λR i=>#[k,m,rfl,h,i]) g
inductive xa:Prop
 | mk (p:Mv) (m n s:br) (_:ds=[mD p,.int (m:bz),.int (n:bz),.int (s:bz)]) (_:nY n s m p) (_:n<=1000) (_:m<2^n) (_:R (.bl dS) G):xa
inductive tR:Prop
 | mk (a:fy) (w:bf Pm) (n s:br) (b:cg) (_:ds=[.ref a,.int (n:bz),.int (s:bz)]) (_:G a=du (.lst (w.t bX))) (_:lI n s b w) (_:1<=n) (_:n<=24) (_:w.l<=3000) (_:R (.str (if b then "left" else "shown")) G):tR
inductive tG:Prop
 | mk (x y:D) (rs:bf ai) (g:fy) (ks:bf br) (_:ds=[.tup [x,y,.tup (bc rs)],.ref g]) (_:G g=du (.lst ((nI ks).t .int))) (_:aW rs<=6) (_:bS rs<=1000) (_:gL rs) (_:ks.l<=1000) (_:gd ks (aF rs).l) (_:∀(q:fy) (as:bf fy) (f:Gp),G q=dv->(∀a∈as,G a=dv)->(∀a∈as,a≠q)->f q=du (.lst (as.t .ref))->lJ f as (gS ks (aF rs))->aj G f->R (.ref q) f):tG
inductive wR:Prop
 | mk (s m:br) (_:ds=[.int (s:bz),.int (m:bz)]) (_:m<=1000) (_:∀(q:fy) (f:Gp),G q=dv->f q=du (.lst (((D3 m).t λj=>k'.add (m+j) (.box (s+j))).t k'.d))->aj G f->R (.tup [.int ((s+m:br):bz),.ref q]) f):wR
def xj7:fS:=λds G R=>∃(a:fy) (f:bf bz),ds=[.ref a]/\G a=du (.uB (f.t .int))/\f.l<=63/\∀g,R (.bl dS) g
inductive xh:Prop
 | mk (s m:br) (_:ds=[.int (s:bz),.int (m:bz)]) (_:m<=1000) (_:∀(q:fy) (f:Gp),G q=dv->f q=du (.lst (((D3 m).t λj=>k'.swap (m+j) (s+j)).t k'.d))->aj G f->R (.tup [.int ((s+m:br):bz),.ref q]) f):xh
inductive xb:Prop
 | mk (pc:fy) (W:br) (bs:bf gq) (rs:bf ai) (x:D) (_:ds=[.ref pc,.tup [.int (W:bz),.tup (bs.t .str),x]]) (_:G pc=du (.lst (bc rs))) (_:lG W bs rs) (_:∀f,aj G f->R (.int ((2*iM W bs rs+bs.l:br):bz)) f):xb
inductive tQ:Prop
 | mk (W:br) (bs:bf gq) (rs:bf ai) (g:fy) (ks:bf br) (_:ds=[.tup [.int (W:bz),.tup (bs.t .str),.tup (bc rs)],.ref g]) (_:G g=du (.lst ((nI ks).t .int))) (_:aW rs<=6) (_:bS rs<=1000) (_:gL rs) (_:ks.l<=1000) (_:gd ks (aF rs).l) (_:(∀p∈gS ks (aF rs),lG W bs p)) (_:∀(q:fy) (f:Gp),G q=dv->f q=du (.lst (((gS ks (aF rs)).t (qj W bs)).t .int))->aj G f->R (.ref q) f):tQ
def Wb(add:cg):gq:=if add=dS then "add" else "take"
inductive xc:Prop
 | mk (add:cg) (pc:fy) (W:br) (bs:bf gq) (rs:bf ai) (x:D) (f aO fr:br) (_:ds=[.str (Wb add),.ref pc,.tup [.int (W:bz),.tup (bs.t .str),x],.int (f:bz),.int (aO:bz),.int (fr:bz)]) (_:G pc=du (.lst (bc rs))) (_:lG W bs rs) (_:1<=W) (_:22*cC rs<=2640) (_:f+bs.l<=fr) (_:fr<=1000) (_:aO<=1000) (_:∀(q:fy) (g:Gp),G q=dv->g q=du (.lst ((jy add W bs rs f aO fr).t k'.d))->aj G g->R (.tup [.int ((bB W bs rs 0 (cb f bs.l) fr).2.2.1:bz),.ref q]) g):xc
inductive wZ:Prop
 | mk (mv:D) (pc:fy) (W:br) (bs:bf gq) (rs:bf ai) (x:D) (f aO fr:br) (rows:bf k') (sz:br) (_:ds=[mv,.ref pc,.tup [.int (W:bz),.tup (bs.t .str),x],.int (f:bz),.int (aO:bz),.int (fr:bz)]) (_:G pc=du (.lst (bc rs))) (_:lG W bs rs) (_:1<=W) (_:22*cC rs<=2640) (_:f+bs.l<=fr) (_:fr<=1000) (_:aO<=1000) (_:i_ W bs rs f aO fr mv rows sz) (_:∀(q:fy) (g:Gp),G q=dv->g q=du (.lst (rows.t k'.d))->aj G g->R (.tup [.int (sz:bz),.ref q]) g):wZ
def vn(n:br)(mv:D)(k:br):ck:=mv=kr "lay" k\/mv=kr "clear" k\/mv=.tup [.str "show"]/\k=n
def vn.key{n k:br}{mv:D}(h:vn n mv k):∃mk:bf lR,mv=.tup (mk.t kD):=by
 rcases h with rfl|rfl|⟨rfl,rfl⟩
 .exact⟨[.inr "lay",.inl (k:bz)],rfl⟩
 .exact⟨[.inr "clear",.inl (k:bz)],rfl⟩
 .exact⟨[.inr "show"],rfl⟩
def vn.qH{n k f:br}{mv:D}(h:vn n mv k)(h':vn n mv f):k=f:=by rcases h with rfl|rfl|⟨rfl,rfl⟩ <;> rcases h' with e|e|⟨e,h⟩ <;> simp[kr] at e <;> omega
def vn.code{n k:br}{mv:D}(h:vn n mv k)(W:br)(bs:bf gq)(rs:bf ai)(f aO fr:br):∃rows sz,i_ W bs rs f aO fr mv rows sz:=by
 rcases h with rfl|rfl|⟨rfl,rfl⟩
 .exact⟨_,_,.lay⟩
 .exact⟨_,_,.clear⟩
 .exact⟨_,_,.lT⟩
inductive xk:Prop
 | mk (st:fy) (_:ds=[.ref st]) (_:b9 G st) (_:∀(W:br) (bs:bf gq) (rs:bf ai) (f:Gp),1<=W->W<=16->1<=bs.l->bs.l<=6->bs.Nodup->dF W bs rs->gL rs->aW rs<=3->bS rs<=20->aF rs≠[]->cJ st G f->R (.tup [.int (W:bz),.tup (bs.t .str),.tup (bc rs)]) f):xk
theorem lJ.get{G:Gp}:∀{as:bf fy} {ps:bf (bf ai)} {i:br},lJ G as ps->i<ps.l->∃a,as[i]?=du a/\G a=du (.lst (bc (ps.E i [])))
 | [],ps,i,h,hi=>by let h:ps=[]:=h;subst h;cases hi
 | a::as,ps,i,h,hi=>by
  let#[p,t,rfl,g,f]:=h;cases i with
  | zero=>exact#[a,rfl,g]| succ i =>let#[b,k,j]:=lJ.get (i:=i) f (Nat.lt_of_succ_lt_succ hi);exact#[b,k,j]
def wx2{kvs:bf (fD×D)}{k q:fD}{v d:D}(i:kT kvs k=dv)(h:kT (Bd kvs k v) q=du d):q=k/\d=v\/kT kvs q=du d:=by
 let g:kvs.find? (λf=>decide (f.1=k))=dv:=by unfold kT at i;simpa using i
 let j:(kvs.any λf=>decide (f.1=k))=eH:=by rw[Tt];rw[sY] at g;exact g
 unfold Bd at h;rw[j,cp ∅] at h;unfold kT at h⊢;rw[La] at h;cases e:kvs.find? (λf=>decide (f.1=q)) with
 | some x=>rw[e] at h;exact .inr h| none =>
  rw[e] at h;by_cases z:k=q
  .subst z;simp at h;exact .inl #[rfl,h.M]
  .simp[z] at h
def vs0{kvs:bf (fD×D)}{k:fD}{v:D}(h:kT kvs k=dv):kT (Bd kvs k v) k=du v:=by
 let f:kvs.find? (λg=>decide (g.1=k))=dv:=by unfold kT at h;simpa using h
 let i:(kvs.any λg=>decide (g.1=k))=eH:=by rw[Tt];rw[sY] at f;exact f
 unfold Bd kT;rw[i,cp ∅,La,f];simp
inductive xo:Prop
 | mk (st:fy) (m f:br) (_:ds=[.ref st,.int (m:bz),.int (f:bz)]) (_:b9 G st) (_:1<=m) (_:m<=1000) (_:1<=f) (_:f<=100) (_:∀(q:fy) (ks:bf br) (g:Gp),gd ks m->ks.l<=f->q≠st->G q=dv->g q=du (.lst ((nI ks).t .int))->cJ st G g->R (.ref q) g):xo
theorem vf7:∀{ks:bf br} {O p:bf ai},p∈gS ks O->∃a b,O=a++p++b
 | [],_,_,h=>nomatch h| k::ks,O,p,h=>by
  rcases D9.mp h with rfl|h
  .exact⟨[],O.G k,by simp⟩
  .let#[a,b,e]:=vf7 h;exact#[O.fh k++a,b,by rw[D5,D5,<- D5 a p b,<- e,List.take_append_drop]]
def vo2{w:gq}{p:fy}{G:Gp}{ns:bf br}{q:DK}(u:ns.l<=10)(h:q (.ref p) (aC G p (.lst (ns.t (kr w))))):vw (λ_=>dm) (sH 0) wx (uD (jJ (dC (.str w)) (jJ (fK 0) iy))) p q (ns.t nD) [dv] (aC G p (.lst [])):=by
 apply jP (λr i j=>∃(l t:bf br) (v:b0 D),l++t=ns/\r=t.t nD/\j=aC G p (.lst (l.t (kr w)))/\i=[v]) #[[],ns,dv,rfl,rfl,rfl,rfl] ?_ ?_
 .intro i j #[l,t,v,e,g,rfl,rfl];let o:t=[]:=by simpa using g.M
  subst o;rw[D7] at e;subst e;exact#[trivial,h]
 .rintro z r i j ⟨l,t,v,e,g,rfl,rfl⟩ n;cases t with
  | nil=>cases g
  | cons k t =>
   cases g;let f:=cv J1 e;rw[B4,C0] at f;apply#[trivial,?_];show 2<=iZ/\(match aC G p (.lst (l.t (kr w))) p with|some (.lst xs)=>_|_=>b8)
   rw[ay];apply#[∅,by rw[B0];exact C6 (m:=100) () ∅,n _ _ #[l++[k],t,_,by rw[<- e];simp,rfl,?_,rfl]];rw[gb,B7];rfl
theorem vh9{B:br}:∀{cs:bf cE},(∀c∈cs,c.sz<=B)->ni cs<=B
 | [],_=>J8 _| c::cs,h=>vi.mpr #[h c D0,vh9 λc f=>h c (C2 _ f)]
def dk{x f:gq}{st:hC}{ps N:bf gq}{k:br}(d:FnAt K x f st ps){S:fS}(i:ae N ps (bj st)){t:fR} (j:∀(g:fx) (A:iC) (outer:bf Env) (s:fC) (H:Hp) (E:XK),aZ k (A.deeper (D57 f (bj st) s.o.h.v d.a g))->uI (sy qR P w K mg base N f (bj st) d.a g A outer s H E).zF (sJ st) t) (m:∀ds G R,S ds G R->t { nx:=λ_ n=>R .non n,rt:=R} (ub N ds) G) (l:∀ds G R,S ds G R->ds.l=ps.l:=by intro _ _ _ h;cases h;subst_vars;rfl):Ok P w mg base (k+1) d S:=Fc d i l j m
def km{j k:br}(F:bJ P w K mg base CX j f g ps sp)(h:j<=k:=by decide):bJ P w K mg base CX k f g ps sp:=F.mono h
def ek{X:Cx}{e:gI}{f:bf gI}{p pos:jU}{h:eD}{k:br}{S:fS}{x:gq}{st:hC}{ps:bf gq}{d:Fg X.K X.mg x st ps}(G:bJ X.c X.w X.K X.mg X.Q qR k d.a d.fd ps (cU X.K S))(j:aZ k X.A)(n:A3 X (e::f) h)(l:Gl X x:=by rfl)(i:(x==("__debug__" :gq))=eH:=by decide)
  (m:D2 (e::f) X.f=(eH,eval e X.f)::D2 f X.env:=by rfl) (o:(backTo pos (D2 f X.f)).any (·.1)=eH:=by rfl):E3 X (.Call (.Name x p) (e::f) [] pos) (jo S [] h):=ec d.1 d.g G j n l i m o
def eY(m:br)(f:bf (br×br)):bf (lR×D):=f.t λx=>(M7 (x.1:bz),.int (((x.2+2)*m:br):bz))
def wb8(m:br)(f:bf (br×br)):(eY m f).t (·.2)=(f.t λx=>(((x.2+2)*m:br):bz)).t D.int:=by unfold eY;rw[L9,L9];rfl
def CJ(m:br)(f:bf (br×br)):(eY m f).t (·.1)=(f.t λx=>(x.1:bz)).t M7:=by unfold eY;rw[L9,L9];rfl
def XN(m:br)(f:bf (br×br)):(eY m f).l=f.l:=B0 _
def vd9(m:br)(a b:bf (br×br)):eY m (a++b)=eY m a++eY m b:=B7
structure qP(M B:br)(sl:bf (br×br)):Prop where
 ks:sl.t (λx=>(x.1:bz))=fz M
 nd:(sl.t (·.2)).Nodup
 lt:∀x∈sl,x.2<B
def qP.len{M B:br}{f:bf (br×br)}(h:qP M B f):f.l=mx 24 M:=by rw[<- Qy,<- h.ks,B0]
def jH(G:Gp)(m B:br):bf fy->bf br->bf (bf (br×br))->ck
 | [],g,S=>g=[]/\S=[]| a::as,g,S=>∃M r f h,g=M::r/\S=f::h/\G a=du (.bR (eY m f))/\qP M B f/\jH G m B as r h
theorem jH.kp{G f:Gp}{m B:br}:∀{as:bf fy} {ms:bf br} {S:bf (bf (br×br))},(∀a∈as,∀o,G a=du o->f a=du o)->jH G m B as ms S->jH f m B as ms S
 | [],_,_,_,h=>h| a::as,_,_,g,h=>by let#[M,r,i,p,rfl,rfl,n,l,k]:=h;exact#[M,r,i,p,rfl,rfl,g a D0 _ n,l,jH.kp (λb j=>g b (C2 _ j)) k]
theorem jH.snoc{G:Gp}{m B M:br}{f:bf (br×br)}{a:fy}(h1:G a=du (.bR (eY m f)))(g:qP M B f):∀{as:bf fy} {ms:bf br} {S:bf (bf (br×br))},jH G m B as ms S->jH G m B (as++[a]) (ms++[M]) (S++[f])
 | [],ms,S,h=>by obtain⟨h,j⟩:ms=[]/\S=[]:=h;subst h;subst j;exact#[M,[],f,[],rfl,rfl,h1,g,rfl,rfl]
 | b::as,_,_,h=>by let#[o,r,l,n,rfl,rfl,e,k,i]:=h;exact#[o,r++[M],l,n++[f],rfl,rfl,e,k,jH.snoc h1 g i]
theorem jH.len{G:Gp}{m B:br}:∀{as:bf fy} {ms:bf br} {S:bf (bf (br×br))},jH G m B as ms S->as.l=ms.l
 | [],ms,_,h=>by let h:ms=[]:=h.1;subst h;rfl| b::as,_,_,h=>by let#[k,r,i,j,rfl,rfl,e,g,f]:=h;exact cv (·+1) (jH.len f)
def hN(g h:bf (br×br)):Pm->ck
 | none=>h=g| some (dS,k)=>∃f,f∉g.t (·.2)/\(∀j,j<f->j∈g.t (·.2))/\h=g++[(k,f)]| some (eH,k)=>h=g.filter λx=>!decide ((x.1:bz)=(k:bz))
def hN.qH{i h h':bf (br×br)}{p:Pm}(a:hN i h p)(b:hN i h' p):h=h':=by
 rcases p with _|⟨_|_,k⟩
 .exact Eq.u a (Eq.M b)
 .exact Eq.u a (Eq.M b)
 .let#[f,n,m,rfl]:=a;let#[g,l,j,rfl]:=b;rcases Nat.lt_trichotomy f g with e|rfl|e
  .exact(n (j f e)).n
  .rfl
  .exact(l (m g e)).n
structure Nx(M:br)(sl:bf (br×br))(p:Pm)(dr:bf (br×br)):Prop where
 ex:∃h,hN sl h p/\(h.t λx=>(x.1:bz)).Nodup/\∀x∈dr,x∈h
 ks:dr.t (λx=>(x.1:bz))=fz (jc M p)
theorem w77{h:bf (br×br)}(f:(h.t λx=>(x.1:bz)).Nodup):∀{a b:bf (br×br)},(∀x∈a,x∈h)->(∀x∈b,x∈h)->a.t (λx=>(x.1:bz))=b.t (λx=>(x.1:bz))->a=b
 | [],[],_,_,_=>rfl| [],_::_,_,_,e=>nomatch e| _::_,[],_,_,e=>nomatch e| x::a,y::b,m,j,e=>by
  rw[C1,C1] at e;let p:=(R6 e).1;let k:∀{l:bf (br×br)},(l.t λx=>(x.1:bz)).Nodup->∀{x y:br×br},x∈l->y∈l->(x.1:bz)=y.1->x=y:=by
   intro l;induction l with
   | nil=>intro _ x y i;cases i
   | cons z l n =>
    intro f x y i o e;let f:=M5.mp f;rcases D9.mp i with rfl|kx <;> rcases D9.mp o with rfl|ky
    .rfl
    .exact(f.1 (D6.mpr ⟨_,ky,e.M⟩)).n
    .exact(f.1 (D6.mpr ⟨_,kx,e⟩)).n
    .exact n f.2 kx ky e
  rw[k f (m _ D0) (j _ D0) p,w77 f (λz g=>m z (C2 _ g)) (λz g=>j z (C2 _ g)) (R6 e).2]
theorem Nx.qH{M:br}{f a b:bf (br×br)}{p:Pm}(x:Nx M f p a)(y:Nx M f p b):a=b:=by let#[#[h,l,k,j],i]:=x;let#[#[g,g1,_,g3],m]:=y;obtain rfl:=l.qH g1;exact w77 k j g3 (i.u m.M)
inductive Ah:bf Pm->bf (br×br)->bf (bf (br×br))->Prop
 | z:Ah [] [] [[]]
 | s {l:bf Pm} {g f:bf (br×br)} {S:bf (bf (br×br))} {p:Pm}:Ah l g S->Nx (cL 0 l) g p f->Ah (l++[p]) f (S++[f])
theorem Ah.qH{l:bf Pm}{j:bf (br×br)}{S:bf (bf (br×br))}(h:Ah l j S):∀{g:bf (br×br)} {i:bf (bf (br×br))},Ah l g i->j=g/\S=i:=by
 induction h with
 | z =>
  intro g i h;generalize e:([]:bf Pm)=l at h;cases h with
  | z=>exact#[rfl,rfl]| s _ _=>exact cz e (by simp)
 | @s l j q S p h n m =>
  intro g i f;generalize e:l++[p]=r at f;cases f with
  | z=>exact cz e (by simp)| s f k =>let#[rfl,o]:=Z1 e rfl;cases o;let#[rfl,rfl]:=m f;obtain rfl:=n.qH k;exact#[rfl,rfl]
theorem v41:∀{i:br} {js:bf br},(∀j,j<i->j∈js)->i<=js.l
 | 0,_,_=>J8 _| i+1,js,h=>by let l:=v41 (i:=i) (js:=js.erase i) λj f=>(Ku ()).mpr (h j ());let k:=HL (h i (T9 i));let g:0<js.l:=TM (h i (T9 i));omega
inductive xA:Prop
 | mk (a:fy) (m:br) (g:bf (br×br)) (_:ds=[.ref a,.int (m:bz)]) (_:1<=m) (_:m<=1000) (_:g.l<=60) (_:G a=du (.bR (eY m g))) (_:∀(f:br) (h:Gp),f∉g.t (·.2)->(∀j,j<f->j∈g.t (·.2))->f<=g.l->aj G h->R (.int (((f+2)*m:br):bz)) h):xA
inductive wO:Prop
 | mk (a:fy) (m M B:br) (f:bf (br×br)) (p:Pm) (_:ds=[bX p,.ref a,.int (m:bz)]) (_:1<=m) (_:m<=1000) (_:G a=du (.bR (eY m f))) (_:qP M B f) (_:Bg M p) (_:mx 24 (jc M p)<=B) (_:∀(q:fy) (g:bf (br×br)) (h:Gp),G q=dv->h q=du (.bR (eY m g))->qP (jc M p) B g->Nx M f p g->aj G h->R (.ref q) h):wO
inductive wQ:Prop
 | mk (g:fy) (m B:br) (w:bf Pm) (_:ds=[.ref g,.int (m:bz)]) (_:G g=du (.lst (w.t bX))) (_:1<=m) (_:m<=1000) (_:w.l<=3000) (_:nU 0 w) (_:(∀x∈f' 0 w,mx 24 x<=B)) (_:∀(q:fy) (as:bf fy) (h:bf (br×br)) (S:bf (bf (br×br))) (f:Gp),G q=dv->(∀a∈as,G a=dv)->(∀a∈as,a≠q)->f q=du (.lst (as.t .ref))->jH f m B as (0::f' 0 w) S->Ah w h S->aj G f->R (.ref q) f):wQ
theorem QS:∀{kvs:bf (lR×D)} {k:lR} {v:D},(kvs.t (·.1)).Nodup->(k,v)∈kvs->dq kvs k=du v
 | (g,i)::r,k,v,f,h=>by
  unfold dq;rw[M6];rcases D9.mp h with e|h
  .cases e;simp
  .have f:=M5.mp f;let ne:¬ g=k:=λe=>f.1 (by rw[e];exact D6.mpr #[_,h,rfl]);rw[c7 ne];exact QS f.2 h
def vs3{kvs:bf (lR×D)}{k:lR}(h:k∉kvs.t (·.1)):dq kvs k=dv:=by
 unfold dq;rw[sY.mpr]
 .rfl
 .intro g f;rw[decide_eq_true_eq];rintro rfl;exact h (D6.mpr #[_,f,rfl])
def vp8{kvs:bf (lR×D)}{k:lR}(h:k∉kvs.t (·.1)):(kvs.any λf=>decide (f.1=k))=eH:=by rw[Tt];intro f g;rw[decide_eq_true_eq];rintro rfl;exact h (D6.mpr #[_,g,rfl])
theorem uu6:∀{kvs acc:bf (lR×D)},((acc++kvs).t (·.1)).Nodup->uT (kvs.t (·.1)) (kvs.t (·.2)) acc=acc++kvs
 | [],acc,_=>(D7 acc).M| (k,v)::r,acc,h=>by
  let f:k∉acc.t (·.1):=by rw[B7,C1] at h;intro z;exact(U7.mp h).2.2 _ z _ D0 rfl
  show uT (r.t (·.1)) (r.t (·.2)) (oi acc k v)=_;unfold oi;rw[vp8 f,cp ∅,uu6 (by rw[D5];exact h),D5];rfl
def Qc{ns:bf bz}(h:ns.Nodup):(ns.t (M7:bz->lR)).Nodup:=Po.mpr (h.imp λh e=>h (OT e))
theorem Xb:∀{h:bf (br×br)} {x y:br×br},(h.t (·.2)).Nodup->x∈h->y∈h->x.2=y.2->x=y
 | z::r,x,y,g,i,f,e=>by
  let g:=M5.mp g;cases i with
  | head =>
   cases f with
   | head=>rfl| tail _ f=>exact(g.1 (D6.mpr #[_,f,e.M])).n
  | tail _ i =>
   cases f with
   | head=>exact(g.1 (D6.mpr #[_,i,e])).n| tail _ f=>exact Xb g.2 i f e
def xd9{f h:bf (br×br)}(h1:(f.t λx=>(x.1:bz)).Nodup)(g:∀x∈f,x∈h)(k:(h.t (·.2)).Nodup):(f.t (·.2)).Nodup:=Po.mpr ((Po.mp h1).imp_of_mem λj i ne e=>ne (by rw[Xb k (g _ j) (g _ i) e]))
def qP.look{M B m:br}{f:bf (br×br)}(h:qP M B f){k:br}(h1:1<=k)(o:k<=24)(n:d_ k M=dS):∃j,(k,j)∈f/\j<B/\dq (eY m f) (M7 (k:bz))=du (.int (((j+2)*m:br):bz)):=by
 let l:(k:bz)∈f.t λx=>(x.1:bz):=by rw[h.ks];exact(ze h1 o).mpr n
 let#[#[i,j],g,e]:=D6.mp l;obtain rfl:i=k:=by let e:(i:bz)=k:=e;omega
 apply#[j,g,h.lt _ g,QS ?_ (D6.mpr #[_,g,rfl])];rw[CJ,h.ks];exact Qc (yl cX)
def qP.get{M B m k j:br}{g:bf (br×br)}(h:qP M B g)(r:(k,j)∈g){z:bz}(p:z≠k):∃f:br,(dq (eY m g) (M7 z)).E (.int 0)=.int (f:bz)/\(f=0\/∃i,i<B/\i≠j/\f=(i+2)*m):=by
 by_cases n:z∈g.t λx=>(x.1:bz)
 .let#[x,l,rfl]:=D6.mp n;apply#[(x.2+2)*m,?_,.inr #[x.2,h.lt _ l,λe=>?_,rfl]]
  .rw[QS (kvs:=eY m g) (v:=.int (((x.2+2)*m:br):bz)) (by rw[CJ,h.ks];exact Qc (yl cX)) (D6.mpr #[x,l,rfl])];rfl
  .have:=Xb h.nd l r e;subst this;exact p rfl
 .apply#[0,?_,.inl rfl];rw[vs3]
  .rfl
  .rw[CJ];intro o;let#[y,q,e]:=D6.mp o;obtain rfl:=OT e;exact n q
def apart{i j m B fr:br}(hi:i<B)(f:fr=(2+B)*m):(i+2)*m+m<=fr/\2*m<=(i+2)*m/\(i≠j->(i+2)*m+m<=(j+2)*m\/(j+2)*m+m<=(i+2)*m):=by
 subst f;apply#[?_,N5 _ (),λh=>?_]
 .rw[<- Z6];exact N5 _ ()
 .rcases Nat.lt_or_gt_of_ne h with h|h
  .left;rw[<- Z6];exact N5 _ ()
  .right;rw[<- Z6];exact N5 _ ()
structure vp(m:br)(c:cE):Prop where
 pr:Pairs c.rs
 ok:∀r∈c.rs,r.ok c.sz
 ln:c.rs.l<=6000
 s1:2*m<=c.sz
 s2:c.sz<=2000
structure Cd(W:br)(bs:bf gq)(PP:bf (bf ai)):Prop where
 ok:∀p∈PP,lG W bs p/\22*cC p<=2640
 hW:1<=W
 hb:1<=bs.l
 yC:bs.l<=6
def i_.gd{W:br}{bs:bf gq}{rs:bf ai}{f aO fr sz:br}{a:fy}{mv:D}{rows:bf k'}(ok:lG W bs rs)(O:22*cC rs<=2640)(h1:1<=bs.l)(m:f+bs.l<=fr)(J:aO+bs.l<=fr)(Q:2*bs.l<=aO)(M:f+bs.l<=aO\/aO+bs.l<=f)(L:fr<=800)(t:i_ W bs rs f aO fr mv rows sz):vp bs.l ⟨sz,a,rows⟩:=by
 let N:=ok.nb;let key:∀add,vp bs.l ⟨(bB W bs rs 0 (cb f bs.l) fr).2.2.1,a,jy add W bs rs f aO fr⟩:=by
  intro add;let#[B,q,A]:=w13 ok m;let#[k,l,y]:=uf (a:=0) ok.hW rs ok.ok ok.nt (QR f bs.l) (fr:=fr) (λp i=>XO m i);let o:=uU (a:=0) (fr:=fr) ok.hW ok.nb rs ok.ok ok.nt (QR f bs.l);unfold jy;generalize (bB W bs rs 0 (cb f bs.l) fr)=Z at *;let#[I,H,E,_,_]:=o;let i:=k.pr.pairs;let n:=P_ (add:=add) (aO:=aO) (sz:=Z.2.2.1) (pl:=Z.2.1) (by rw[l];omega) λp i=>by let:=q p i;let:=y p i;rw[l];omega
  let u:(dI add aO Z.2.1).l=bs.l:=by unfold dI;rw[B0,F0,l]
  apply#[Yu (CS λ_ h=>nomatch h) λr g=>?_,WX (λ_ h=>nomatch h) λr g=>?_,?_,by show 2*bs.l<=Z.2.2.1;omega,by show Z.2.2.1<=2000;omega]
  .simp only[D9,Z0,or_false] at g;rcases g with rfl|rfl|rfl
   .exact i
   .exact CS λr g=>Fw (n r g)
   .exact uu0 i
  .simp only[D9,Z0,or_false] at g;rcases g with rfl|rfl|rfl
   .exact k.ok
   .exact λr g=>EW (n r g) (B9 _)
   .exact w16 k.ok
  .show(jT _ _).l<=6000;rw[Qu,C1,C1,C1,GB,AO,u,N8,N8,N8,M',W7];omega
 cases t with
 | lay=>exact key dS| clear=>exact key eH| lT =>
  apply#[CS λr g=>?_,λr g=>?_,by show(EI _ _).l<=6000;rw[B0,F0];omega,by show 2*bs.l<=aO+bs.l;omega,by show aO+bs.l<=2000;omega]
  .let#[j,_,rfl]:=D6.mp g;rfl
  .let#[j,x,rfl]:=D6.mp g;let:=K0.mp x;exact#[by show bs.l+j<aO+bs.l;omega,by show aO+j<aO+bs.l;omega,()]
def BB(fr:br)(c:cE)(d:br):ck:=∀(f:br) (X:bf bz),c.sz<=f->Lv fr f X->∃g,Lv fr f g/\∀(h:bf k') (a:br),fM h a c.rs->gQ h (a+c.rs.l) g a X d
def BB.of{fr m:br}{c:cE}(g:vp m c)(k:∀r∈c.rs,r.plain=dS)(l:∀r∈c.rs,LI (λi=>fr<=i) r):BB fr c c.rs.length:=by intro sz X h L;let cd:kQ sz c.rs X 0:=#[L.ok,λr j=>Yh (g.ok r j) h,J8 _];let e:=QP (rs:=c.rs) k 0 c.rs 0 X rfl (L6 _);rw[O_] at e;let#[_,_,_,f]:=Xj g.pr l (n:=c.rs.l) cd #[rfl,λ_ _=>rfl];let c2:=Xi (fw:=dS) g.pr (n:=c.rs.l) cd;rw[e] at f c2;exact#[_,#[c2.bo,λi hi=>(f i hi).u (L.z i hi)],λq a hw=>gQ.seg hw g.pr cd e]
def duP(W:br)(bs:bf gq)(f:bf (bf ai)):Pm->br
 | none=>bs.l| some q=>2*iM W bs (f.E (q.2-1) [])+bs.l
def uC(W:br)(bs:bf gq)(f:bf (bf ai))(w:bf Pm):br:=(w.t (duP W bs f)).sum
def i_.rn{W:br}{bs:bf gq}{rs:bf ai}{f aO fr sz d:br}{a:fy}{p:Pm}{rows:bf k'}(ok:lG W bs rs)(g:vp bs.l #[sz,a,rows])(A:f+bs.l<=fr)(x:aO+bs.l<=fr)(M:2*bs.l<=aO)(E:f+bs.l<=aO\/aO+bs.l<=f)(i:i_ W bs rs f aO fr (bX p) rows sz)(I:p=dv->d=bs.l)(H:p≠dv->d=2*iM W bs rs+bs.l):BB fr #[sz,a,rows] d:=by
 let key:∀add,p≠dv->sz=(bB W bs rs 0 (cb f bs.l) fr).2.2.1->rows=jy add W bs rs f aO fr->BB fr #[sz,a,rows] d:=by rintro add B rfl rfl s X u L;let#[J,t,q,o]:=v50 (add:=add) ok A x E u L.ok L.z;rw[H B];exact#[J,#[t,q],o]
 rcases p with _|⟨b,k⟩
 .obtain⟨N,n⟩:sz=aO+bs.l/\rows=(D3 bs.l).t λj=>k'.add (bs.l+j) (.box (aO+j)):=by let i:i_ W bs rs f aO fr (.tup [.str "show"]) rows sz:=i;cases i;exact#[rfl,rfl]
  let l:∀r∈rows,∃j,j<bs.l/\r=k'.add (bs.l+j) (.box (aO+j)):=λr l=>by rw[n] at l;let#[j,m,rfl]:=D6.mp l;exact#[j,K0.mp m,rfl]
  let C:rows.l=bs.l:=by rw[n,B0,F0]
  let:=BB.of (fr:=fr) g (λr h=>by let#[j,_,rfl]:=l r h;rfl) λr h=>by let#[j,m,rfl]:=l r h;exact#[(),λy e=>by cases e;omega]
  rw[I rfl,<- C];exact this
 .cases b with
  | true =>let i:i_ W bs rs f aO fr (kr "lay" k) rows sz:=i;cases i;exact key dS (by simp) rfl rfl
  | false =>let i:i_ W bs rs f aO fr (kr "clear" k) rows sz:=i;cases i;exact key eH (by simp) rfl rfl
def wq9{m fr aO:br}{a:fy}(g:vp m #[aO+m,a,(D3 m).t λi=>k'.swap (m+i) (aO+i)])(k:aO+m<=fr)(l:2*m<=aO):BB fr #[aO+m,a,(D3 m).t λi=>k'.swap (m+i) (aO+i)] m:=by
 let:=BB.of (fr:=fr) g (λr h=>by let#[j,_,rfl]:=D6.mp h;rfl) λr h=>by let#[j,f,rfl]:=D6.mp h;let:=K0.mp f;exact#[(),()]
 let e:((D3 m).t λi=>k'.swap (m+i) (aO+i)).l=m:=by rw[B0,F0]
 rw[show(#[aO+m,a,(D3 m).t λi=>k'.swap (m+i) (aO+i)]:cE).rs.l=m from e] at this;exact this
inductive BA(fr:br):bf cE->br->Prop
 | z:BA fr [] 0
 | s {cs:bf cE} {c:cE} {D d:br}:BA fr cs D->BB fr c d->BA fr (cs++[c]) (D+d)
def Zx{r:k'}:mv 0 r=r:=by cases r <;> first|rfl|(show k'.go _ _ _=_;rw[L6])|(show k'.aL _ _ _=_;rw[L6])
theorem v57{c:bf k'}:∀{L:bf (bf k')} {acc:bf k'},jT acc (L++[c])=dJ (jT acc L) c
 | [],_=>rfl| x::L,acc=>v57 (L:=L) (acc:=dJ acc x)
def BA.run{fr sz D:br}{cs:bf cE}(h:BA fr cs D):(∀c∈cs,c.sz<=sz)->∀{X:bf bz},Lv fr sz X->∃i,Lv fr sz i/\∀(f:bf k') (a:br),fM f a (jT [] (cs.t cE.rs))->gQ f (a+(jT [] (cs.t cE.rs)).l) i a X D:=by
 induction h with
 | z=>exact λ_ X L=>#[X,L,λf a _=>.done]| @s cs c D d h o l =>
  intro g X L;let#[q,t,f1]:=l (λx m=>g x (sk _ m)) L;let#[p,L2,f2]:=o sz q (g c (by simp)) t;apply#[p,L2,λf a hw=>?_];let e:jT [] ((cs++[c]).t cE.rs)=dJ (jT [] (cs.t cE.rs)) c.rs:=by rw[B7];exact v57
  rw[e] at hw⊢;let k:=(fM.part (L:=[]) hw).1;rw[QK,<- K6,Q0 D d];exact gQ.u () (f2 f _ k) (f1 f a λj r n=>hw j r (Xs n))
def gQ.thr{rs:bf k'}{z s d:br}{f bs:bf bz}(i:z=rs.l)(h:gQ rs z f s bs d):∀m,d<=m->rn dS rs m s bs=(d,z,f):=by
 induction h with
 | done =>
  intro m _;subst i;cases m with
  | zero=>rfl| succ m=>exact yi (fw:=dS) (n:=m+1) Ek
 | @step s bs d h m t g =>
  intro n k;cases n with
  | zero=>omega| succ n =>let e:rn dS rs n (dG dS rs bs s).1 (dG dS rs bs s).2=_:=g n ();rw[ua (fw:=dS) m,e]
theorem gQ.pre{rs:bf k'}{z:br}{g:bf bz}:∀{n s d:br} {bs:bf bz},gQ rs z g s bs d->n<=d->∃s' b',rn dS rs n s bs=(n,s',b')/\gQ rs z g s' b' (d-n)
 | 0,s,d,bs,h,_=>#[s,bs,rfl,h]| n+1,_,_,_,.done,i=>()| n+1,s,_,bs,.step (d:=d) _ m t,i=>by let#[s',b',e,f]:=gQ.pre t (show n<=d by omega);let e:rn dS rs n (dG dS rs bs s).1 (dG dS rs bs s).2=(n,s',b'):=e;exact#[s',b',by rw[ua (fw:=dS) m,e],by rw[Nt];exact f]
def vy5{W:br}{bs:bf gq}{f:bf (bf ai)}{w:bf Pm}{p:Pm}:uC W bs f (w++[p])=uC W bs f w+duP W bs f p:=by unfold uC;rw[B7,GF];rfl
theorem XA{W n s:br}{bs:bf gq}{f:bf (bf ai)}(l:n=f.l):∀{w:bf Pm} {m:br} {j:cg},gV n s m j w->((uC W bs f w:br):bz)=eh (f.t (qj W bs)) w+(if lT j w=dS/\j=eH then(bs.l:bz) else 0)
 | [],m,j,_=>by cases j <;> simp[uC,eh,lT]
 | none::r,m,j,h=>by
  let i:=XA (W:=W) (bs:=bs) l (w:=r) h.2;let e:((uC W bs f (dv::r):br):bz)=bs.l+(uC W bs f r:br):=by unfold uC;rw[C1,N8,Pg];rfl
  rw[e,i,h.1.2];let t:∀r:bf Pm,lT dS r=dS:=λr=>by
   induction r with
   | nil=>rfl| cons p r q=>cases p <;> exact q
  show _=eh (f.t (qj W bs)) r+(if lT dS r=dS/\eH=eH then(bs.l:bz) else 0)
  rw[cp (by simp),cu #[t r,rfl]];omega
 | some p::r,m,j,h=>by
  let i:=XA (W:=W) (bs:=bs) l (w:=r) h.2;let k:=h.1.1;let e:((uC W bs f (du p::r):br):bz)=((2*iM W bs (f.E (p.2-1) [])+bs.l:br):bz)+(uC W bs f r:br):=by unfold uC;rw[C1,N8,Pg];rfl
  let g:(f.t (qj W bs)).E (p.2-1) 0=((2*iM W bs (f.E (p.2-1) [])+bs.l:br):bz):=by
   let o:p.2-1<f.l:=by let:=k.1;let:=k.2;omega
   rw[F4,F5,B6 o,F4,B6 o];rfl
  rw[e,i];show _=(f.t (qj W bs)).E (p.2-1) 0+eh (f.t (qj W bs)) r+(if lT j r=dS/\j=eH then(bs.l:bz) else 0)
  rw[g];omega
def Sk(W:br)(bs:bf gq)(h:bf (bf ai))(fr n:br)(q:fD)(c:cE):ck:=∃(mv:D) (k f g:br),Dm q=.tup [mv,.int (f:bz),.int (g:bz)]/\vn n mv k/\i_ W bs (h.E (k-1) []) f g fr mv c.rs c.sz
def Sk.get{W:br}{bs:bf gq}{i:bf (bf ai)}{fr n k f aO:br}{q:fD}{c:cE}{mv:D}(h:Sk W bs i fr n q c)(e:Dm q=.tup [mv,.int (f:bz),.int (aO:bz)])(l:vn n mv k):i_ W bs (i.E (k-1) []) f aO fr mv c.rs c.sz:=by let#[j,t,r,p,g,o,m]:=h;rw[e] at g;simp only[D.tup.injEq,W6,D.int.injEq,and_true,Int.ofNat_inj] at g;let#[rfl,rfl,rfl]:=g;obtain rfl:=l.qH o;exact m
def i_.qH{W f aO fr sz g:br}{bs:bf gq}{rs:bf ai}{p:Pm}{a b:bf k'}(x:i_ W bs rs f aO fr (bX p) a sz)(y:i_ W bs rs f aO fr (bX p) b g):a=b/\sz=g:=by
 rcases p with _|⟨b|b,k⟩
 .have x:i_ W bs rs f aO fr (.tup [.str "show"]) a sz:=x;let y:i_ W bs rs f aO fr (.tup [.str "show"]) _ g:=y;cases x;cases y;exact⟨rfl,rfl⟩
 .have x:i_ W bs rs f aO fr (kr "clear" k) a sz:=x;let y:i_ W bs rs f aO fr (kr "clear" k) _ g:=y;cases x;cases y;exact⟨rfl,rfl⟩
 .have x:i_ W bs rs f aO fr (kr "lay" k) a sz:=x;let y:i_ W bs rs f aO fr (kr "lay" k) _ g:=y;cases x;cases y;exact⟨rfl,rfl⟩
def ZQ:Pm->cg
 | some (dS,_)=>dS| _=>eH
def Sr(W:br)(bs:bf gq)(j:bf (bf ai))(fr:br)(p:Pm)(g h:bf (br×br))(c:br×bf k'):ck:=∃k f i:br,vn j.l (bX p) k/\dq (eY bs.l (if ZQ p=dS then h else g)) (M7 (k:bz))=du (.int (i:bz))/\(dq (eY bs.l (if ZQ p=dS then h else g)) (M7 ((k:bz)-1))).E (.int 0)=.int (f:bz)/\i_ W bs (j.E (k-1) []) f i fr (bX p) c.2 c.1
theorem Sr.qH{W fr:br}{bs:bf gq}{h:bf (bf ai)}{p:Pm}{f g:bf (br×br)}{c d:br×bf k'}(x:Sr W bs h fr p f g c)(y:Sr W bs h fr p f g d):c=d:=by let#[k,s,t,o,n,m,l]:=x;let#[r,j,i,g1,g2,g3,q]:=y;obtain rfl:=o.qH g1;rw[n] at g2;rw[m] at g3;obtain rfl:t=i:=rf (D.int.inj (E8 g2));obtain rfl:s=j:=rf (D.int.inj g3);let#[a,b]:=l.qH q;exact Av b a
inductive Aq(W:br)(bs:bf gq)(g:bf (bf ai))(fr:br):bf Pm->bf (bf (br×br))->bf (br×br)->bf (br×bf k')->Prop
 | z {f:bf (br×br)}:Aq W bs g fr [] [] f []
 | s {l:bf Pm} {S:bf (bf (br×br))} {f h:bf (br×br)} {C:bf (br×bf k')} {p:Pm} {c:br×bf k'}:Aq W bs g fr l S f C->Sr W bs g fr p f h c->Aq W bs g fr (l++[p]) (S++[f]) h (C++[c])
theorem Aq.qH{W fr:br}{bs:bf gq}{m:bf (bf ai)}{l:bf Pm}{S:bf (bf (br×br))}{j:bf (br×br)}{C:bf (br×bf k')}(h:Aq W bs m fr l S j C):∀{i:bf (bf (br×br))} {g:bf (br×br)} {C':bf (br×bf k')},Aq W bs m fr l i g C'->S++[j]=i++[g]->C=C':=by
 induction h with
 | z =>
  intro i g C' h _;generalize e:([]:bf Pm)=l at h;cases h with
  | z=>rfl| s _ _=>exact cz e (by simp)
 | @s l S j y C p c h n q =>
  intro i g C' f x;generalize e:l++[p]=A at f;cases f with
  | z=>exact cz e (by simp)| s f o =>let#[rfl,u]:=Z1 e rfl;cases u;let#[k,t]:=Z1 x rfl;cases t;obtain rfl:=q f k;let#[_,r]:=Z1 k rfl;cases r;rw[n.qH o]
def FD(c:cE):br×bf k':=(c.sz,c.rs)
theorem vi0:∀{a b:bf cE},a.t FD=b.t FD->ni a=ni b/\a.t cE.rs=b.t cE.rs
 | [],[],_=>#[rfl,rfl]| [],_::_,e=>nomatch e| _::_,[],e=>nomatch e| x::a,y::b,e=>by rw[C1,C1] at e;let#[k,j]:=R6 e;let#[i,h]:=vi0 j;let#[g,f]:=Prod.mk.inj k;exact#[by show max x.sz (ni a)=max y.sz (ni b);rw[i,g],by rw[C1,C1,h];exact cv (·::_) f]
def Mg(W:br)(bs:bf gq)(g:bf (bf ai))(b:cg)(w:bf Pm)(cs:bf cE):ck:=∃(B:br) (f h:bf (br×br)) (S:bf (bf (br×br))) (C:bf (br×bf k')),B∈(0::f' 0 w).t (mx 24)/\(∀x∈0::f' 0 w,mx 24 x<=B)/\Ah w h (S++[f])/\Aq W bs g ((2+B)*bs.l) w S f C/\(b=eH->cs.t FD=C)/\(b=dS->∃t:br,dq (eY bs.l f) (M7 (g.l:bz))=du (.int (t:bz))/\cs.t FD=C++[(t+bs.l,(D3 bs.l).t λi=>k'.swap (bs.l+i) (t+i))])
theorem Mg.qH{W:br}{bs:bf gq}{g:bf (bf ai)}{b:cg}{w:bf Pm}{cs ds:bf cE}(x:Mg W bs g b w cs)(y:Mg W bs g b w ds):ni cs=ni ds/\cs.t cE.rs=ds.t cE.rs:=by
 let#[B,Q,_,S,C,A,r,q,p,o,n]:=x;let#[O,U,_,X,Y,m,l,k,j,i,h]:=y;obtain rfl:B=O:=by let#[u,M,rfl]:=D6.mp A;let#[v,L,rfl]:=D6.mp m;exact NM (l u M) (r v L)
 let#[_,e]:=q.qH k;obtain rfl:=p.qH j e;let#[_,N]:=Z1 e rfl;cases N;apply vi0 ?_;cases b with
 | false=>exact(o rfl).u (i rfl).M| true =>let#[t,I,H]:=n rfl;let#[J,f,E]:=h rfl;rw[I] at f;obtain rfl:t=J:=rf (D.int.inj (E8 f));exact H.u E.M
inductive wY:Prop
 | mk (W:br) (bs:bf gq) (x:D) (f:bf (bf ai)) (j pl i:fy) (as h:bf fy) (S:bf (bf (br×br))) (w:bf Pm) (s B:br) (_:ds=[.tup [.int (W:bz),.tup (bs.t .str),x],.ref j,.ref pl,.ref i]) (_:G j=du (.lst (as.t .ref))) (_:lJ G as f) (_:G pl=du (.lst (w.t bX))) (_:G i=du (.lst (h.t .ref))) (_:jH G bs.l B h (0::f' 0 w) S) (_:nU 0 w) (_:gV f.l s 0 eH w) (_:B<=8) (_:B∈(0::f' 0 w).t (mx 24)) (_:(∀x∈f' 0 w,mx 24 x<=B)) (_:1<=f.l) (_:f.l<=20) (_:w.l<=2001) (_:Cd W bs f) (_:∀(q:fy) (cs:bf cE) (k:bf (bf (br×br))) (l:bf (br×br)) (g:Gp),S=k++[l]->Aq W bs f ((2+B)*bs.l) w k l (cs.t FD)->G q=dv->g q=du (.lst (cs.t cE.d))->cs.l=w.l->(∀c∈cs,g c.ra=du (.lst (c.rs.t k'.d))/\c.ra≠q/\vp bs.l c)->BA ((2+B)*bs.l) cs (uC W bs f w)->aj G g->R (.ref q) g):wY
structure BF(W:br)(bs:bf gq)(rs:bf ai)(ks:bf br)(w:bf Pm)(s:br)(b:cg):Prop where
 dp:aW rs<=6
 wt:bS rs<=1000
 bd:gL rs
 kl:ks.l<=20
 gd:gd ks (aF rs).l
 pk:Cd W bs (gS ks (aF rs))
 pl:lI (gS ks (aF rs)).l s b w
 s8:s<=8
 wl:w.l<=2001
inductive xg:Prop
 | mk (W:br) (bs:bf gq) (rs:bf ai) (h pl:fy) (ks:bf br) (w:bf Pm) (s:br) (b:cg) (_:ds=[.tup [.int (W:bz),.tup (bs.t .str),.tup (bc rs)],.ref h,.int (s:bz),.ref pl]) (_:G h=du (.lst ((nI ks).t .int))) (_:G pl=du (.lst (w.t bX))) (_:BF W bs rs ks w s b) (_:∀(q:fy) (sz:br) (f:bf k') (cs:bf cE) (g:Gp),Mg W bs (gS ks (aF rs)) b w cs->sz=ni cs->f=jT [] (cs.t cE.rs)->G q=dv->g q=du (.lst (f.t k'.d))->Pairs f->(∀r∈f,r.ok sz)->f.l<=13000000->2*bs.l<=sz->sz<=2000->(∀X,cZ sz X->(∀i,bs.l<=i->gt X i=0)->∃j d,((d:br):bz)=eh ((gS ks (aF rs)).t (qj W bs)) w+(bs.l:bz)/\gQ f f.l j 0 X d)->aj G g->R (.tup [.int (sz:bz),.ref q]) g):xg
inductive wN:Prop
 | mk (W:br) (bs:bf gq) (rs:bf ai) (f pl:fy) (ks:bf br) (w:bf Pm) (s:br) (b:cg) (_:ds=[.tup [.int (W:bz),.tup (bs.t .str),.tup (bc rs)],.ref f,.int (s:bz),.ref pl]) (_:G f=du (.lst ((nI ks).t .int))) (_:G pl=du (.lst (w.t bX))) (_:BF W bs rs ks w s b) (_:∀(g:Gp),aj G g->R (.int (eh ((gS ks (aF rs)).t (qj W bs)) w+(bs.l:bz))) g):wN
def CZ{W m sz:br}{vs:bf br}(j:W<=16)(h1:vs.l=m)(k:∀v∈vs,v<2^W)(l:m<=sz):cZ sz (vs.t (λ(v:br)=>(v:bz))++C7 (sz-m) 0)/\∀i,m<=i->gt (vs.t (λ(v:br)=>(v:bz))++C7 (sz-m) 0) i=0:=by
 apply⟨⟨by rw[B4,O2,B0];omega,λv f=>?_⟩,λi hi=>?_⟩
 .rcases F7.mp f with h|h
  .let#[n,g,rfl]:=D6.mp h;let:=C9 (k n g) (U5 (n:=2) ∅ j);omega
  .rw[Y4 h];omega
 .unfold gt;rw[F4,F9 (by rw[B0];omega),rz];split <;> rfl
theorem LR(b:cg){s:br}(h:1<=s):∀d,gK s b<=gK (s+d) b
 | 0=>B9 _| d+1=>by
  apply D4 (LR b h d) ?_;obtain⟨e,f⟩:∃e,s+d=e+1:=#[s+d-1,()];rw[<- K6,f];cases b
  .exact Nat.sub_le_sub_right (U5 ∅ (U4 _)) 1
  .exact v71
inductive xj:Prop
 | mk (st:fy) (_:ds=[.ref st]) (_:b9 G st) (_:∀(W:br) (bs:bf gq) (x y o:gq) (v:br) (f:Gp),1<=W->W<=16->1<=bs.l->bs.l<=6->bs.Nodup->ou W bs (.op x o (.box y) (.num v))->cJ st G f->R (.tup [.int (W:bz),.tup (bs.t .str),.tup (bc [.fN 20 [.op x o (.box y) (.num v)]])]) f):xj
inductive xm:Prop
 | mk (st:fy) (_:ds=[.ref st]) (_:b9 G st) (_:∀(bs:bf gq) (ys:bf ai) (f:Gp),1<=bs.l->bs.l<=6->bs.Nodup->dF 1 bs ys->(∀r∈ys,∃x o a b,r=.op x o a b)->1<=ys.l->ys.l<=6->cJ st G f->R (.tup [.int 1,.tup (bs.t .str),.tup (bc [.fN 20 ys])]) f):xm
inductive xu:Prop
 | mk (st:fy) (_:ds=[.ref st]) (_:b9 G st) (_:∀(bs:bf gq) (ys:bf ai) (n:br) (q i h g:fy) (f:Gp),bs.l=1->dF 1 bs ys->(∀r∈ys,∃x o a b,r=.op x o a b)->ys.l=n->5<=n->n<=8->G q=dv->q≠st->f q=du (.lst [.tup [.int 1,.tup (bs.t .str),.tup (bc ys)],.ref i,.ref h,.int (n:bz),.ref g,.bl eH])->i≠st->f i=du (.lst (bc ys))->h≠st->f h=du (.lst ((nI (C7 n 1)).t .int))->g≠st->f g=du (.lst ((((D3 n).t λj=>du (dS,j+1))++[dv]++((D3 n).t λj=>du (eH,n-j))).t bX))->cJ st G f->R (.ref q) f):xu
inductive xq:Prop
 | mk (a:fy) (m:br) (p:Mv) (_:ds=[.ref a,mD p]) (_:G a=du (.lst ((fz m).t .int))) (_:Bg m (du p)) (_:∀(q:fy) (f:Gp),G q=dv->f q=du (.lst ((fz (xr m p.2)).t .int))->aj G f->R (.ref q) f):xq
inductive xt:Prop
 | mk (st a:fy) (w:bf Mv) (n s:br) (_:ds=[.ref st,.ref a,.int (n:bz),.int (s:bz)]) (_:b9 G st) (_:a≠st) (_:G a=du (.lst (w.t mD))) (_:gh n s 0 w) (_:1<=n) (_:n<=24) (_:1<=s) (_:w.l<=300) (_:∀(q:fy) (u:bf Mv) (f:Gp),cJ st G f->G q=dv->q≠st->f q=du (.lst (u.t mD))->gh n s 0 u->l' 0 u=l' 0 w->u.l<=900->R (.ref q) f):xt
inductive tL:Prop
 | mk (st:fy) (n s:br) (b g:cg) (_:ds=[.ref st,.int (n:bz),.int (s:bz),.bl b,.bl g]) (_:b9 G st) (_:1<=n) (_:n<=20) (_:(g=eH->n<=11)) (_:1<=s) (_:s<=8) (_:n<=gK s b) (_:∀(q:fy) (w:bf Pm) (f:Gp),cJ st G f->G q=dv->q≠st->f q=du (.lst (w.t bX))->lI n s b w->w.l<=2001->R (.ref q) f):tL
inductive tK:Prop
 | mk (st:fy) (n:br) (_:ds=[.ref st,.int (n:bz)]) (_:b9 G st) (_:1<=n) (_:n<=20) (_:∀(q:fy) (s:br) (b:cg) (f:Gp),cJ st G f->G q=dv->q≠st->f q=du (.lst [.int (s:bz),.bl b])->1<=s->s<=8->n<=gK s b->R (.ref q) f):tK
def BF.len{W:br}{bs:bf gq}{rs:bf ai}{ks:bf br}{w:bf Pm}{s:br}{b:cg}(h:BF W bs rs ks w s b):1<=(gS ks (aF rs)).l/\(gS ks (aF rs)).l<=20:=by let e:=cv J1 (QA ks (aF rs) (by rw[h.gd.2.2];exact B9 _));rw[B0] at e;let g:=h.kl;let f:ks.l≠0:=λz=>h.gd.1 (Kc.mp z);omega
theorem Xx{n s:br}:∀{w:bf Pm} {m:br} {f:cg} {p:Mv},gV n s m f w->du p∈w->1<=p.2/\p.2<=n
 | none::r,m,f,p,⟨_,h⟩,hp=>by
  rcases D9.mp hp with e|hp
  .cases e
  .exact Xx h hp
 | some q::r,m,f,p,⟨g,h⟩,hp=>by
  rcases D9.mp hp with e|hp
  .cases e;exact g.1
  .exact Xx h hp
def vf9{n s:br}{b:cg}{w:bf Pm}(h:lI n s b w){p:Mv}(f:du p∈w):1<=p.2/\p.2<=n:=Xx (L3.lI.gV h).1 f
theorem Xy{n s:br}(i:n<=24):∀{w:bf Pm} {m:br} {f:cg},gV n s m f w->nU m w
 | [],_,_,_=>trivial| none::r,m,f,⟨_,h⟩=>#[trivial,Xy i (w:=r) h]| some q::r,m,f,⟨g,h⟩=>#[#[#[g.1.1,by let:=g.1.2;omega],g.2.2.1],Xy i (w:=r) h]
def wp0(w:bf Pm):∃B,B∈(0::f' 0 w).t (mx 24)/\∀x∈0::f' 0 w,mx 24 x<=B:=by
 suffices h:∀(l:bf br) (x:br),∃B,B∈(x::l).t (mx 24)/\∀y∈x::l,mx 24 y<=B from h _ _;intro l;induction l with
 | nil=>exact λx=>#[mx 24 x,D0,λy f=>by rw[D8.mp f];exact B9 _]| cons z l i =>
  intro x;let#[B,j,g]:=i z;by_cases e:mx 24 x<=B
  .exact#[B,C2 _ j,KG.mpr #[e,g]]
  .exact#[mx 24 x,D0,KG.mpr #[B9 _,λy f=>D4 (g y f) ()]]
def wu5{n s B:br}{w:bf Pm}(q:n<=24)(h:gV n s 0 eH w)(r:B∈(0::f' 0 w).t (mx 24)):B<=s:=by
 suffices k:∀(w:bf Pm) (m:br) (j:cg),m<2^n->mx n m<=s->gV n s m j w->∀x∈m::f' m w,mx n x<=s/\x<2^n by let#[x,hx,rfl]:=D6.mp r;let#[g,i]:=k w 0 eH (W9 _) (by rw[zg];exact J8 _) h x hx;rw[w86 i q];exact g
 intro w;induction w with
 | nil=>exact λm j g i _ x hx=>by rw[D8.mp hx];exact#[i,g]| cons p w o =>
  intro m j g i l x hx;rcases D9.mp hx with rfl|hx
  .exact⟨i,g⟩
  .cases p with
   | none=>exact o m dS g i l.2 x hx| some p =>
    let f:=l.1;let t:xr m p.2<2^n:=Tw g (TF ∅ (by let:=f.1;omega));apply o (xr m p.2) j t ?_ l.2 x hx;cases e:d_ p.2 m with
    | true =>let:=Hz f.1.1 f.1.2 e;omega| false =>let:=AK f.1.1 f.1.2 e;let:=f.2.2.2 (by rw[f.2.2.1,e];rfl);omega
theorem w22{B:br}:∀{l:bf br},(∀x∈l,x<=B)->l.sum<=B*l.l
 | [],_=>J8 _| x::l,h=>by let:=w22 (l:=l) λy f=>h y (C2 _ f);let:=h x D0;rw[N8,C0,Nat.mul_succ];omega
theorem jH.last{G:Gp}{m B:br}:∀{as:bf fy} {w:bf Pm} {M:br} {S:bf (bf (br×br))},jH G m B as (M::f' M w) S->∃a f i j,as=i++[a]/\S=j++[f]/\G a=du (.bR (eY m f))/\qP (cL M w) B f
 | a::as,[],M,S,h=>by
  let#[u,r,f,t,e,rfl,l,k,g]:=h;cases e;cases as with
  | nil=>let#[_,rfl]:=g;exact#[a,f,[],[],rfl,rfl,l,k]| cons b as=>let#[_,_,_,_,e,_]:=g;cases e
 | a::as,p::w,M,S,h=>by let#[u,r,f,t,e,rfl,l,k,g]:=h;cases e;let#[b,q,i,j,rfl,rfl,o,n]:=jH.last (w:=w) g;exact#[b,q,a::i,f::j,rfl,rfl,o,n]
def jH.end{G:Gp}{m B M:br}{as:bf fy}{f:bf (br×br)}{S:bf (bf (br×br))}(h:jH G m B as [M] (f::S)):S=[]:=by
 cases as with
 | nil=>cases h.1
 | cons a as =>
  let#[n,r,f,l,e,i,k,j,g]:=h;cases e;cases i;cases as with
  | nil=>exact g.2| cons b as=>let#[_,_,_,_,e,_]:=g;cases e
def jH.two{G:Gp}{m B M n:br}{r:bf br}{S:bf (bf (br×br))}:∀{j:bf fy},jH G m B j (M::n::r) S->∃a i k g f S3,j=a::i::k/\S=g::f::S3/\G a=du (.bR (eY m g))/\G i=du (.bR (eY m f))/\qP M B g/\qP n B f/\jH G m B (i::k) (n::r) (f::S3):=by
 intro j h;rcases j with _|⟨a,_|⟨i,k⟩⟩
 .cases h.1
 .let#[_,_,_,_,e,_,_,_,h]:=h;cases e;cases h.1
 .let#[_,_,g,x,e,rfl,t,hi,o]:=h;cases e;let q:=o;let#[_,_,f,S3,e,rfl,p,l,u]:=o;cases e;exact#[a,i,k,g,f,S3,rfl,rfl,t,p,hi,l,q]
def YZ{W:br}{bs:bf gq}{rs:bf ai}{ks:bf br}(h1:1<=W)(k:W<=16)(j:1<=bs.l)(f:bs.l<=6)(i:bs.Nodup)(h:dF W bs rs)(l:aW rs<=4)(hw:bS rs<=120):Cd W bs (gS ks (aF rs)):=by apply#[λp g=>?_,h1,j,f];let#[a,b,e]:=vf7 g;let o1:=Ht rs h;let o2:=Hv rs;let o3:=HC rs;let o4:=Fp rs;rw[e] at o1 o2 o3 o4;let o1:=(cN.mp (cN.mp o1).1).2;let o2:=(fP.mp (fP.mp o2).1).2;rw[AS,AS] at o3;rw[Ft,Ft] at o4;exact#[#[f,i,o1,o2,(),(),k],()]
def Kp{W:br}{bs:bf gq}{rs:bf ai}{ks:bf br}{w:bf Pm}{s n:br}{b:cg}(h1:1<=W)(t:W<=16)(r:1<=bs.l)(q:bs.l<=6)(l:bs.Nodup)(j:dF W bs rs)(g:gL rs)(p:aW rs<=4)(hw:bS rs<=120)(o:ks.l=n)(k:n<=20)(f:gd ks (aF rs).l)(i:lI n s b w)(h:s<=8)(m:w.l<=2001):BF W bs rs ks w s b:=by let e:=cv J1 (QA ks (aF rs) (by rw[f.2.2];exact B9 _));rw[B0] at e;exact#[(),(),g,(),f,YZ h1 t r q l j p hw,by rw[e,o];exact i,h,m]
theorem Xp{C:bz}{pl:bf bz}(f:0<=C)(h:∀x∈pl,0<=x/\x<=C):∀w:bf Pm,0<=eh pl w/\eh pl w<=C*w.l
 | []=>#[F3 _,by simp[eh]]| none::r=>by let#[a,b]:=Xp f h r;apply#[a,?_];show eh pl r<=_;rw[C0,ED,Gy];omega| some p::r=>by
  let#[a,b]:=Xp f h r;let g:0<=pl.E (p.2-1) 0/\pl.E (p.2-1) 0<=C:=by
   rw[F4];cases e:pl[p.2-1]? with
   | none=>exact#[F3 _,f]| some x=>exact h x (K5 e)
  show 0<=_+eh pl r/\_+eh pl r<=_;rw[C0,ED,Gy];omega
def BF.few{W:br}{bs:bf gq}{rs:bf ai}{ks:bf br}{w:bf Pm}{s:br}{b:cg}(h:BF W bs rs ks w s b):0<=eh ((gS ks (aF rs)).t (qj W bs)) w+(bs.l:bz)/\eh ((gS ks (aF rs)).t (qj W bs)) w+(bs.l:bz)<=13000000:=by let l:=h.pk.yC;let#[o,n]:=Xp (C:=6000) (pl:=(gS ks (aF rs)).t (qj W bs)) ∅ (λx i=>by let#[p,j,rfl]:=D6.mp i;let#[ok,m]:=h.pk.ok p j;let f:=uU (a:=0) (pl:=D3 bs.l) (fr:=bs.l) ok.hW ok.nb p ok.ok ok.nt F0;let#[_,_,_,_,k]:=f;unfold qj iM;omega) w;let:=h.wl;omega
theorem PN:∀{ys:bf ai},(∀r∈ys,∃x o a b,r=ai.op x o a b)->aW ys=0/\bS ys=ys.l/\gL ys/\aF ys=ys
 | [],_=>#[rfl,rfl,trivial,rfl]| r::ys,h=>by
  let#[k,j,i,g]:=PN (ys:=ys) λr f=>h r (C2 _ f);let#[x,o,a,b,rfl]:=h r D0;apply#[?_,?_,#[trivial,i],?_]
  .show max 0 (aW ys)=0;omega
  .show 1+bS ys=ys.l+1;omega
  .show[ai.op x o a b]++aF ys=_;rw[g];rfl
def wq8{n s m:br}{w:bf Mv}(h:(w.foldl (λ(a:cg×br) p=>(a.1&&(decide (1<=p.2)&&decide (p.2<=n)&&(decide (p.2=1)||a.2.p (p.2-2))&&(p.1 == !d_ p.2 a.2)&&(!p.1||decide (mx n a.2<s))),xr a.2 p.2)) (dS,m)).1=dS):gh n s m w:=by
 suffices k:∀(w:bf Mv) (a:cg) (m:br),(w.foldl (λ(a:cg×br) p=>(a.1&&(decide (1<=p.2)&&decide (p.2<=n)&&(decide (p.2=1)||a.2.p (p.2-2))&&(p.1 == !d_ p.2 a.2)&&(!p.1||decide (mx n a.2<s))),xr a.2 p.2)) (a,m)).1=dS->a=dS/\gh n s m w from(k w dS m h).2;intro w;induction w with
 | nil=>exact λa m h=>#[h,trivial]| cons p w i =>
  intro a m h;rw[Tg] at h;let#[g,t]:=i _ _ h;rw[K9,K9,K9,K9,K9] at g;let#[j,#[#[#[r,q],o],l],f]:=g;apply#[j,#[#[of_decide_eq_true r,of_decide_eq_true q],?_,by simpa using l,λe=>?_],t]
  .rcases(oK _ _).mp o with h|h
   .exact .inl (of_decide_eq_true h)
   .exact .inr h
  .rw[e] at f;exact of_decide_eq_true f
def wm6{n:br}(k:5<=n)(i:n<=8):lI n n eH (((D3 n).t λj=>du (dS,j+1))++[dv]++((D3 n).t λj=>du (eH,n-j))):=by
 let key:∀n,5<=n->n<=8->gh n n 0 ((D3 n).t λj=>(dS,j+1))/\(l' 0 ((D3 n).t λj=>(dS,j+1))).p (n-1)=dS/\((D3 n).t λj=>(du (eH,n-j):Pm))=(gp ((D3 n).t λj=>(dS,j+1))).t du:=by
  intro n m l;obtain rfl|rfl|rfl|rfl:n=5\/n=6\/n=7\/n=8:=()
  all_goals exact⟨wq8 ∅,∅,∅⟩
 let#[f,h,g]:=key n k i;unfold lI;rw[cp D1];exact#[(D3 n).t λj=>(dS,j+1),(D3 n).t λj=>(dS,j+1),by rw[g,L9];rfl,f,f,rfl,h]
inductive xn:Prop
 | mk (st:fy) (_:ds=[.ref st]) (_:b9 G st) (_:∀(W:br) (bs:bf gq) (rs:bf ai) (ks:bf br) (w:bf Pm) (s:br) (b:cg) (q h g pl:fy) (f:Gp),G q=dv->q≠st->f q=du (.lst [.tup [.int (W:bz),.tup (bs.t .str),.tup (bc rs)],.ref h,.ref g,.int (s:bz),.ref pl,.bl b])->g≠st->f g=du (.lst ((nI ks).t .int))->pl≠st->f pl=du (.lst (w.t bX))->BF W bs rs ks w s b->cJ st G f->R (.ref q) f):xn
end
end Law
local macro_rules|`(tactic|simp! [$xs,*])=>do
 let a<-("-PF,Int.toNat_natCast,-jo,-ye,-GV,-fo,-Ux,-i9,-Cz,-kH,-UA,-uE,-dB,-Er,-BR,-En,-Uu,-Em,-Uy,-BS,-fK,-dC,-z9,-Sb,-iy,-jJ,-uD,-wz,-Se,-Sd,-PJ,-Xz,-Gi,-Ep,-z_,-Eo,-UB,-Uv,-wx,-sH,-Dv,-zL,-UH,-Dw,-wx1,-wx0,-yW,-wA,-GJ,-GR,-GP,-GO,-GN,-GL,-GS,-xOr,-GI,AE,lP,v33,v32,vs6,Fe,ZA,Zz,List.cons_append,List.nil_append,List.length_cons,List.length_nil,List.replicate,List.getElem?_cons_zero,List.getElem?_cons_succ,List.set_cons_zero,List.set_cons_succ,Nat.reduceAdd,Nat.reduceSub,Nat.sub_self,-ve0,-ve1,ay,Option.bind_some,Option.bind_none,id,Bool.false_eq_true,-reduceIte,true_and,and_true,decide_true,decide_false,Bool.not_true,Bool.not_false,xj2,xs2,xs1,xs0,xr9,xg3,xg2,xg1,xg5,xg4,-Um,-Ul,-Uk,-Uj,-Ui,-Uh,-Ug,-Ue,-Ud,-Uc,-xn8,-xn7,-xn6,-xn5,-xn4,-xn3,-Ua,-T',-T_,-TY,-TX,-TV,-TU,-TR,-TQ,-TN,-xn2,-xn1,-xn0,-xm9,-xm8,-xm7,-xm6,-xm5,-xm4,-xm3,-xm2,-xm1,-xm0,-xl9,-xl8,-xl7,-xl6,-xl5,-Uw".splitOn ",").toArray.mapM fun x=>do
  let i:=Lean.mkIdent (x.splitOn "-").getLast!.toName
  if x.front=='-' then `(Lean.Parser.Tactic.simpLemma|↓$i:ident) else `(Lean.Parser.Tactic.simpLemma|$i:ident)
 `(tactic|try simp only [$a,*,$xs,*])
open L3 in
set_option hygiene false in
local macro_rules|`(tactic|dsimp! [$xs,*])=>`(tactic|(simp only [Go];simp! [$xs,*]))
open PySem L2 L3 Rw in
set_option hygiene false in
local macro_rules|`(!$n:num)=>`(ev $n)
open PySem L2 L3 Rw in
set_option hygiene false in
local macro_rules|`(#v[])=>`(gX)|`(#v[$x])=>`(qJ $x gX)|`(#v[$x,$xs,*])=>`(qJ $x #v[$xs,*])
namespace Law
open PySem L2 L3 Rw
section
variable{P:hH}{w:hL}{K:eM}{mg:gq->b0 fx}{base:hR}(T:n' K mg)
def xb6{n:br}(O:n<*T.pV.1<*xv)(N:n<*T.pW.1<*xw)(M:n<*T.pX.1<*xx):n+1<*T.p_.1<*xB:=by
 apply dk T.p_.1 m7 (λ_ _ _ _ _ _ y =>
   (az (jL (Rg rfl T.cK #v[¬0]) (yY (n:=2) rfl (jv (bY 1 m7.nd) (jv (bY 2 m7.nd) za))) (az (aH (yZ (sL (w_and (lb (ek O y #v[!2,¬0])) (w_and (lb (ek N y #v[!2])) (CI (lb (ek M y #v[!2,!1,¬0]))))))) (az QC) b_))))) (λQ G R h=>?_)
 .let#[E,k,u,rfl,m,H,L,k0]:=h;simp?[E_,m];apply jO (λr p o=>uG λ(i f:bf k') (t q:b0 D)=>jX (i++f=k) (r=wo i.l (f.t k'.d)) (aj G o) (p=[du (.tup [.int (u:bz),.ref E]),t,q])) #[[],k,dv,dv,rfl,rfl,aj.j,rfl] ?_ ?_
  .intro p o #[i,f,t,q,e,A,g,rfl];exact#[by rw[g.kp _ _ m];rfl,k0 _ g]
  .rintro z r p o ⟨i,f,t,q,e,A,g,rfl⟩ J;cases f with
   | nil=>cases A
   | cons row f =>
    cases A;apply#[by rw[g.kp _ _ m];rfl,?_];let C:row∈k:=by rw[<- e];simp
    let I:k[i.l]?=du row:=by rw[<- e];simp
    simp!;apply lh (k0:=λd j=>d=.bl dS/\aj o j) (λR h=>#[row,u,rfl,H row C,λj x=>h _ _ #[rfl,x]]) ?_;rintro d j ⟨rfl,g1⟩;simp!;apply lh (k0:=λd B=>d=.bl dS/\aj j B) (λR h=>#[row,u,rfl,H row C,λj x=>h _ _ #[rfl,x]]) ?_;rintro d B ⟨rfl,g2⟩;let l:=(g.u g1).u g2;simp!;apply iD (v:=.bl dS) (G1:=B) (λR h=>#[row,i.l,E,k,rfl,l.kp _ _ m,L,I,h]) ?_;simp!;exact J _ _ #[i++[row],f,_,_,by rw[<- e,D5];rfl,by rw[B4];rfl,l,rfl]
def xb8{n:br}:n+1<*T.mn.1<*qy:=by
 apply dk T.mn.1 w46 (λ_ _ _ _ _ _ g =>
   (ar (aH (bA (k_ g) (¬0) (bh #v[aR,aR]) (by with_unfolding_all rfl)) (az (a_ (i8 (bA (aP g) (bH bF (¬0) ax) aR (ag _)) (cw #v[(bH bF (¬0) ax)]) (cw gX)))) b_)
   (ar (aH (bA (aP g) (¬0) aR (ag _)) (az (a_ (jM (N':=["cond"]) (ix:=[dv]) (iA rfl rfl rfl) (gY (¬0)) (λ_ _ _ _=>(bY 0 (show(["cond"]:bf gq).Nodup by decide))) (λ_ _ _ _=>jN) (λ_ _ _ _=>(¬0))))) b_)
   (az (a_ (i8 (bA (aP g) (¬0) aR (ag _)) (cw #v[¬0]) (cw gX))))))) (λS G R h=>?_)
 .let#[row,M,rfl,L,k0]:=h;rcases w78 row with⟨E,x,o,g,t,hw⟩|⟨x,i,C,rfl⟩|⟨x,y,rfl⟩|⟨E,x,n,k,g,t,J,u,I,Q⟩
  .simp only[t];cases o with
   | num n =>
    let e:rb row=[]:=by rcases g with rfl|rfl <;> rfl
    rw[e] at k0;simp![kZ.d,cW,C4,kU,hw];exact⟨∅,λq f=>k0 q _ f ay (aj.j.S f)⟩
   | box y =>
    let e:rb row=[(y:bz)]:=by rcases g with rfl|rfl <;> rfl
    rw[e] at k0;simp![kZ.d,cW,C4,kU,hw];exact⟨∅,λq f=>k0 q _ f ay (aj.j.S f)⟩
  .simp![k'.d,cW,C4,kU,P9,N7,Q1,P0];dsimp![cW,C4];intro p B;let O:=L.2.2.1;apply jP (λr l A=>kY λ(c1 c2:bf (br×br)) (v:b0 D)=>jX (c1++c2=C) (r=c2.t cd) (A=aC G p (.lst ((c1.t λc=>(c.1:bz)).t .int))) (l=[v])) #[[],C,dv,rfl,rfl,rfl,rfl] ?_ ?_
   .intro l A #[c1,c2,v,e,j,rfl,rfl];let u:c2=[]:=by simpa using j.M
    subst u;rw[D7] at e;subst e;exact#[trivial,k0 p _ B ay (aj.j.S B)]
   .rintro z r l A ⟨c1,c2,v,e,j,rfl,rfl⟩ H;cases c2 with
    | nil=>cases j
    | cons c c2 =>
     cases j;apply#[trivial,?_];simp![cd];apply#[?_,H _ _ #[c1++[c],c2,_,by rw[<- e,D5];rfl,rfl,?_,rfl]]
     .have:=cv J1 e;rw[B4,C0] at this;rw[B0,B0];exact C6 (m:=1000) () ∅
     .rw[gb,B7,B7];rfl
  .simp![k'.d,cW,C4,kU,P9,N7,Q1,P0];dsimp![cW,C4];dsimp![cW,C4];exact#[∅,λq f=>k0 q _ f ay (aj.j.S f)]
  .have e:rb row=[]:=by rcases g with rfl|rfl <;> rfl
   rw[e] at k0;simp only[t];simp![kU,J];dsimp![u];dsimp![I];exact⟨∅,λq f=>k0 q _ f ay (aj.j.S f)⟩
def xc2{n:br}:n+1<*T.qf.1<*tS:=by
 apply dk T.qf.1 w49 (λ_ _ _ _ _ _ B =>
   (az (a_ (i8 (bA (aP B) (¬0) aR (ag _)) (aM cn (cw #v[¬0]) (jM (N':=["cond"]) (ix:=[dv]) (iA rfl rfl rfl) (gY (¬0)) (λ_ _ _ _=>(bY 0 (show(["cond"]:bf gq).Nodup by decide))) (λ_ _ _ _=>jN) (λ_ _ _ _=>(¬0)))) (cw gX))))) (λS G R h=>?_)
 .let#[row,N,rfl,L,k0]:=h;rcases xe9 row with⟨x,i,t,rfl⟩|⟨M,rest,C,H,e⟩
  .simp![k'.d,cW,C4];apply⟨∅,λf u=>?_⟩;intro p l;let Q:=L.2.2.1;let J:aj G (aC G f (.lst [.int (i:bz)])):=aj.j.S u;let y:p≠f:=λe=>by rw[e,ay] at l;cases l
   apply jP (λr k o=>kY λ(c1 c2:bf (br×br)) (v:b0 D)=>jX (c1++c2=t) (r=c2.t cd) (o=aC (aC G f (.lst [.int (i:bz)])) p (.lst ((c1.t λc=>(c.2:bz)).t .int))) (k=[v])) #[[],t,dv,rfl,rfl,rfl,rfl] ?_ ?_
   .intro k o #[c1,c2,v,e,j,rfl,rfl];let E:c2=[]:=by simpa using j.M
    subst E;rw[D7] at e;subst e;apply#[trivial,?_];let g1:aj G (aC (aC G f (.lst [.int (i:bz)])) p (.lst ((c1.t λc=>(c.2:bz)).t .int))):=J.S l;let I:aC (aC G f (.lst [.int (i:bz)])) p (.lst ((c1.t λc=>(c.2:bz)).t .int)) f=du (.lst [.int (i:bz)]):=by rw[aA (E1 y),ay]
    simp![kU,I];apply#[by rw[B0,B0];exact D4 (m:=1000) () ∅,λq g=>k0 q _ (g1.none g) ay (g1.S g)]
   .rintro z r k o ⟨c1,c2,v,e,j,rfl,rfl⟩ A;cases c2 with
    | nil=>cases j
    | cons c c2 =>
     cases j;apply#[trivial,?_];simp![cd];apply#[?_,A _ _ #[c1++[c],c2,_,by rw[<- e,D5];rfl,rfl,?_,rfl]]
     .have:=cv J1 e;rw[B4,C0] at this;rw[B0,B0];exact C6 (m:=1000) () ∅
     .rw[gb,B7,B7];rfl
  .rw[e] at k0;simp only[C];simp![H];exact#[∅,λq g=>k0 q _ g ay (aj.j.S g)]
def x73{n:br}:n+1<*T.pq.1<*tI:=by
 apply dk T.pq.1 w35 (λ_ _ _ _ _ _ g =>
   (ar (aH (bA (k_ g) (¬0) (bh #v[aR,aR]) (by with_unfolding_all rfl)) (az (a_ (i8 (bA (aP g) (bH bF (¬0) ax) aR (ag _)) (cw #v[(bH bF (¬0) ax)]) (cw gX)))) b_)
   (az (a_ (i8 (bA (k_ g) (¬0) (bh #v[aR,aR]) (by with_unfolding_all rfl)) (cw #v[¬0]) (cw gX)))))) (λA G R h=>?_)
 .let#[row,r,rfl,C,k0]:=h;rcases w78 row with⟨l,x,o,g,j,hw⟩|⟨x,i,B,rfl⟩|⟨x,y,rfl⟩|⟨l,x,n,k,g,j,p,u,t,m⟩
  .simp only[j];cases o with
   | num n =>
    let e:hV row=[n]:=by rcases g with rfl|rfl <;> rfl
    rw[e] at k0;simp![kZ.d,cW,C4,kU,hw];exact⟨∅,λq f=>k0 q _ f ay (aj.j.S f)⟩
   | box y =>
    let e:hV row=[]:=by rcases g with rfl|rfl <;> rfl
    rw[e] at k0;simp![kZ.d,cW,C4,kU,hw];exact⟨∅,λq f=>k0 q _ f ay (aj.j.S f)⟩
  .simp![k'.d,cW,C4,kU,P9,N7,Q1,P0];dsimp![cW,C4,kU,P9,N7,Q1,P0];exact⟨∅,λq f=>k0 q _ f ay (aj.j.S f)⟩
  .simp![k'.d,cW,C4,kU,P9,N7,Q1,P0];dsimp![cW,C4,kU,P9,N7,Q1,P0];exact⟨∅,λq f=>k0 q _ f ay (aj.j.S f)⟩
  .have e:hV row=[n]:=by rcases g with rfl|rfl <;> rfl
   rw[e] at k0;simp only[j];simp![kU,p];dsimp![kU,m];exact⟨∅,λq f=>k0 q _ f ay (aj.j.S f)⟩
def xa8{n:br}(Q:n<*T.mn.1<*qy)(OD:n<*T.qf.1<*tS)(NW:n<*T.pq.1<*tI):n+1<*T.pV.1<*xv:=by
 apply dk T.pV.1 w42 (λ_ _ _ _ _ _ l =>
   (az (a_ (CA (cM WN rfl T.qm ∅ #v[(jM (N':=["box", "size"]) (ix:=[dv,du 1]) (iA rfl rfl rfl) (gY (aM cn (cw #v[¬0]) (ek Q l #v[!0]))) (λ_ _ _ _=>(bY 0 (show(["box", "size"]:bf gq).Nodup by decide))) (λ_ _ _ _=>jN) (λ_ _ _ _=>(j0 (fE) (!0) (!1) (ag _))))]) (CA (cM WN rfl T.qm ∅ #v[(jM (N':=["bit"]) (ix:=[dv]) (iA rfl rfl rfl) (gY (ek OD l #v[!0])) (λ_ _ _ _=>(bY 0 (show(["bit"]:bf gq).Nodup by decide))) (λ_ _ _ _=>jN) (λ_ _ _ _=>(j0 (fE) (!0) (zb T.Du) (ag _))))]) (AA (cM WN rfl T.qm ∅ #v[(jM (N':=["number"]) (ix:=[dv]) (iA rfl rfl rfl) (gY (ek NW l #v[!0])) (λ_ _ _ _=>(bY 0 (show(["number"]:bf gq).Nodup by decide))) (λ_ _ _ _=>jN) (λ_ _ _ _=>(j0 (fE) (!0) (zb T.iV) (ag _))))]))))))) (λds G R h=>?_)
 .let#[row,i,rfl,g,k0]:=h;let#[w0,rest,I]:=ve7 row;let lst:∀{S:fS} {j:bf bz} {G:Gp} {q:DK},(∀R,(∀a f,G a=dv->f a=du (.lst (j.t .int))->aj G f->R (.ref a) f)->S [row.d] G R)->(∀a f,G a=dv->f a=du (.lst (j.t .int))->aj G f->q (.ref a) f)->∃R,S [row.d] G R/\∀d f,R d f->q d f:=λ{S j G q} hS k =>
   lh (k0:=λd f=>∃a,d=.ref a/\G a=dv/\f a=du (.lst (j.t .int))/\aj G f) (λR h=>hS R λa f x y z=>h _ _ #[a,rfl,x,y,z]) λd f ⟨a,e,x,y,z⟩=>by subst e;exact k a f x y z
  simp only[I];simp?;rw[<- I];apply#[∅,λC X=>?_];let g0:aj G (aC G C (.lst [.int (row.x:bz)])):=aj.j.S X;refine@lst qy (rb row) _ _ (λR h=>#[row,i,rfl,g,h]) λa1 N na1 h1 g1=>?_;let LD:N C=du (.lst [.int (row.x:bz)]):=g1.kp _ _ ay;let u:=g0.u g1;simp![kU,LD,h1];apply#[by rw[B0];let:=w62 g;exact D4 (m:=1000) () ∅,λL RM=>?_];let g2:aj G (aC N L (.lst ([.int (row.x:bz)]++(rb row).t .int))):=u.S RM;simp!;intro Y A;let U:L≠Y:=λe=>by rw[<- e,ay] at A;cases A
  apply WQ (u7:=(row.x:bz)::rb row) (Ew:=(i:bz)) (λv G q h=>h) (by rw[ay];rfl) U (by rw[C0];let:=w62 g;omega) (λk hk=>?_) ?_ _
  .rcases D9.mp hk with rfl|hk
   .have:=Zn g;omega
   .exact(x42 g k hk).1
  generalize ((row.x:bz)::rb row).l=L1;let g3:=g2.S (o:=.lst (C7 L1 (.bl dS))) A;simp![QV,Xt];refine@lst tS (kh row) _ _ (λR h=>#[row,i,rfl,g,h]) λa4 G4 na4 t g4=>?_;let g5:=g3.u g4;simp![t];intro p2 J;apply WQ (u7:=kh row) (Ew:=32) (λv G q h=>h) (by rw[t];rfl) (aT t J) (by let:=vf3 g;omega) (x69 g) ?_ _;let g6:=g5.S (o:=.lst (C7 (kh row).l (.bl dS))) J;simp![QV,Xt];refine@lst tI (hV row) _ _ (λR h=>#[row,i,rfl,g,h]) λa7 G7 Z p g7=>?_;let g8:=g6.u g7;simp![p];intro p3 E;apply WQ (u7:=hV row) (Ew:=4294967296) (λv G q h=>h) (by rw[p];rfl) (aT p E) (by let:=ve8 (r:=row);omega) (x68 g) ?_ _;let g9:=g8.S (o:=.lst (C7 (hV row).l (.bl dS))) E;simp![QV,Xt];exact k0 _ g9
def xa9{n:br}(l:n<*T.mn.1<*qy):n+1<*T.pW.1<*xw:=by
 apply dk T.pW.1 w43 (λ_ _ _ _ _ _ i =>
   (az (a_ (j0 (vb6 i) (¬0) (ek l i #v[!0]) (by with_unfolding_all rfl))))) (λt G R h=>?_)
 .let#[row,m,rfl,k,k0]:=h;let#[q,rest,j]:=ve7 row;simp only[j];simp?;rw[<- j];apply lh (k0:=λd f=>∃a,d=.ref a/\G a=dv/\f a=du (.lst ((rb row).t .int))/\aj G f) (λR h=>#[row,m,rfl,k,λa f x y z=>h _ _ #[a,rfl,x,y,z]]) ?_;intro d f #[a,rfl,r,p,g];let o:decide ((row.x:bz)∈rb row)=eH:=c7 λh=>(x42 k _ h).2 rfl;simp![kU,p,Rb,o];exact k0 _ g
def xb1{n:br}:n+1<*T.pX.1<*xx:=by
 apply dk T.pX.1 rD (λ_ _ _ _ _ _ g =>
   (ar (aH (bA (vb6 g) (¬0) (bh #v[aR,aR]) (by with_unfolding_all rfl)) (az (a_ gJ)) b_)
   (ar (aN 3 rD.nd (i8 (bA (aP g) (¬0) aR (ag _)) aR aR))
   (az (a_ (CA (j0 (fE) (¬0) (cM eG rfl T.aY ∅ #v[!2]) (ag _)) (AA (j0 (aP g) (bH bF (!2) (¬0)) (bh #v[!3,¬0,¬0,!1]) (ag _))))))))) (λC G R h=>?_)
 .let#[row,p,B,j,rfl,l,m,o,k0]:=h;rcases vR row with⟨x,n,k,rfl⟩|⟨x,n,k,rfl⟩|⟨A,rest,q,u,t,y⟩
  case inr.inr =>simp only[q];simp![u,t,kU,P9,N7,Q1,P0];exact k0
  case inl =>let f:=m.go _ _ _ _ o;let i:decide ((k:bz)<((j.t k'.d).l:bz))=dS:=cA (by rw[B0];let:=oh f;omega);simp![k'.d,cW,C4,kU,P9,N7,Q1,P0];dsimp![cW,C4];dsimp![l,i,QU f,k'.d];apply#[∅,vo4 (r:=.aL x n p) rfl rfl ?_];exact k0
  case inr.inl =>let f:=m.co _ _ _ _ o;let i:decide ((k:bz)<((j.t k'.d).l:bz))=dS:=cA (by rw[B0];let:=oh f;omega);simp![k'.d,cW,C4,kU,P9,N7,Q1,P0];dsimp![cW,C4];dsimp![l,i,QU f,k'.d];apply#[∅,vo4 (r:=.go x n p) rfl rfl ?_];exact k0
def xa7{n:br}(NX:n<*T.px.1<*wX):n+1<*T.mh.1<*tO:=by
 apply dk T.mh.1 ke (λ_ _ _ _ _ _ hr =>
   (ar (aN 1 ke.nd (cw gX))
   (ar (jL (gY (!0)) (bY 2 ke.nd) (ar (aN 3 ke.nd (cM eG rfl T.aY ∅ #v[!1]))
   (az (dP (QM (!1) #v[(jM (N':=["row", "ahead"]) (ix:=[dv,du 3]) (iA rfl rfl rfl) (gY (¬2)) (λ_ _ _ _=>(bY 0 (show(["row", "ahead"]:bf gq).Nodup by decide))) (λ_ _ _ _=>jN) (λ_ _ _ _=>(ek NX hr #v[!0,!1])))])))))
   (az (a_ (bh #v[(cM w05 rfl T.ql ∅ #v[(jM (N':=["code"]) (ix:=[dv]) (iA rfl rfl rfl) (gY (!0)) (λ_ _ _ _=>(bY 0 (show(["code"]:bf gq).Nodup by decide))) (λ_ _ _ _=>jN) (λ_ _ _ _=>(¬0)))]),!1])))))) (λds G R h=>?_)
 .let#[ca,u,rfl,y,RJ,h0,LD,k0]:=h;simp!;apply#[∅,λp X=>?_];let O:ca≠p:=aT y X;let own:∀{G1:Gp} {o:DO},aj G G1->aj G (aC G1 p o):=λg=>#[λb o e=>by rw[aA (aT e X)];exact g.kp _ _ e];let f0:aC G p (.lst []) ca=du (.lst (u.t cE.d)):=by rw[aA O];exact y
  dsimp![f0];apply jO (λr j l=>Ey λ(c1 c2:bf cE) (f:bf k') (N L:b0 D)=>S_ (c1++c2=u) (r=c2.t cE.d) (jT f (c2.t cE.rs)=jT [] (u.t cE.rs)) (f.l<=6000*c1.l) (aj G l) (l p=du (.lst (f.t k'.d))) (j=[du (.ref ca),du (.ref p),N,L]))
   #[[],u,[],dv,dv,rfl,rfl,rfl,by simp,own aj.j,ay,rfl] ?_ ?_
  .intro j l #[c1,c2,f,N,L,e,i,ej,hl,g,x,rfl];let H:c2=[]:=by simpa using i.M
   subst H;let Z:f=jT [] (u.t cE.rs):=ej;apply#[by rw[g.kp _ _ y];rfl,?_];dsimp![g.kp _ _ y];intro k C;let g2:∀{o:DO},aj G (aC l k o):=g.S C;let Q:p≠k:=aT x C;apply jP (λr j A=>kY λ(I t:bf cE) (v:b0 D)=>jX (I++t=u) (r=t.t cE.d) (A=aC l k (.lst ((I.t λc=>(c.sz:bz)).t .int))) (j=[v])) #[[],u,dv,rfl,rfl,rfl,rfl] ?_ ?_
   .intro j A #[I,t,v,e,i,rfl,rfl];let H:t=[]:=by simpa using i.M
    subst H;rw[D7] at e;subst e;apply#[by rw[g2.kp _ _ y];rfl,?_];simp![GZ,FC];apply#[by rw[B0];exact h0,λM Y RS=>?_];rw[xe0 h0 Y RS];apply#[∅,k0 p _ X ?_ g2];rw[aA Q,x,Z]
   .rintro z r j A ⟨I,t,v,e,i,rfl,rfl⟩ U;cases t with
    | nil=>cases i
    | cons c t =>
     cases i;apply#[by rw[g2.kp _ _ y];rfl,?_];simp![cE.d];apply#[?_,U _ _ #[I++[c],t,_,by rw[<- e,D5];rfl,rfl,?_,rfl]]
     .have:=cv J1 e;rw[B4,C0] at this;rw[B0,B0];exact C6 (m:=20000) () ∅
     .rw[gb,B7,B7];rfl
  .rintro z r j l ⟨c1,c2,f,N,L,e,i,ej,hl,g,x,rfl⟩ U;cases c2 with
   | nil=>cases i
   | cons c c2 =>
    cases i;apply#[by rw[g.kp _ _ y];rfl,?_];let uu:c∈u:=by rw[<- e];simp
    let#[Ly,hcl]:=RJ c uu;let vV:=cv J1 e;rw[B4,C0] at vV;let J:=g.kp _ _ Ly;simp![x,B0,cE.d];dsimp![J,x];intro k C;let Q:p≠k:=aT x C;let E:c.ra≠k:=aT J C;apply jP (λr j A=>kY λ(B q:bf k') (v:b0 D)=>jX (B++q=c.rs) (r=q.t k'.d) (A=aC l k (.lst ((B.t (mv f.l)).t k'.d))) (j=[v,du (.int (f.l:bz))])) #[[],c.rs,dv,rfl,rfl,rfl,rfl] ?_ ?_
    .intro j A #[B,q,v,e,i,rfl,rfl];let H:q=[]:=by simpa using i.M
     subst H;rw[D7] at e;subst e;apply#[by rw[aA E,J];rfl,?_];let f1:aC l k (.lst ((c.rs.t (mv f.l)).t k'.d)) p=du (.lst (f.t k'.d)):=by rw[aA Q];exact x
     simp![f1];apply#[by rw[B0,B0,B0];exact D4 (m:=13000000) () ∅,?_];apply U _ _ #[c1++[c],c2,dJ f c.rs,_,_,by rw[<- e,D5];rfl,rfl,ej,?_,own (g.S C),?_,rfl]
     .rw[QK,B4,Q5];omega
     .rw[ay,dJ,B7]
    .rintro z r j A ⟨B,q,v,e,i,rfl,rfl⟩ S;cases q with
     | nil=>cases i
     | cons row q =>
      cases i;apply#[by rw[aA E,J];rfl,?_];simp!;apply iD (v:=(mv f.l row).d) (G1:=aC l k (.lst ((B.t (mv f.l)).t k'.d))) (λR h=>#[row,f.l,rfl,h]) ?_;simp!;apply#[?_,S _ _ #[B++[row],q,_,by rw[<- e,D5];rfl,rfl,?_,rfl]]
      .have:=cv J1 e;rw[B4,C0] at this;rw[B0,B0];exact C6 (m:=20000) () ∅
      .rw[gb,B7,B7];rfl
def x74{n:br}:n+1<*T.px.1<*wX:=by
 apply dk T.px.1 w36 (λ_ _ _ _ _ _ g =>
   (ar (aH (bA (k_ g) (¬0) (bh #v[aR,aR]) (by with_unfolding_all rfl)) (az (a_ (bh #v[¬0,¬0,¬0,(aM cn (¬0) (!1))]))) b_)
   (az (a_ (!0))))) (λp G R h=>?_)
 .let#[row,a,rfl,k0]:=h;rcases vR row with⟨x,n,k,rfl⟩|⟨x,n,k,rfl⟩|⟨o,rest,f,m,l,i⟩
  .have e:(k:bz)+(a:bz)=((k+a:br):bz):=()
   simp![k'.d,cW,C4,kU,P9,N7,Q1,P0,e];exact⟨∅,k0⟩
  .have e:(k:bz)+(a:bz)=((k+a:br):bz):=()
   simp![k'.d,cW,C4,kU,P9,N7,Q1,P0,e];exact⟨∅,k0⟩
  .have j:mv a row=row:=by cases row <;> first|rfl|cases i
   rw[j,f] at k0;simp only[f];simp![m,l,kU,P9,N7,Q1,P0];dsimp!;exact k0
def xc7{n:br}:n+1<*T.kF<*tV:=by
 apply dk T.kF wz7 (λ_ _ _ _ _ _ C =>
   (ar (AF T.aJ.cl T.aJ.dh (!0) (iE FA rfl T.di ∅ #v[¬1]))
   (ar (AF T.aJ.cl T.aJ.kj (!0) (iE FA rfl T.di ∅ #v[!2]))
   (az (AF T.aJ.cl T.aJ.gG (!0) (!3)))))) (λE G R h=>?_)
 .let#[p,I,H,u,B,J,s,rfl,q,A,l,k0]:=h;simp?[A];intro i j;let g:p≠i:=aT q j;let y:u≠i:=aT l j;simp?[aA g,q,cW,str_beq,C4,beq_self_eq_true,J0,P8,putD];apply#[∅,?_];let x:u≠p:=by intro e;rw[e,q] at l;cases l
  simp?[aA x,aA y,l];intro t f;let k:t≠p:=by intro e;rw[e,ay] at f;cases f
  let m:t≠i:=by intro e;rw[e,aA (E1 g),ay] at f;cases f
  rw[aA k,aA m] at f;simp?[aA (E1 k),cW,str_beq,C4,beq_self_eq_true,J0,P8,putD];apply#[∅,∅,?_];apply k0 i t _ j f #[by rw[ay];rfl,?_,?_,E1 m] λb o r e=>?_
  .rw[aA (E1 g),aA (E1 g),aA (E1 m),aA (E1 g),ay]
  .rw[aA k,aA k,ay]
  .rw[aA r,aA r,aA (aT e f),aA r,aA (aT e j)];exact e
def xc5{n:br}:n+1<*T.jj<*tU:=by
 apply dk T.jj w51 (λ_ _ _ _ _ _ i =>
   (az (a_ (jK T.aJ.cl T.aJ.gG (!0))))) (λk G R h=>?_)
 .let#[p,g,j,f,l,s,rfl,A,k0]:=h;simp?[A.ob,A.ro,lN];exact k0
def xc9{n:br}:n+1<*T.jl<*tW:=by
 apply dk T.jl w52 (λ_ _ _ _ _ _ i =>
   (az (a_ (iE FA rfl T.di ∅ #v[(jK T.aJ.cl T.aJ.kj (!0))])))) (λk G R h=>?_)
 .let#[p,g,j,f,l,s,rfl,A,k0]:=h;simp?[A.ob,A.he,lN];exact k0
def xc8{n:br}(xW:n<*T.gm<*qz)(xQ:n<*T.mj.1<*tP)(OA:n<*T.qa.1<*mC):n+1<*T.jk<*xC:=by
 apply dk T.jk rH (λ_ _ _ _ _ _ H =>
   (ar (aH (yZ (lb (nG T.aJ.cl T.gm T.Bh xW H (!0)))) (az (a_ gJ)) b_)
   (ar (aN 1 rH.nd (bH bF (jK T.aJ.cl T.aJ.dh (!0)) (jK T.aJ.cl T.aJ.gG (!0))))
   (ar (aH (sL (w_and (bA (aP H) (¬1) aR (ag _)) (CI (lb (ek xQ H #v[!1,(jK T.aJ.cl T.aJ.kj (!0))]))))) (ar (AF T.aJ.cl T.aJ.gG (!0) (aM cn (¬1) ax))
   (az (a_ gJ))) b_)
   (ar (dP (ek OA H #v[!1,(jK T.aJ.cl T.aJ.kj (!0)),ax]))
   (ar (Ql T.aJ.cl T.aJ.gG (!0) ax AL)
   (az (a_ gJ)))))))) (λds G R h=>?_)
 .let#[p,r,g,j,i,s,M,rfl,A,c,k0]:=h;let t:=A.ph;let y:=A.pr;let hl:=c.bo.len;simp?[A.ob,lN];apply iD (v:=.bl (bD j i s)) (G1:=G) (λR h=>#[p,r,g,j,i,s,M,rfl,A,c,h]) ?_;simp?;cases B:bD j i s with
  | false =>simp?;rw[B] at k0;exact k0 G (λ_=>rfl) λz=>by cases z
  | true =>
   simp?;rw[B] at k0;let Z:s<j.l:=by
    by_cases q:s<j.l
    .exact q
    .unfold bD at B;rw[M9 ()] at B;cases B
   let I:=B6 Z;let J:=c.ro _ (M4 Z);simp?[A.ob,A.ro,lN,QU I];let step:∀(row:k'),j[s]=row->row.ok M->(cf j i s=(s+1,da 1 i row))->∃o,mC [row.d,.ref g,.int 1] G o/\∀d f,o d f->∃l,f p=du (.ins de l)/\l=dH r g s/\R (.bl dS) (aC f p (.ins de (dH r g (s+1)))):=by intro row _ L E;apply lh (k0:=λd f=>d=.non/\Af g (da 1 i row) G f) (λR h=>#[row,g,M,1,i,rfl,.inl rfl,L,c.bo,A.he,λf u=>h _ _ #[rfl,u]]) ?_;rintro d f ⟨rfl,u⟩;apply#[dH r g s,by rw[u.kp p t];exact A.ob,rfl,?_];apply k0 _ (λz=>by cases z) λ_=>?_;rw[E];apply#[#[ay,by rw[aA (E1 y),u.kp r A.ne];exact A.ro,by rw[aA (E1 t)];exact u.at_,A.ne],λb N X=>by rw[aA N,u.kp b X]]
   let l':∀{row:k'} {S:D->Gp->ck},(∃o,mC [row.d,.ref g,.int 1] G o/\∀d f,o d f->∃l,f p=du (.ins de l)/\l=dH r g s/\R (.bl dS) (aC f p (.ins de (dH r g (s+1))))) ->
     (∀d f,(∃l,f p=du (.ins de l)/\l=dH r g s/\R (.bl dS) (aC f p (.ins de (dH r g (s+1)))))->S d f)->∃o,mC [row.d,.ref g,.int 1] G o/\∀d f,o d f->S d f:=λ⟨o,a,b⟩ h=>#[o,a,λd f q=>h d f (b d f q)]
   let Y:((s:bz)+1)=((s+1:br):bz):=()
   rcases xe7 j[s] with⟨x,m,k,C⟩|⟨w,rest,U,hw,E⟩
   .rw[C];rw[C] at J;simp?[k'.d,cW,C4,A.ob,lN];apply iD (v:=.bl (decide (gt i x=m))) (G1:=G) (λR h=>#[.go x m k,g,x,i,m,k,rfl,.inl rfl,A.he,by rw[hl];exact J.1,h]) ?_;simp?;apply fq (λO=>?_) (λO=>?_)
    .simp?[A.ob,lN];apply⟨WU,?_⟩;apply k0 _ (λz=>by cases z) λ_=>?_;let E:cf j i s=(k+1,i):=by unfold cf;rw[I,C];simp[O]
     rw[E];apply#[#[?_,by rw[aA (E1 y)];exact A.ro,by rw[aA (E1 t)];exact A.he,A.ne],λb N X=>aA N];rw[ay];unfold dH;rw[show((k+1:br):bz)=(k:bz)+1 by omega]
    .simp?[A.ob,lN];apply l' (row:=.go x m k) (step _ C J (by unfold cf;rw[I,C];simp[O,da])) ?_;intro d f #[l,Q,rfl,q];simp?[Q,lN,Y];exact#[WU,q]
   .simp?[U,hw,A.ob,lN];rw[<- U];apply l' (row:=j[s]) (step _ rfl J (E j i s I)) ?_;intro d f #[l,Q,rfl,q];simp?[Q,lN,Y];exact#[WU,q]
def xd0{n:br}:n+1<*T.gn<*qA:=by
 apply dk T.gn w53 (λ_ _ _ _ _ _ g =>
   (az (a_ (j0 (aP g) (jK T.aJ.cl T.aJ.gG (!0)) (cM eG rfl T.aY ∅ #v[(jK T.aJ.cl T.aJ.dh (!0))]) (ag _))))) (λk G R h=>?_)
 .let#[p,i,j,f,l,s,rfl,A,k0]:=h;simp?[A.ob,A.ro,lN,B0];let e:decide ((s:bz)=(f.l:bz))=decide (s=f.l):=by
   by_cases q:s=f.l
   .simp[q]
   .have:¬ (s:bz)=(f.l:bz):=()
    simp[q,this]
  rw[e];exact k0
def xc6{n:br}(y:n<*T.gn<*qA)(B:n<*T.mj.1<*tP):n+1<*T.gm<*qz:=by
 apply dk T.gm rG (λ_ _ _ _ _ _ j =>
   (ar (aH (lb (nG T.aJ.cl T.gn T.Bi y j (!0))) (az (a_ gJ)) b_)
   (ar (aN 1 rG.nd (bH bF (jK T.aJ.cl T.aJ.dh (!0)) (jK T.aJ.cl T.aJ.gG (!0))))
   (az (a_ (UE (CA (j0 (aP j) (¬1) aR (ag _)) (AA (ek B j #v[!1,(jK T.aJ.cl T.aJ.kj (!0))]))))))))) (λM G R h=>?_)
 .let#[p,C,o,g,i,s,L,rfl,A,c,k0]:=h;simp?[A.ob,lN];apply iD (v:=.bl (decide (s=g.l))) (G1:=G) (λR h=>#[p,C,o,g,i,s,rfl,A,h]) ?_;simp?[A.ob,lN];apply fq (λq=>?_) (λq=>?_)
  .subst q;let:bD g i g.l=eH:=by unfold bD;rw[M9 (B9 _)]
   rw[this] at k0;exact k0
  .have t:s<g.l:=by let:=c.le;omega
   let l:=B6 t;let u:=c.ro _ (M4 t);let H:=c.bo.len;unfold bD at k0;rw[l] at k0;simp?[A.ob,A.ro,lN,QU l];rcases xe8 g[s] with⟨x,m,k,I⟩|⟨w,rest,f,hw,_⟩
   .rw[I] at k0 u⊢;simp?[k'.d,cW,C4,A.ob,lN];exact iD (v:=.bl (decide (gt i x=m))) (G1:=G) (λR h=>#[.aL x m k,o,x,i,m,k,rfl,.inr rfl,A.he,by rw[H];exact u.1,h]) k0
   .have E:∀r:k',r=g[s]->R (.bl dS) G:=by
     intro r e;rw[<- e] at k0 f;cases r with
     | aL x m k=>injection f with f;injection f with f _;injection f with f;rw[<- f] at hw;exact(hw▸rfl:b8).n
     | _=>exact k0
    simp?[f,hw,cW,C4];exact E _ rfl
def xb0{n:br}:n+1<*T.mj.1<*tP:=by
 apply dk T.mj.1 w44 (λ_ _ _ _ _ _ i =>
   (az (a_ (j0 (aP i) (bH bF (!1) (¬0)) (¬0) (ag _))))) (λl G R h=>?_)
 .let#[row,a,x,o,m,k,rfl,j,g,f,k0]:=h;rcases j with rfl|rfl
  .simp?[k'.d,g,vB f];exact k0
  .simp?[k'.d,g,vB f];exact k0
def xb7{n:br}(I:n<*T.pj.1<*wW)(N:n<*T.oV.1<*wL):n+1<*T.qa.1<*mC:=by
 apply dk T.qa.1 rE (λ_ _ _ _ _ _ p =>
   (az (aH (bA (aP p) (¬0) aR (ag _)) (az (uP (aM yg (aM cn (bH bF (!1) (¬0)) (aM mL (!2) (ek I p #v[¬0,!1]))) (zb T.iV)) (AB (!1) (¬0) AH))) (az (aH (bA (aP p) (¬0) aR (ag _)) (az (uP (aM yg (aM fg (bH bF (!1) (¬0)) (aM mL (!2) (ek I p #v[¬0,!1]))) (zb T.iV)) (AB (!1) (¬0) AH))) (az (aH (bA (aP p) (¬0) aR (ag _)) (az (dP (ek N p #v[!0,!1]))) (az (aH (bA (aP p) (¬0) aR (ag _)) (ar (aN 3 rE.nd (bH bF (!1) (¬0)))
   (ar (uP (bH bF (!1) (¬0)) (AB (!1) (¬0) AH))
   (az (uP (!3) (AB (!1) (¬0) AH))))) b_))))))))) (λS G R h=>?_)
 .let#[row,a,J,s,f,rfl,M,q,j,l,k0]:=h;let r:=j.len;let E:∀y:bz,kR s y:=λy=>.inl (by rcases M with rfl|rfl <;> decide);let B:((0:bz)<4294967296)=dm:=∅;generalize t:row.d=d;cases row with
  | add x o =>
   let g:x<f.l:=by rw[r];exact q.1
   simp?[<- t,k'.d,cW,C4,l,vB g];apply iD (v:=.int (val f o)) (G1:=G) (λR h=>#[o,a,f,rfl,l,λy e=>by subst e;rw[r];exact q.2.1,h]) ?_;simp?[l,vB g,HH g,zt,E,B];exact k0 _ #[ay,λb j=>aA j]
  | take x o =>
   let g:x<f.l:=by rw[r];exact q.1
   simp?[<- t,k'.d,cW,C4,l,vB g];apply iD (v:=.int (val f o)) (G1:=G) (λR h=>#[o,a,f,rfl,l,λy e=>by subst e;rw[r];exact q.2.1,h]) ?_;simp?[l,vB g,HH g,zt,E,B];exact k0 _ #[ay,λb j=>aA j]
  | turn x i C =>simp?[<- t,k'.d,cW,C4];apply lh (k0:=λd A=>d=.non/\Af a (da 1 f (.turn x i C)) G A) (λR h=>#[x,i,C,a,J,f,rfl,q,j,l,λA u=>h _ _ #[rfl,u]]) ?_;rintro d A ⟨rfl,u⟩;exact k0 _ u
  | swap x y =>
   let g:x<f.l:=by rw[r];exact q.1
   let H:y<f.l:=by rw[r];exact q.2.1
   let L:x<(f.I x (gt f y)).l:=by rw[K2];exact g
   let Q:y<(f.I x (gt f y)).l:=by rw[K2];exact H
   simp?[<- t,k'.d,cW,C4,l,vB g,vB H,HH g,zt,HH Q,gb];exact k0 _ #[ay,λb j=>aA j]
  | go x m k =>simp?[<- t,k'.d,cW,C4];exact k0 _ #[l,λb j=>rfl]| aL x m k =>simp?[<- t,k'.d,cW,C4];exact k0 _ #[l,λb j=>rfl]
def x72{n:br}:n+1<*T.pj.1<*wW:=by
 apply dk T.pj.1 w34 (λ_ _ _ _ _ _ g =>
   (az (a_ (i8 (bA (aP g) (¬0) aR (ag _)) (bH bF (!1) (¬0)) (¬0))))) (λj G R h=>?_)
 .let#[o,a,k,rfl,i,f,k0]:=h;cases o with
  | num m =>simp?[kZ.d,cW,C4];exact k0| box y =>simp?[kZ.d,cW,C4,i,vB (f y rfl)];exact k0
def x54{n:br}:n+1<*T.oV.1<*wL:=by
 apply dk T.oV.1 rh (λ_ _ _ _ _ _ B =>
   (ar (jL (gY (¬0)) (bY 2 rh.nd) (az (aH (bA (aP B) (aM PV (aM ww1 (bH bF (!1) (¬2)) (¬2)) ax) ax (ag _)) (az wz9) b_)))
   (az (uP (aM xo0 (bH bF (!1) (¬0)) (aM CF ax (¬0))) (AB (!1) (¬0) AH))))) (λU G R h=>?_)
 .let#[x,i,g,a,L,j,rfl,I,l,p,k0]:=h;let N:=l.len;let#[M,hi,_,E]:=I;let u:x<j.l:=()
  simp?[k'.d];apply jO (λr o t=>B' λ(f:bf (br×br)) (v:b0 D)=>Ta (r=f.t cd) (∀c∈f,c∈g) (mH j g=mH j f) (t=G) (o=[du (k'.turn x i g).d,du (.ref a),v])) #[g,dv,rfl,λ_ h=>h,rfl,rfl,rfl] ?_ ?_
  .intro o t #[f,v,m,_,k,rfl,rfl];let H:f=[]:=by simpa using m.M
   subst H;apply#[trivial,?_];simp?[k'.d,p,vB u,HH u,zt,vb3];apply#[Qa () (),?_];apply k0 _ #[?_,λb l=>aA l];rw[ay];show _=du (DO.lst (EI D.int (if mH j g=dS then _ else _)));rw[k];rfl
  .rintro z r o t ⟨f,v,m,y,k,rfl,rfl⟩ A;cases f with
   | nil=>cases m
   | cons c f =>
    cases m;let#[S,Q,O]:=E c (y c D0);let J:c.1<j.l:=()
    simp?[k'.d,cd,p,vB J,vq0];apply#[(),?_];apply fq (λq=>?_) (λq=>?_)
    .apply k0 _ #[?_,λb l=>rfl];let:mH j g=eH:=by rw[k];unfold mH;rw[V7,q];rfl
     show _=du (DO.lst (EI D.int (if mH j g=dS then _ else _)));rw[this];exact p
    .apply A _ _ #[f,_,rfl,λd C=>y d (C2 _ C),?_,rfl,rfl];rw[k];unfold mH;rw[V7];simp[q]
def x67{n:br}(OH:n<*T.kF<*tV)(OG:n+1<*T.jj<*tU)(OJ:n+1<*T.jl<*tW)(OI:n+1<*T.jk<*xC)(xX:n+1<*T.gn<*qA)(xW:n+1<*T.gm<*qz)(NC:n+1<*T.oO.1<*tD):n+1+1<*T.pd.1<*wU:=by
 apply dk T.pd.1 iP (λ_ _ _ _ _ _ u =>
   (ar (aN 3 iP.nd (uC3 T.nj T.aJ.m T.LN OH u #v[!0,!1]))
   (ar (aN 4 iP.nd ax)
   (ar (QD (sL (w_and (bA (fE) (!4) (!2) (ag _)) (CI (lb (nG T.aJ.cl T.jk T.Kr OI u (!3)))))) (az (PR 4 iP.nd ax AL)))
   (ar (aN 5 iP.nd (ek NC u #v[(nG T.aJ.cl T.gn T.Bi xX u (!3)),aR,(nG T.aJ.cl T.gm T.Bh xW u (!3))]))
   (az (a_ (bh #v[!5,(nG T.aJ.cl T.jj T.Kq OG u (!3)),(nG T.aJ.cl T.jl T.Ks OJ u (!3)),!4])))))))) (λds G R h=>?_)
 .let#[c0,U,bx,f,O,most,B,rfl,H,Bs,c,hp,k0]:=h;simp!;intro p S;apply xi9 (s:=0) S H Bs λt q y nra C A1 g1=>?_;dsimp!;dsimp!;apply Q_ (λm Q i=>kY λ(k s:br) (g:bf bz)=>yL (m=most-k) (Aj dS f most 0 O k s g) (kQ B f g s) (bT de i p t q f g s) (Kept p q y i) (Q=[du (.tup [c0,.ref U]),du (.ref bx),du (.int (most:bz)),du (.ref p),du (.int (k:bz)),dv])) (m:=most)
   #[0,0,O,rfl,Aj.init,c,A1,Kept.refl,rfl] ?_
  rintro m Q i N ⟨k,s,g,em,I,M,A,X,rfl⟩ ih;let stop:∀(e:rn dS f most 0 O=(k,s,g)),Go ((fo (i9 (jo tD [] (jJ (ye de "at_end" qA [] (fK 3) iy) (jJ (dC (.str "end")) (jJ (ye de "may_forth" qz [] (fK 3) iy) iy)))) (sH 5)) (kH (uD (jJ (fK 5) (jJ (ye de "place" tU [] (fK 3) iy) (jJ (ye de "boxes" tW [] (fK 3) iy) (jJ (fK 4) iy))))))) { nx:=λ_ i=>R .non i,rt:=R}) [du (.tup [c0,.ref U]),du (.ref bx),du (.int (most:bz)),du (.ref p),du (.int (k:bz)),dv] i:=by
   intro e;dsimp![A.ob,lN];apply iD (v:=.bl (decide (s=f.l))) (G1:=i) (λR h=>#[p,t,q,f,g,s,rfl,A,h]) ?_;simp![A.ob,lN];apply iD (v:=.bl (bD f g s)) (G1:=i) (λR h=>#[p,t,q,f,g,s,B,rfl,A,M,h]) ?_;simp!;apply iD (v:=.str (GU dS f g s)) (G1:=i) (λR h=>#[_,_,_,rfl,by
    let ew:(if decide (s=f.l)=dS then("end" :gq) else if bD f g s=dS then "tired" else "torn")=GU dS f g s:=by
     unfold GU;by_cases x:s=f.l
     .rw[cA x,cu rfl];exact(cu (show s=(if dS=dS then f.l else 0) from x)).M
     .rw[c7 x,cp D1];exact(cp (show¬ s=(if dS=dS then f.l else 0) from x)).M
    rw[ew];exact h]) ?_
   dsimp![A.ob,lN];apply iD (v:=.int (s:bz)) (G1:=i) (λR h=>#[p,t,q,f,g,s,rfl,A,h]) ?_;simp![A.ob,lN];apply lh (k0:=λd r=>∃j,d=.ref j/\i j=dv/\r=aC i j (.lst (g.t .int))) (λR h=>#[p,t,q,f,g,s,rfl,A,λj e=>h _ _ #[j,rfl,e,rfl]]) ?_;intro d r #[j,rfl,E,rfl];simp!;apply#[∅,?_];let L:∀b o,G b=du o->i b=du o:=λb o e=>X.kp b o (aT e S) (aT e C) (g1.kp _ _ e);let J:G j=dv:=by
    cases ez:G j with
    | none=>rfl| some o=>rw[L j o ez] at E;cases E
   let:=k0 j (aC i j (.lst (g.t .int))) J (by rw[e];exact ay) #[λb o eb=>by rw[aA (aT (L b o eb) E)];exact L b o eb];rw[e] at this;exact this
  simp!;apply fq (λY=>?_) (λY=>stop (I.stop (.inl λz=>Y ())));simp![A.ob,lN];apply lh (k0:=λd r=>(dZ dS f g s=eH/\d=.bl eH/\r=i)\/(dZ dS f g s=dS/\d=.bl dS/\bT de r p t q f (dG dS f g s).2 (dG dS f g s).1/\∀b,b≠p->b≠q->r b=i b))
   (λR h=>#[p,t,q,f,g,s,B,rfl,A,M,λr x Z=>by
    cases l:bD f g s with
    | false=>exact h _ _ (.inl #[l,rfl,x l])| true=>exact h _ _ (.inr #[l,rfl,(Z l).1,(Z l).2])]) ?_
  rintro d r (⟨l,rfl,rfl⟩|⟨l,rfl,A2,e2⟩)
  .simp!;exact stop (I.stop (.inr l))
  .simp!;let FZ:k<most:=()
   exact ih _ _ (most-(k+1)) () #[k+1,_,_,rfl,I.step FZ l,(EY hp M l).1,A2,X.eqs e2,rfl]
def x45{n:br}:n+1<*T.oO.1<*tD:=by
 apply dk T.oO.1 w26 (λ_ _ _ _ _ _ f =>
   (ar (aH (lb (!0)) (az (a_ (!1))) b_)
   (az (a_ (i8 (lb (!2)) aR aR))))) (λg G R h=>?_)
 .let#[a,c,w,rfl,k0]:=h;cases a <;> cases c <;> (simp?;exact k0)
def x53{n:br}(J:n<*T.oS.1<*wJ):n+1<*T.oU.1<*wK:=by
 apply dk T.oU.1 rg (λ_ _ _ _ _ _ B =>
   (ar (aN 1 rg.nd (aM fg (cM eG rfl T.aY ∅ #v[¬0]) ax))
   (az (a_ (bh #v[¬0,(jM (N':=["row", "last"]) (ix:=[dv,du 1]) (iA rfl rfl rfl) (va2 rfl T.gM #v[¬0]) (λ_ _ _ _=>(bY 0 (show(["row", "last"]:bf gq).Nodup by decide))) (λ_ _ _ _=>jN) (λ_ _ _ _=>(ek J B #v[!0,!1])))]))))) (λN G R h=>?_)
 .let#[O,y,f,rfl,k,C,M,k0]:=h;simp?[k,Ct,B0];intro p q;let u:y≠p:=aT k q;let I:(f.t k'.d).ff=f.ff.t k'.d:=by rw[Tj]
  rw[I];apply jP (λr o t=>kY λ(i g:bf k') (v:b0 D)=>jX (i++g=f.ff) (r=g.t k'.d) (t=aC G p (.lst ((i.t (om f.l)).t k'.d))) (o=[v,du (.int ((f.l:bz)-1))])) #[[],f.ff,dv,rfl,rfl,rfl,rfl] ?_ ?_
  .intro o t #[i,g,v,e,l,rfl,rfl];let H:g=[]:=by simpa using l.M
   subst H;rw[D7] at e;subst e;apply#[by rw[aA u,k];rfl,?_];apply#[∅,k0 p _ q ?_ (aj.j.S q)];rw[ay,j3,Tj]
  .rintro z r o t ⟨i,g,v,e,l,rfl,rfl⟩ A;cases g with
   | nil=>cases l
   | cons row g =>
    cases l;apply#[by rw[aA u,k];rfl,?_];let x:row∈f:=s_.mp (by rw[<- e];simp);let#[j,E]:=List.getElem?_of_mem x;simp!;apply iD (v:=(om f.l row).d) (G1:=aC G p (.lst ((i.t (om f.l)).t k'.d))) (λR h=>#[row,f.l,rfl,C.lt E,h]) ?_;simp!;apply#[?_,A _ _ #[i++[row],g,_,by rw[<- e,D5];rfl,rfl,?_,rfl]]
    .have:=cv J1 e;rw[B4,C0,T6] at this;rw[B0,B0];exact C6 (m:=9000000) () ∅
    .rw[gb,B7,B7];rfl
def x52{n:br}:n+1<*T.oS.1<*wJ:=by
 apply dk T.oS.1 w29 (λ_ _ _ _ _ _ f =>
   (ar (aH (bA (aP f) (¬0) aR (ag _)) (az (a_ (bh #v[aR,¬0,¬0]))) b_)
   (ar (aH (bA (aP f) (¬0) aR (ag _)) (az (a_ (bh #v[aR,¬0,¬0]))) b_)
   (ar (aH (bA (aP f) (¬0) aR (ag _)) (az (a_ (bh #v[aR,¬0,¬0,(aM fg (!1) (¬0))]))) b_)
   (ar (aH (bA (aP f) (¬0) aR (ag _)) (az (a_ (bh #v[aR,¬0,¬0,(aM fg (!1) (¬0))]))) b_)
   (az (a_ (!0)))))))) (λj G R h=>?_)
 .let#[row,m,rfl,g,k0]:=h;cases row with
  | add x o =>simp?[k'.d,cW,C4];exact#[∅,k0]| take x o =>simp?[k'.d,cW,C4];exact#[∅,k0]| turn x i l =>simp?[k'.d,cW,C4];exact k0| swap x y =>simp?[k'.d,cW,C4];exact k0| go x n k =>
   let:=g x n k (.inl rfl);let e:(m:bz)-1-(k:bz)=((m-1-k:br):bz):=()
   simp?[k'.d,cW,C4,e];exact#[∅,k0]
  | aL x n k =>
   let:=g x n k (.inr rfl);let e:(m:bz)-1-(k:bz)=((m-1-k:br):bz):=()
   simp?[k'.d,cW,C4,e];exact#[∅,k0]
def xd4{n:br}:n+1<*T.my<*xE:=by
 apply dk T.my w56 (λ_ _ _ _ _ _ l =>
   (ar (AF T.au.cl T.au.ki (!0) (!1))
   (ar (AF T.au.cl T.au.jS (!0) (!2))
   (ar (AF T.au.cl T.au.dh (!0) (cw gX))
   (az (AF T.au.cl T.au.sU (!0) ax)))))) (λq G R h=>?_)
 .let#[p,W,m,rfl,k,k0]:=h;simp![k,FN,cW,str_beq,C4,beq_self_eq_true,J0,P8,putD];apply#[∅,?_];dsimp![ay,FN,cW,str_beq,C4,beq_self_eq_true,J0,P8,putD];apply#[∅,?_];dsimp![ay,FN,cW,str_beq,C4,beq_self_eq_true,J0,P8,putD];apply#[∅,λj f=>?_];rw[gb] at f;let g:p≠j:=aT ay f;rw[aA (E1 g)] at f;simp![gb,aA g,ay,FN,cW,str_beq,C4,beq_self_eq_true,J0,P8,putD];apply#[∅,?_];dsimp![ay,FN,cW,str_beq,C4,beq_self_eq_true,J0,P8,putD];apply#[∅,?_];apply k0 j _ f #[by rw[ay];rfl,?_] λb o i e=>?_
  .rw[aA (E1 g),aA (E1 g),ay];rfl
  .rw[aA i,aA i,aA (aT e f),aA i];exact e
def xd5{n:br}:n+1<*T.bL<*eF:=by
 apply dk T.bL w57 (λ_ _ _ _ _ _ k =>
   (ar (Ql T.au.cl T.au.jS (!0) ax AL)
   (az (a_ (aM fg (jK T.au.cl T.au.jS (!0)) ax))))) (λm G R h=>?_)
 .let#[p,j,W,f,g,st,rfl,A,k0]:=h;simp![A.ob,aI];apply#[WY,?_];rw[show((f:bz)+1)=((f+1:br):bz) by omega,aI.2.2.2.2.2.2.2.2.1];dsimp![ay,aI];rw[show(((f+1:br):bz)-1)=(f:bz) by omega];exact k0 _ #[ay,by rw[aA (E1 A.pr)];exact A.ro] λb o i l e=>by rw[aA i];exact e
def xd3{n:br}:n+1<*T.bU<*eE:=by
 apply dk T.bU w55 (λ_ _ _ _ _ _ t =>
   (ar (dP (QM (jK T.au.cl T.au.dh (!0)) #v[!1]))
   (az (Ql T.au.cl T.au.sU (!0) (cM eG rfl T.aY ∅ #v[!1]) AL)))) (λx G R h=>?_)
 .let#[p,r,q,W,u,f,new,st,rfl,A,g,k,j,i,k0]:=h;simp![A.ob,A.ro,aI,g];apply#[by rw[B0,B0];exact D4 (m:=20000) () ∅,?_];let l:((new.t k'.d).l<=iZ)=dm:=eq_true (by rw[B0];exact D4 (m:=20000) () ∅);dsimp![aA A.pr,A.ob,aI,aA k,g,l,B0];rw[show((st:bz)+(new.l:bz))=((st+new.l:br):bz) by omega];apply#[WY,?_];rw[aI.2.2.2.2.2.2.2.2.2];apply k0 _ #[ay,by rw[aA (E1 A.pr),ay,B7]] λb o j i e=>by rw[aA j,aA i];exact e
def xd2{n:br}(X:n<*T.iq<*tX):n+1<*T.jm<*xD:=by
 apply dk T.jm w54 (λ_ _ _ _ _ _ O =>
   (ar (dP (em T.au.cl T.iq T.Bj X O (!0) #v[!1,ax,!2]))
   (ar (dP (em T.au.cl T.iq T.Bj X O (!0) #v[!1,ax,!3]))
   (az (Ql T.au.cl T.au.sU (!0) (aM cn (cM eG rfl T.aY ∅ #v[!2]) ax) AL))))) (λds G R h=>?_)
 .let#[p,i,q1,q2,W,B,t,f,j,ns,st,rfl,A,J,N,I,M,r,u,h3,k0]:=h;let C:∀{G:Gp} {q:fy} {n:bz} {f new:bf k'} {Q:DK},av bM G p i W B f st->G q=du (.lst (new.t k'.d))->q≠i->f.l<=9000->new.l<=1000->(∀g,av bM g p i W B (f++(.go t n (f.l+new.l+1)::(new++[.aL t n f.l]))) st->cP p i G g->Q .non g)->∃R,tX [.ref p,.int (t:bz),.int n,.ref q] G R/\∀d g,R d g->Q d g:=λA hq Z r u k =>
   lh (k0:=λd g=>d=.non/\av bM g p i W B _ st/\cP p i _ g) (λR h'=>#[p,i,_,W,B,t,_,_,_,st,rfl,A,hq,Z,r,u,λg x y=>h' _ _ #[rfl,x,y]]) λd g ⟨e,x,y⟩=>by subst e;exact k g x y
  let H:∀{G:Gp} {q:fy} {l:bf k'} {f:bf k'},av bM G p i W B f st->G q=du (.lst (l.t k'.d))->q≠p:=λA k z=>by rw[z,A.ob] at k;cases k
  simp![A.ob,aI];apply C A J I () () λG1 E L=>?_;let KC:=L _ _ (H A N) M N;let U:=L _ _ (H A J) I J;simp![E.ob,aI];dsimp![E.ob,aI];apply C E KC M (by rw[B4,C0,B4];show f.l+(j.l+1+1)<=9000;omega) () λG2 Y S=>?_;let ZO:=S _ _ (H E U) I U;let l2:((j.t k'.d).l<=iZ)=dm:=eq_true (by rw[B0];exact D4 (m:=3000) () ∅);simp!;dsimp![Y.ob,aI,ZO,l2,B0];apply#[WY,?_];rw[show((st:bz)+((j.l:bz)+3))=((st+(j.l+3):br):bz) by omega,aI.2.2.2.2.2.2.2.2.2];apply k0 _ #[ay,?_] λb o r u e=>by rw[aA r];exact S b o r u (L b o r u e)
  rw[aA (E1 A.pr),Y.ro];let e3:(f++(k'.go t 0 (f.l+j.l+1)::(j++[.aL t 0 f.l]))).l=f.l+(j.l+2):=by rw[B4,C0,B4];rfl
  rw[e3,D5];rfl
def xd1{n:br}:n+1<*T.iq<*tX:=by
 apply dk T.iq rJ (λ_ _ _ _ _ _ H =>
   (ar (aN 4 rJ.nd (cM eG rfl T.aY ∅ #v[(jK T.au.cl T.au.dh (!0))]))
   (ar (dP (mM (jK T.au.cl T.au.dh (!0)) #v[(bh #v[aR,!1,!2,(aM cn (aM cn (!4) (cM eG rfl T.aY ∅ #v[!3])) ax)])]))
   (ar (dP (QM (jK T.au.cl T.au.dh (!0)) #v[!3]))
   (az (dP (mM (jK T.au.cl T.au.dh (!0)) #v[(bh #v[aR,!1,!2,!4])]))))))) (λJ G R h=>?_)
 .let#[p,E,q,W,I,x,n,f,new,st,rfl,A,k,r,y,l,k0]:=h;let u:((f.t k'.d).l<=iZ)=dm:=eq_true (by rw[B0];exact D4 (m:=20000) () ∅);let t:((new.t k'.d).l<=iZ)=dm:=eq_true (by rw[B0];exact D4 (m:=20000) () ∅);simp![A.ob,A.ro,aI,u];dsimp![A.ob,A.ro,aI,k,t];apply#[∅,by rw[B0];exact C6 (m:=20000) () ∅,?_];let C:(f.t k'.d++[D.tup [D.str "go",.int (x:bz),.int n,.int (((f.t k'.d).l:bz)+((new.t k'.d).l:bz)+1)]])=(f++[k'.go x n (f.l+new.l+1)]).t k'.d:=by rw[B7,B0,B0];rfl
  rw[C];obtain⟨g,i⟩:∃g,g=f++[k'.go x n (f.l+new.l+1)]:=#[_,rfl];let L:g.l=f.l+1:=by rw[i,B4];rfl
  rw[<- i];dsimp![aA A.pr,A.ob,aI,ay,aA r,k];apply#[by rw[B0,B0];exact D4 (m:=20000) () ∅,?_];rw[<- B7];dsimp![aA A.pr,A.ob,aI,ay];apply#[∅,by rw[B0,B4];exact C6 (m:=20000) () ∅,?_];rw[gb,gb];apply k0 _ #[by rw[aA A.pr];exact A.ob,?_] λb o y l e=>by rw[aA l];exact e
  rw[ay,i];let B:f++(k'.go x n (f.l+new.l+1)::(new++[.aL x n f.l]))=(f++[k'.go x n (f.l+new.l+1)]++new)++[k'.aL x n f.l]:=by simp
  rw[B,B7 (l₁:=f++[k'.go x n (f.l+new.l+1)]++new),B0];rfl
def x49{n:br}(OM:n<*T.my<*xE)(tZ:n+1<*T.ie.1<*xj8):n+1+1<*T.lY.1<*tE:=by
 apply dk T.lY.1 mQ (λ_ _ _ _ _ _ A =>
   (ar (aN 5 mQ.nd (emk T.nk T.au.m OM A #v[!2,!4]))
   (ar (aN 6 mQ.nd (vm4 A rfl T.wC rfl T.gN #v[!1,!3]))
   (ar (dP (ek tZ A #v[!0,!6,!5]))
   (az (a_ (bh #v[(jK T.au.cl T.au.dh (!5)),(jM (N':=["name", "where"]) (ix:=[dv,du 6]) (iA rfl rfl rfl) (gY (!1)) (λ_ _ _ _=>(bY 0 (show(["name", "where"]:bf gq).Nodup by decide))) (λ_ _ _ _=>jN) (λ_ _ _ _=>(zc A (!1) (!0)))),(jK T.au.cl T.au.jS (!5)),(jK T.au.cl T.au.sU (!5))]))))))) (λds G R h=>?_)
 .let#[pc,pa,W,i,f,g,u,rfl,U,Lc,J,hb,I,A,hs,jh,hsz,hW,k0]:=h;simp!;intro p Y;let g0:aj G (aC G p (.ins bM [])):=aj.j.S Y;apply lh (k0:=λd k=>d=.non/\∃j,G j=dv/\j≠p/\av bM k p j W i [] 0/\aj G k) (λR h=>#[p,W,i,rfl,ay,λj k x1 x2 x3=>h _ _ #[rfl,j,g0.none x1,E1 (aT ay x1),x2,#[λb o e=>x3 b o (aT e Y) (g0.kp _ _ e)]]]) ?_;intro d M #[rfl,j,O,Zr,A1,g1];apply#[rfl,?_];let DN:=g1.kp _ _ Lc;let uE4:=g1.kp _ _ U;let Z:(f.t Y6).t kD=f.t D.str:=by rw[L9];rfl
  dsimp![XZ];apply#[f.t Y6,g.t nD,by rw[Z];rfl,by show bt (M pa)=_;rw[DN];rfl,by rw[B0,B0];exact J.M,by rw[B0];omega,λq ZX=>?_];rw[v87 J I];let g2:aj G (aC M q (.bR (bN f g))):=g1.S ZX;let A2:=A1.S (o:=.bR (bN f g)) ZX;let fwa:G q=dv:=g1.none ZX;dsimp!;apply lh (k0:=λd k=>d=.non/\av bM k p j W (bB W f u 0 g i).2.2.1 (bB W f u 0 g i).1 (bB W f u 0 g i).2.2.2/\k q=du (.bR (bN f (bB W f u 0 g i).2.1))/\(∀b o,b≠p->b≠j->b≠q->aC M q (.bR (bN f g)) b=du o->k b=du o)) (λR h=>#[.ref pc,p,j,q,W,i,f,g,[],0,u,rfl,A2,ay,by show bt (aC M q (.bR (bN f g)) pc)=_;rw[g2.kp _ _ U];rfl,λz=>aT U O (D.ref.inj z),J,hb,I,A,hs,C6 jh ∅,by show 0+22*cC u<=3960;omega,hW,λk x y z=>h _ _ #[rfl,by rw[J6,L6] at x;exact x,y,z]]) ?_;intro d G3 #[rfl,A3,w3,f3];let g3:aj G G3:=#[λb o e=>f3 b o (aT e Y) (aT e O) (aT e fwa) (g2.kp _ _ e)];simp!;dsimp![A3.ob,aI];intro p1 H;let B:(bB W f u 0 g i).2.1.l=f.l:=(uU hW hb u (a:=0) (fr:=i) A hs J).2.2.2.1;generalize hX:bB W f u 0 g i=X at *;let#[new,Zk,f3',uE1]:=X;apply jP (λr N k=>kY λ(l t:bf gq) (S:b0 D)=>jX (l++t=f) (r=t.t D.str) (k=aC G3 p1 (.lst ((l.t (mE f Zk)).t nD))) (N=[S,du (.ref q)])) #[[],f,dv,rfl,rfl,rfl,rfl] ?_ ?_
  .intro N G4 #[l,t,S,C,L,rfl,rfl];let ht:t=[]:=by simpa using L.M
   subst ht;rw[D7] at C;subst C;apply#[trivial,?_];let A4:=A3.S (o:=.lst ((l.t (mE l Zk)).t nD)) H;simp![A4.ob,aI];rw[XG I B];rw[XG I B] at A4;apply#[∅,k0 j p1 _ O (g3.none H) ?_ A4.ro ay (g3.S H)];exact aT A3.ro H
  .rintro z t N G4 ⟨l,t,S,C,L,rfl,rfl⟩ ih;cases t with
   | nil=>cases L
   | cons Q t =>
    cases L;apply#[trivial,?_];let hm:Q∈f:=by rw[<- C];simp
    let E:=cv J1 C;rw[B4,C0] at E;simp![yd];apply#[q,bN f Zk,.inr Q,_,rfl,rfl,by rw[aA (aT w3 H)];exact w3,zi hm B,?_];simp![ay];apply#[C6 (m:=1000) (by rw[B0,B0];omega) ∅,ih _ _ #[l++[Q],t,_,by rw[<- C];simp,rfl,?_,rfl]];rw[gb,B7,B7];rfl
def x47{n dp:br}(NF:n<*T.oQ.1<*nK dp)(qD:n<*T.l_.1<*qw)(ND:n<*T.oP.1<*wI):n+1<*T.ie.1<*fT (dp+1):=by
 apply dk T.ie.1 j7 (λ_ _ _ _ _ _ hr =>
   (az (jL (gY (!0)) (bY 3 j7.nd) (az (aH (bA (aP hr) (¬3) aR (ag _)) (az (QB hr (!1) (¬3) (ek qD hr #v[¬3,!1,!2]))) (az (aH (bA (aP hr) (¬3) aR (ag _)) (ar (aN 4 j7.nd (ek qD hr #v[¬3,!1,!2]))
   (ar (aN 5 j7.nd (ek qD hr #v[¬3,!1,!2]))
   (az (QB hr (!1) (¬3) (ek ND hr #v[¬3,!4,!5,!2]))))) (az (dP (ek NF hr #v[!3,!1,!2])))))))))) (λds G R h=>?_)
 .let#[d,p,C,u,W,H,i,pl,g,st,rs,rfl,A,hw,Q,nd,hl,hb,hn,aB,Lk,jh,hsz,S,k0]:=h;let L:u≠p:=λz=>by rw[z,A.ob] at hw;cases hw
  let J:u≠C:=λz=>by rw[z,A.ro] at hw;cases hw
  let kd:∀M:Gp,(∀b o,b≠p->b≠C->b≠u->G b=du o->M b=du o)->uW M d=du (bc rs):=by
   intro M f;cases d with
   | tup ds=>exact Q| ref a =>
    let zY:bt (G a)=du (bc rs):=Q;cases e:G a with
    | none=>rw[e] at zY;cases zY
    | some o =>
     let n1:a≠p:=λz=>by rw[z,A.ob] at zY;cases zY
     let n2:a≠C:=λz=>nd (by rw[z]);let n3:a≠u:=λz=>by rw[z,hw] at zY;cases zY
     show bt (M a)=_;rw[f a o n1 n2 n3 e,<- e];exact zY
   | _=>exact cz Q (by simp[uW])
  apply w80 Q rfl λok iY=>?_;apply jO (λr σ M=>Ey λ(l t:bf ai) (Z Y U:b0 D)=>yL (l++t=rs) (r=bc t) (av bM M p C W (bB W i l g.l pl H).2.2.1 (g++(bB W i l g.l pl H).1) (st+(bB W i l g.l pl H).2.2.2)) (M u=du (.bR (bN i (bB W i l g.l pl H).2.1))) (∀b o,b≠p->b≠C->b≠u->G b=du o->M b=du o) (σ=[du d,du (.ref u),du (.ref p),Z,Y,U])) #[[],rs,dv,dv,dv,rfl,rfl,by show av bM G p C W H (g++[]) (st+0);rw[D7];exact A,hw,λ_ _ _ _ _ e=>e,rfl] ?_ ?_
  .rintro σ G1 ⟨l,t,Z,Y,U,e,e2,A1,B,f1,rfl⟩;let ht:t=[]:=by
    cases t with
    | nil=>rfl| cons x t=>cases e2
   subst ht;rw[D7] at e;subst e;exact#[iY _ (kd _ f1),k0 G1 A1 B f1]
  .rintro z r σ G1 ⟨l,t,Z,Y,U,e,e2,A1,B,f1,rfl⟩ ih;cases t with
   | nil=>cases e2
   | cons E t =>
    cases e2;apply#[iY _ (kd _ f1),?_];let hm:E∈rs:=by rw[<- e];simp
    let DR:=w70 aB hm;let DV:=w71 Lk hm;let oI:=Ho (Ts jh) E hm;let N:=v25 (W:=W) (bs:=i) l (r:=E) (a:=g.l) (pl:=pl) (fr:=H);let KR:cC rs=cC l+(qY E+cC t):=by rw[<- e,Ft];rfl
    let DU:dF W i l:=by rw[<- e] at aB;exact(cN.mp aB).1
    let hnL:gf l:=by rw[<- e] at Lk;exact(fP.mp Lk).1
    let hle:=uU S hb l (a:=g.l) (fr:=H) DU hnL hl;generalize hX:bB W i l g.l pl H=X at *;let#[xr,q,j,xs]:=X;obtain⟨q1,q2,q3,O,q5⟩:xr.l<=22*cC l/\j<=H+9*cC l/\H<=j/\q.l=i.l/\xs<=22*cC l:=hle;let A1:av bM G1 p C W j (g++xr) (st+xs):=A1;let B:G1 u=du (.bR (bN i q)):=B;let jB:(g++xr).l=g.l+xr.l:=B4;let ld:(bN i q).l<iZ:=C6 (m:=1000) (by let:=HI i q;(omega)) ∅;let N:bB W i (l++[E]) g.l pl H=(xr++(cQ W i E (g.l+xr.l) q j).1,(cQ W i E (g.l+xr.l) q j).2.1,(cQ W i E (g.l+xr.l) q j).2.2.1,xs+(cQ W i E (g.l+xr.l) q j).2.2.2):=N;generalize Bu:forL ok _ _ _ (bc t)=FL at ih⊢;let m9:∀(I:Gp) (Z Y U:b0 D),av bM I p C W (cQ W i E (g.l+xr.l) q j).2.2.1 (g++xr++(cQ W i E (g.l+xr.l) q j).1) (st+xs+(cQ W i E (g.l+xr.l) q j).2.2.2)->I u=du (.bR (bN i (cQ W i E (g.l+xr.l) q j).2.1))->(∀b o,b≠p->b≠C->b≠u->G1 b=du o->I b=du o)->FL [du d,du (.ref u),du (.ref p),Z,Y,U] I:=λI Z Y U B1 B2 B3 =>
     ih _ _ #[l++[E],t,Z,Y,U,by rw[<- e];simp,rfl,by rw[N,<- D5,<- K6];exact B1,by rw[N];exact B2,λb o h1 h2 h3 e=>B3 b o h1 h2 h3 (f1 b o h1 h2 h3 e),rfl]
    let l':∀(I:Gp) (Z Y U:b0 D) (x:gq) (b f2:br) (new:bf k'),av bM I p C W f2 (g++xr++new) (st+xs+new.l)->cP p C G1 I->x∈i->cQ W i E (g.l+xr.l) q j=(new,fh i q x b,f2,new.l)->FL [du d,du (.ref u),du (.ref p),Z,Y,U] (aC I u (.bR (oi (bN i q) (.inr x) (.int (b:bz))))):=by
     intro I Z Y U x b f2 new A2 a2 hx ev;rw[Yw hx hn O];apply m9 _ _ _ _ ?_ ?_ λc o h1 h2 h3 e=>?_
     .rw[ev];exact#[by rw[aA (E1 L)];exact A2.ob,by rw[aA (E1 J)];exact A2.ro]
     .rw[ay,ev]
     .rw[aA h3];exact a2 c o h1 h2 e
    cases E with
    | is x a =>obtain⟨hx,ha⟩:x∈i/\lq W i a:=DR;let iG:qY (.is x a)=1:=rfl;simp![df,GW];apply Qs A1 B O ha (by(omega)) λI A2 a2=>?_;simp!;apply#[u,bN i q,.inr x,rfl,rfl,a2 _ _ L J B,ld,?_];exact l' I _ _ _ x _ _ _ A2 a2 hx rfl
    | op x o a c =>obtain⟨hx,ho,ha,hc⟩:x∈i/\o∈L3.signs/\lq W i a/\lq W i c:=DR;let iG:qY (.op x o a c)=1:=rfl;let d1:(C5 "op" = C5 "is")=b8:=c_ ∅;simp![df,d1];apply Qs A1 B O ha (by(omega)) λI A2 a2=>?_;let Bm:=a2 _ _ L J B;let la:=qW (fr:=j) a;let lc:=qW (fr:=bq j a) c;simp!;dsimp!;apply Qs A2 Bm O hc (by rw[B4];(omega)) λG3 A3 a3=>?_;let hw3:=a3 _ _ L J Bm;simp!;dsimp![GW];apply bV #[o,ho,p,C,W,bq (bq j a) c,fO i q j a,fO i q (bq j a) c,_,_,rfl,A3,S,by rw[B4,B4];(omega),λG4 A4 a4=>?_];simp!;apply#[u,bN i q,.inr x,rfl,rfl,a4 _ _ L J hw3,ld,?_];apply l' G4 _ _ _ x _ _ _ ?_ (a2.u (a3.u a4)) hx rfl;show av bM G4 p C W (oo (bq (bq j a) c) o) (g++xr++(dQ j a++dQ (bq j a) c++gR W (fO i q j a) (fO i q (bq j a) c) (bq (bq j a) c) o)) (st+xs+(dQ j a++dQ (bq j a) c++gR W (fO i q j a) (fO i q (bq j a) c) (bq (bq j a) c) o).l);rw[show g++xr++(dQ j a++dQ (bq j a) c++gR W (fO i q j a) (fO i q (bq j a) c) (bq (bq j a) c) o)=g++xr++dQ j a++dQ (bq j a) c++gR W (fO i q j a) (fO i q (bq j a) c) (bq (bq j a) c) o by simp[D5],B4,B4,<- K6,<- K6];exact A4
    | e_ a ys ns =>let d1:(C5 "choose" = C5 "is")=b8:=c_ ∅;let d2:(C5 "choose" = C5 "op")=b8:=c_ ∅;let lC:1+max (aW ys) (aW ns)<=dp:=oI;simp![df,d1,d2];apply lh (k0:=λd M=>d=.non/\av bM M p C W (cQ W i (.e_ a ys ns) (g.l+xr.l) q j).2.2.1 (g++xr++(cQ W i (.e_ a ys ns) (g.l+xr.l) q j).1) (st+xs+(cQ W i (.e_ a ys ns) (g.l+xr.l) q j).2.2.2)/\M u=du (.bR (bN i (cQ W i (.e_ a ys ns) (g.l+xr.l) q j).2.1))/\∀b o,b≠p->b≠C->b≠u->G1 b=du o->M b=du o) (λR h'=>#[p,C,u,W,j,i,q,g++xr,st+xs,a,ys,ns,rfl,A1,B,O,hb,hn,DR,DV,by(omega),by(omega),by(omega),S,λM x y z=>h' _ _ #[rfl,by rw[jB] at x;exact x,by rw[jB] at y;exact y,z]]) ?_;intro d I #[rfl,A2,w2,f2];simp!;exact m9 I _ _ _ A2 w2 f2
    | fN k ys=>exact DV.n
def x48{n dp:br}(cB:n<*T.bL<*eF)(OL:n<*T.jm<*xD)(tZ:n<*T.ie.1<*fT dp)(qD:n<*T.l_.1<*qw)(NL:n<*T.oW.1<*wM):n+1<*T.oQ.1<*nK dp:=by
 apply dk T.oQ.1 gx (λ_ _ _ _ _ _ hr =>
   (ar (aN 3 gx.nd (iE Yp rfl T.gN ∅ #v[!1]))
   (ar (dP (ek tZ hr #v[¬0,!3,!2]))
   (ar (aN 4 gx.nd (iE Yp rfl T.gN ∅ #v[!1]))
   (ar (dP (ek tZ hr #v[¬0,!4,!2]))
   (ar (aN 5 gx.nd (ek NL hr #v[(ek qD hr #v[¬0,!1,!2]),!2]))
   (ar (dP (xr2 (!1) (!3)))
   (ar (Xl 6 gx.nd (N':=["name", "yes", "no"]) (ix:=[dv,du 3,du 4]) (iA rfl rfl rfl) (wr5 (!3)) (λ_ _ _ _=>(bY 0 (show(["name", "yes", "no"]:bf gq).Nodup by decide))) (λ_ _ _ _=>(XD (bA (mI hr) (vm5 hr (!1) (!0)) (zc hr (!2) (!0)) (ag _)))) (λ_ _ _ _=>(!0)))
   (ar (jL (gY (!6)) (bY 7 gx.nd) (az (QB hr (!1) (!7) (nG T.au.cl T.bL T.eZ cB hr (!2)))))
   (az (dP (em T.au.cl T.jm T.Kt OL hr (!2) #v[!5,(jM (N':=["name", "where", "yes"]) (ix:=[dv,du 1,du 3]) (iA rfl rfl rfl) (gY (!6)) (λ_ _ _ _=>(bY 0 (show(["name", "where", "yes"]:bf gq).Nodup by decide))) (λ_ _ _ _=>jN) (λ_ _ _ _=>(bh #v[aR,(zc hr (!1) (!0)),(bh #v[aR,(vm5 hr (!2) (!0))])]))),(jM (N':=["name", "where", "no"]) (ix:=[dv,du 1,du 4]) (iA rfl rfl rfl) (gY (!6)) (λ_ _ _ _=>(bY 0 (show(["name", "where", "no"]:bf gq).Nodup by decide))) (λ_ _ _ _=>jN) (λ_ _ _ _=>(bh #v[aR,(zc hr (!1) (!0)),(bh #v[aR,(zc hr (!2) (!0))])])))])))))))))))) (λds G R h=>?_)
 .let#[p,rp,wa,W,fr,bs,pl,rows,st,c,ys,ns,rfl,A,hw,hl,hb,hn,aB,Lk,rZ,oJ,hsz,hW,k0]:=h;obtain⟨hc,oky,okn⟩:lq W bs c/\dF W bs ys/\dF W bs ns:=aB;obtain⟨nty,ntn⟩:gf ys/\gf ns:=Lk;let hsz:rows.l+22*(1+cC ys+cC ns)<=3960:=hsz;let eJ:wa≠p:=λz=>by rw[z,A.ob] at hw;cases hw
  let fH:wa≠rp:=λz=>by rw[z,A.ro] at hw;cases hw
  let hyl:=uU hW hb ys (a:=rows.l) (fr:=fr) oky nty hl;simp![df];apply#[wa,_,rfl,hw,λpy lu=>?_];let nX:py≠p:=E1 (aT A.ob lu);let nW:py≠rp:=E1 (aT A.ro lu);let nV:py≠wa:=E1 (aT hw lu);dsimp!;apply bV #[.tup (bc ys),p,rp,py,W,fr,bs,pl,rows,st,ys,rfl,A.S lu,ay,rfl,by simp,hl,hb,hn,oky,nty,rZ,by(omega),hW,λG2 A2 y2 f2=>?_];let sj:∀b o,b≠p->b≠rp->G b=du o->G2 b=du o:=λb o h1 h2 e=>f2 b o h1 h2 (aT e lu) (by rw[aA (aT e lu)];exact e);let w2:=sj _ _ eJ fH hw;let fJ:∀{N:bf k'×bf br×br×br},bB W bs ns (rows.l+(bB W bs ys rows.l pl fr).1.l) pl (bB W bs ys rows.l pl fr).2.2.1=N->cQ W bs (.e_ c ys ns) rows.l pl fr=((bB W bs ys rows.l pl fr).1++N.1++dQ N.2.2.1 c++[k'.take (bq N.2.2.1 c) (.box (fO bs pl N.2.2.1 c)),k'.turn (bq N.2.2.1 c+1) 0 [(bq N.2.2.1 c,31)]]++uF (rows.l+((bB W bs ys rows.l pl fr).1++N.1++dQ N.2.2.1 c++[k'.take (bq N.2.2.1 c) (.box (fO bs pl N.2.2.1 c)),k'.turn (bq N.2.2.1 c+1) 0 [(bq N.2.2.1 c,31)]]).l) (bq N.2.2.1 c+1) (jQ (bq N.2.2.1 c+2) (uY (bB W bs ys rows.l pl fr).2.1 N.2.1)) (jQ (bq N.2.2.1 c+2) (uN (bB W bs ys rows.l pl fr).2.1 N.2.1)),gU (bq N.2.2.1 c+2) (bB W bs ys rows.l pl fr).2.1 N.2.1,bq N.2.2.1 c+2+(uY (bB W bs ys rows.l pl fr).2.1 N.2.1).l,(bB W bs ys rows.l pl fr).2.2.2+N.2.2.2+(dQ N.2.2.1 c).l+2+((uY (bB W bs ys rows.l pl fr).2.1 N.2.1).l+3)):=λe=>by subst e;rfl
  generalize hY:bB W bs ys rows.l pl fr=Y at *;let#[yr,yp,yf,qG]:=Y;obtain⟨l1,l2,l3,l4,l5⟩:yr.l<=22*cC ys/\yf<=fr+9*cC ys/\fr<=yf/\yp.l=bs.l/\qG<=22*cC ys:=hyl;let A2:av bM G2 p rp W yf (rows++yr) (st+qG):=A2;let y2:G2 py=du (.bR (bN bs yp)):=y2;let hnl:=uU hW hb ns (a:=rows.l+yr.l) (fr:=yf) okn ntn hl;let jB:(rows++yr).l=rows.l+yr.l:=B4;simp!;dsimp!;apply#[wa,_,rfl,w2,λpn kW=>?_];let rQ:pn≠p:=E1 (aT A2.ob kW);let rP:pn≠rp:=E1 (aT A2.ro kW);let rO:pn≠wa:=E1 (aT w2 kW);let sT:pn≠py:=E1 (aT y2 kW);dsimp!;apply lh (k0:=λd G'=>d=.non/\av bM G' p rp W (bB W bs ns (rows.l+yr.l) pl yf).2.2.1 (rows++yr++(bB W bs ns (rows.l+yr.l) pl yf).1) (st+qG+(bB W bs ns (rows.l+yr.l) pl yf).2.2.2)/\G' pn=du (.bR (bN bs (bB W bs ns (rows.l+yr.l) pl yf).2.1))/\∀b o,b≠p->b≠rp->b≠pn->aC G2 pn (.bR (bN bs pl)) b=du o->G' b=du o) (λR h'=>#[.tup (bc ns),p,rp,pn,W,yf,bs,pl,rows++yr,st+qG,ns,rfl,A2.S kW,ay,rfl,by simp,hl,hb,hn,okn,ntn,oJ,by rw[jB];(omega),hW,λG' x y z=>h' _ _ #[rfl,by rw[jB] at x;exact x,by rw[jB] at y;exact y,z]]) ?_;intro d G4 #[rfl,A4,n4,f4];let si:∀b o,b≠p->b≠rp->G2 b=du o->G4 b=du o:=λb o h1 h2 e=>f4 b o h1 h2 (aT e kW) (by rw[aA (aT e kW)];exact e);let w4:=si _ _ eJ fH w2;let y4:=si _ _ nX nW y2;let fJ:=fJ (N:=bB W bs ns (rows.l+yr.l) pl yf) rfl;generalize hN:bB W bs ns (rows.l+yr.l) pl yf=N at *;let#[nr,np,nf,uk]:=N;obtain⟨m1,m2,m3,m4,m5⟩:nr.l<=22*cC ns/\nf<=yf+9*cC ns/\yf<=nf/\np.l=bs.l/\uk<=22*cC ns:=hnl;let A4:av bM G4 p rp W nf (rows++yr++nr) (st+qG+uk):=A4;let n4:G4 pn=du (.bR (bN bs np)):=n4;let iH:=qW (fr:=nf) c;simp!;dsimp!;apply Qs A4 w4 hl hc (by rw[B4,jB];(omega)) λG5 A5 a5=>?_;simp!;apply bV #[p,rp,W,bq nf c,fO bs pl nf c,_,_,rfl,A5,by rw[B4,B4,jB];(omega),λG6 A6 a6=>?_];let f6:∀b o,b≠p->b≠rp->G4 b=du o->G6 b=du o:=λb o h1 h2 e=>a6 b o h1 h2 (a5 b o h1 h2 e);let w6:=f6 _ _ eJ fH w4;let y6:=f6 _ _ nX nW y4;let n6:=f6 _ _ rQ rP n4;generalize hF:bq nf c+2=F at *;simp!;dsimp![El];apply#[#[wa,_,rfl,w6],wa,py,_,_,rfl,rfl,E1 nV,w6,y6,D4 (m:=1000) (by let:=HI bs pl;let:=HI bs yp;(omega)) ∅,?_];rw[vi7 hn hl l4];obtain⟨G7,Ei⟩:∃G7,G7=aC G6 wa (.bR (bN bs yp)):=#[_,rfl];let w7:G7 wa=du (.bR (bN bs yp)):=by rw[Ei];exact ay
  let y7:G7 py=du (.bR (bN bs yp)):=by rw[Ei,aA nV];exact y6
  let n7:G7 pn=du (.bR (bN bs np)):=by rw[Ei,aA rO];exact n6
  let A7:av bM G7 p rp W F (rows++yr++nr++dQ nf c++[.take (bq nf c) (.box (fO bs pl nf c)),.turn (bq nf c+1) 0 [(bq nf c,31)]]) (st+qG+uk+(dQ nf c).l+2):=by rw[Ei];exact#[by rw[aA (E1 eJ)];exact A6.ob,by rw[aA (E1 fH)];exact A6.ro]
  let f7:∀b o,b≠p->b≠rp->b≠wa->G b=du o->G7 b=du o:=λb o h1 h2 h3 e=>by rw[Ei,aA h3];exact f6 b o h1 h2 (si b o h1 h2 (sj b o h1 h2 e))
  rw[<- Ei];clear Ei;generalize kA:rows++yr++nr++dQ nf c++[k'.take (bq nf c) (.box (fO bs pl nf c)),.turn (bq nf c+1) 0 [(bq nf c,31)]]=pre at *;generalize yE:st+qG+uk+(dQ nf c).l+2=da at *;dsimp![w14];apply#[py,bN bs yp,rfl,y7,?_];rw[v64 l4];intro o8;obtain⟨G8,Eh⟩:∃G8,G8=aC G7 py (.sf o8 (bN bs yp)):=#[_,rfl];let w8:G8 wa=du (.bR (bN bs yp)):=by rw[Eh,aA (E1 nV)];exact w7
  let y8:G8 py=du (.sf o8 (bN bs yp)):=by rw[Eh];exact ay
  let n8:G8 pn=du (.bR (bN bs np)):=by rw[Eh,aA sT];exact n7
  let A8:av bM G8 p rp W F pre da:=by rw[Eh];exact#[by rw[aA (E1 nX)];exact A7.ob,by rw[aA (E1 nW)];exact A7.ro]
  let f8:∀b o,b≠p->b≠rp->b≠wa->G b=du o->G8 b=du o:=λb o h1 h2 h3 e=>by rw[Eh,aA (aT e lu)];exact f7 b o h1 h2 h3 e
  rw[<- Eh];clear Eh;intro p1 cq;generalize yF:Go (fo _ _ _)=N9;let um:py≠p1:=aT y8 cq;let vN:pn≠p1:=aT n8 cq;apply jP (λr σ G'=>kY λ(l t:bf gq) (v0:b0 D)=>jX (l++t=bs) (r=t.t D.str) (G'=aC G8 p1 (.lst ((l.filter λn=>!decide (mE bs yp n=mE bs np n)).t D.str))) (σ=[v0,du (.ref py),du (.ref pn)])) #[[],bs,dv,rfl,rfl,rfl,rfl] ?_ ?_
  .rintro σ G9 ⟨l,t,v0,el,e2,rfl,rfl⟩;let ht:t=[]:=by simpa using e2.M
   subst ht;rw[D7] at el;subst el;apply#[by rw[aA um];exact y8,?_];rw[un1 hn l4 m4];let hU:=vc5 (bs:=l) (ps:=yp) (qs:=np) l4 m4;let RP:=CO (ps:=yp) (qs:=np);let v_:=λx=>Hw (bs:=l) (ps:=yp) (qs:=np) (x:=x);let nF:=Xv (f:=F) hn l4 m4;let yD:=Ym (f:=F) hn l4 m4;generalize jI l yp np=U at *;obtain⟨G9,Bt⟩:∃G9,G9=aC G8 p1 (.lst (U.t D.str)):=#[_,rfl];let w9:G9 wa=du (.bR (bN l yp)):=by rw[Bt,aA (aT w8 cq)];exact w8
   let y9:G9 py=du (.sf o8 (bN l yp)):=by rw[Bt,aA um];exact y8
   let n9:G9 pn=du (.bR (bN l np)):=by rw[Bt,aA vN];exact n8
   let u9:G9 p1=du (.lst (U.t D.str)):=by rw[Bt];exact ay
   let A9:av bM G9 p rp W F pre da:=by rw[Bt];exact A8.S cq
   let yt:p1≠wa:=E1 (aT w8 cq);let yv:p1≠p:=E1 (aT A8.ob cq);let yu:p1≠rp:=E1 (aT A8.ro cq);let f9:∀b o,b≠p->b≠rp->b≠wa->G b=du o->G9 b=du o:=λb o h1 h2 h3 e=>by let:=f8 b o h1 h2 h3 e;rw[Bt,aA (aT this cq)];exact this
   rw[<- Bt];clear Bt;rw[<- yF];dsimp![u9];generalize zX:Go (Cz _ _)=NA;apply jO (λr σ G'=>kY λ(u1 u2:bf gq) (v7:b0 D)=>yL (u1++u2=U) (r=u2.t D.str) (av bM G' p rp W (F+u1.l) pre da) (G' wa=du (.bR (bN l (ny l u1 F yp)))) (∀b o,b≠p->b≠rp->b≠wa->G9 b=du o->G' b=du o) (σ=[du (.tup [.str (C5 "choose"),aD c,.tup (bc ys),.tup (bc ns)]),du (.ref wa),du (.ref p),du (.ref py),du (.ref pn),du (.int ((bq nf c+1:br):bz)),du (.ref p1),v7])) #[[],U,dv,rfl,rfl,A9,w9,λ_ _ _ _ _ e=>e,rfl] ?_ ?_
   .rintro σ OO ⟨u1,u2,v7,eu,e2,Ax,qU,sm,rfl⟩;let ht:u2=[]:=by simpa using e2.M
    subst ht;rw[D7] at eu;subst eu;let uV:=sm _ _ yv yu yt u9;apply#[by rw[uV];rfl,?_];rw[nF] at qU;let yQ:=sm _ _ nX nW nV y9;let u6:=sm _ _ rQ rP rO n9;let RD:=Hr (ps:=yp) (qs:=np) (fr:=F) ();rw[<- zX];dsimp![Ax.ob,aI,uV];intro q1 lr;let dl:(bN l (gU F yp np)).l<=6:=by let:=HI l (gU F yp np);(omega)
    apply jP (λr σ G'=>kY λ(a t:bf gq) (v0:b0 D)=>jX (a++t=u1) (r=t.t D.str) (G'=aC OO q1 (.lst ((a.t λn=>k'.add (mE l (gU F yp np) n) (.box (mE l yp n))).t k'.d))) (σ=[v0,du (.ref wa),du (.ref py)])) #[[],u1,dv,rfl,rfl,rfl,rfl] ?_ ?_
    .rintro σ sF ⟨a,t,v0,ea,e2,rfl,rfl⟩;let ht:t=[]:=by simpa using e2.M
     subst ht;rw[D7] at ea;subst ea;rw[yD.1];obtain⟨sF,wd⟩:∃sF,sF=aC OO q1 (.lst ((jQ F (uY yp np)).t k'.d)):=#[_,rfl];let wj:∀b o,OO b=du o->sF b=du o:=λb o e=>by rw[wd,aA (aT e lr)];exact e
     let zK:sF q1=du (.lst ((jQ F (uY yp np)).t k'.d)):=by rw[wd];exact ay
     let ya:av bM sF p rp W (F+a.l) pre da:=by rw[wd];exact Ax.S lr
     let vJ:q1≠rp:=E1 (aT Ax.ro lr);rw[<- wd];clear wd;let zk:=wj _ _ uV;apply#[by rw[zk];rfl,?_];simp only[zk,bt];intro q2 nZ;apply jP (λr σ G'=>kY λ(b t:bf gq) (v0:b0 D)=>jX (b++t=a) (r=t.t D.str) (G'=aC sF q2 (.lst ((b.t λn=>k'.add (mE l (gU F yp np) n) (.box (mE l np n))).t k'.d))) (σ=[v0,du (.ref wa),du (.ref pn)])) #[[],a,dv,rfl,rfl,rfl,rfl] ?_ ?_
     .rintro σ EC ⟨b,t,v0,eb,e2,rfl,rfl⟩;let ht:t=[]:=by simpa using e2.M
      subst ht;rw[D7] at eb;subst eb;rw[yD.2];obtain⟨EC,wc⟩:∃EC,EC=aC sF q2 (.lst ((jQ F (uN yp np)).t k'.d)):=#[_,rfl];let LH:∀b o,sF b=du o->EC b=du o:=λb o e=>by rw[wc,aA (aT e nZ)];exact e
      let yw:EC q2=du (.lst ((jQ F (uN yp np)).t k'.d)):=by rw[wc];exact ay
      let A12:av bM EC p rp W (F+b.l) pre da:=by rw[wc];exact ya.S nZ
      let Dj:q2≠rp:=E1 (aT ya.ro nZ);rw[<- wc];clear wc;apply#[by rw[LH _ _ zk],?_];let hul:=EX (ps:=yp) (qs:=np);let cG:pre.l<=4100:=by rw[<- kA,B4,B4,B4,jB];show rows.l+yr.l+nr.l+(dQ nf c).l+2<=4100;omega
      apply bV #[p,rp,q1,q2,W,F+b.l,bq nf c+1,pre,_,_,da,rfl,A12,LH _ _ zK,yw,vJ,Dj,cG,by rw[zf];(omega),by rw[zf];(omega),λON GD Sg=>?_];let f13:∀c o,c≠p->c≠rp->OO c=du o->ON c=du o:=λc o h1 h2 e=>Sg c o h1 h2 (LH c o (wj c o e));apply k0 ON ?_ ?_ λc o h1 h2 h3 e=>f13 c o h1 h2 (sm c o h1 h2 h3 (f9 c o h1 h2 h3 e))
      .rw[fJ];show av bM ON p rp W (F+(uY yp np).l) (rows++(yr++nr++dQ nf c++[k'.take (bq nf c) (.box (fO l pl nf c)),.turn (bq nf c+1) 0 [(bq nf c,31)]]++uF (rows.l+(yr++nr++dQ nf c++[k'.take (bq nf c) (.box (fO l pl nf c)),.turn (bq nf c+1) 0 [(bq nf c,31)]]).l) (bq nf c+1) (jQ F (uY yp np)) (jQ F (uN yp np)))) (st+(qG+uk+(dQ nf c).l+2+((uY yp np).l+3)));let hP:pre=rows++(yr++nr++dQ nf c++[k'.take (bq nf c) (.box (fO l pl nf c)),.turn (bq nf c+1) 0 [(bq nf c,31)]]):=by rw[<- kA];simp only[D5]
       generalize yr++nr++dQ nf c++[k'.take (bq nf c) (.box (fO l pl nf c)),.turn (bq nf c+1) 0 [(bq nf c,31)]]=PP at hP⊢;rw[zf,hP,B4,D5,hU,<- yE] at GD;rw[show st+(qG+uk+(dQ nf c).l+2+((uY yp np).l+3))=st+qG+uk+(dQ nf c).l+2+((uY yp np).l+3) by omega];exact GD
      .rw[fJ];exact f13 _ _ eJ fH qU
     .rintro z t σ EC ⟨b,t,v0,eb,e2,rfl,rfl⟩ ih;cases t with
      | nil=>cases e2
      | cons x0 t =>cases e2;let hx:x0∈l:=v_ x0 (by rw[<- eb];simp);let hlen:=cv J1 eb;rw[B4,C0] at hlen;apply#[by rw[aA (aT zk nZ),zk],?_];simp![yd];let Cu:=wj _ _ qU;let Kn:=wj _ _ u6;apply#[wa,bN l (gU F yp np),.inr x0,_,rfl,rfl,by rw[aA (aT Cu nZ)];exact Cu,zi hx (by(omega)),pn,bN l np,.inr x0,_,rfl,rfl,by rw[aA (aT Kn nZ)];exact Kn,zi hx m4,?_];simp![ay];apply#[∅,∅,C6 (m:=1000) (by rw[B0,B0];(omega)) ∅,ih _ _ #[b++[x0],t,_,by rw[<- eb];simp,rfl,?_,rfl]];rw[gb,B7,B7];rfl
    .rintro z t σ sF ⟨a,t,v0,ea,e2,rfl,rfl⟩ ih;cases t with
     | nil=>cases e2
     | cons x0 t =>cases e2;let hx:x0∈l:=v_ x0 (by rw[<- ea];simp);let hlen:=cv J1 ea;rw[B4,C0] at hlen;apply#[by rw[aA (aT uV lr),uV];rfl,?_];simp![yd,PH];apply#[wa,bN l (gU F yp np),.inr x0,_,rfl,rfl,by rw[aA (aT qU lr)];exact qU,zi hx (by(omega)),py,o8,bN l yp,.inr x0,_,rfl,rfl,by rw[aA (aT yQ lr)];exact yQ,zi hx l4,?_];simp![ay];apply#[∅,∅,C6 (m:=1000) (by rw[B0,B0];(omega)) ∅,ih _ _ #[a++[x0],t,_,by rw[<- ea];simp,rfl,?_,rfl]];rw[gb,B7,B7];rfl
   .rintro z r σ OO ⟨u1,u2,v7,eu,e2,Ax,qU,sm,rfl⟩ ih;cases u2 with
    | nil=>cases e2
    | cons x0 u2 =>cases e2;let hx:x0∈l:=v_ x0 (by rw[<- eu];simp);apply#[by rw[sm _ _ yv yu yt u9];rfl,?_];simp![GW,Ax.ob,aI];apply uR Ax λsF ya LX=>?_;simp!;let Cu:=LX _ _ eJ fH qU;apply#[wa,bN l (ny l u1 F yp),.inr x0,rfl,rfl,Cu,C6 (m:=1000) (by let:=HI l (ny l u1 F yp);(omega)) ∅,?_];rw[Yw hx hn (by rw[vp7];exact l4),<- v76];apply ih _ _ #[u1++[x0],u2,_,by rw[<- eu];simp,rfl,?_,ay,λb o h1 h2 h3 e=>by rw[aA h3];exact LX b o h1 h2 (sm b o h1 h2 h3 e),rfl];rw[B4,show F+(u1.l+[x0].l)=F+u1.l+1 from rfl];exact#[by rw[aA (E1 eJ)];exact ya.ob,by rw[aA (E1 fH)];exact ya.ro]
  .rintro z t σ G9 ⟨l,t,v0,el,e2,rfl,rfl⟩ ih;cases t with
   | nil=>cases e2
   | cons x0 t =>
    cases e2;apply#[by rw[aA um];exact y8,?_];let hm:x0∈bs:=by rw[<- el];simp
    simp![PH,yd];apply#[py,o8,bN bs yp,.inr x0,_,rfl,rfl,by rw[aA um];exact y8,zi hm l4,?_];apply#[pn,bN bs np,.inr x0,_,rfl,rfl,by rw[aA vN];exact n8,zi hm m4,?_];simp![ay];let hlen:=cv J1 el;rw[B4,C0] at hlen;by_cases q:mE bs yp x0=mE bs np x0
    .rw[cp (by simp[q])];apply ih _ _ #[l++[x0],t,_,by rw[<- el];simp,rfl,?_,rfl];rw[Z9,Ik (by simp[q]),Lr,D7]
    .rw[cu (by rw[c7 ()];rfl)];apply#[C6 (m:=1000) (by rw[B0];let:=TL (λn=>!decide (mE bs yp n=mE bs np n)) l;(omega)) ∅,ih _ _ #[l++[x0],t,_,by rw[<- el];simp,rfl,?_,rfl]];rw[gb,Z9,Ir (by simp[q]),Lr,B7];rfl
def x70{n:br}(t:n<*T.bL<*eF)(r:n<*T.bU<*eE):n+1<*T.l_.1<*qw:=by
 apply dk T.l_.1 rq (λ_ _ _ _ _ _ g =>
   (ar (aH (lb (cM QT rfl T.bQ ∅ #v[!0,(Hc (T:= "str") T.wD ∅)])) (az (a_ (zc g (!1) (!0)))) b_)
   (ar (aN 3 rq.nd (nG T.au.cl T.bL T.eZ t g (!2)))
   (ar (dP (em T.au.cl T.bU T.h9 r g (!2) #v[(cw #v[(bh #v[aR,!3,(bh #v[aR,!0])])])]))
   (az (a_ (!3))))))) (λL G R h=>?_)
 .let#[p,E,l,W,j,f,st,M,H,a,rfl,A,hw,m,o,J,k0]:=h;cases a with
  | num i =>simp![aD,AE];apply#[by simp,?_];rw[cp ∅];dsimp![A.ob,aI];apply uR A λN k y=>?_;simp!;dsimp![k.ob,aI];apply#[∅,∅,∅,λI q=>?_];apply y0 (new:=[.add j (.num (i:bz))]) k q () (E9 rfl) λB C u=>?_;simp!;dsimp!;exact k0 B C (y.u u)| box x =>simp![aD,AE,yd];apply#[by simp,?_];rw[cu ∅];exact#[l,_,.inr x,_,rfl,rfl,hw,zi o m,k0 G (by rw[show f++dQ j (.box x)=f from D7 _];exact A) cP.j]
def x46{n:br}(J:n<*T.oX.1<*xk0)(B:n<*T.pZ.1<*xk5)(r:n<*T.mq.1<*Us)(E:n<*T.qe.1<*xk7)(H:n<*T.qb.1<*xk6)(I:n<*T.oZ.1<*xk1)(C:n<*T.qg.1<*xk8):n+1<*T.oP.1<*wI:=by
 apply Fc T.oP.1 w27 (λu G R h=>?_) (λ_ _ _ _ _ _ g =>
   (ar (aH (bA (aP g) (!0) aR (ag _)) (az (a_ (ek J g #v[!1,!2,!3]))) b_)
   (ar (aH (bA (aP g) (!0) aR (ag _)) (az (a_ (ek B g #v[!1,!2,!3]))) b_)
   (ar (aH (bA (aP g) (!0) aR (ag _)) (az (a_ (ek r g #v[!1,!2,!3]))) b_)
   (ar (aH (bA (aP g) (!0) aR (ag _)) (az (a_ (ek E g #v[!1,!2,!3]))) b_)
   (ar (aH (bA (aP g) (!0) aR (ag _)) (az (a_ (ek H g #v[!1,!2,!3]))) b_)
   (ar (aH (bA (aP g) (!0) aR (ag _)) (az (a_ (ek I g #v[!1,!2,!3]))) b_)
   (az (a_ (ek C g #v[!1,!2,!3])))))))))) (λu G R h=>?_)
 .let#[o,q,p,t,W,f,x,y,m,st,rfl,_]:=h;rfl
 .let#[o,q,p,t,W,f,x,y,m,st,rfl,A,i,L,k0]:=h;rcases Yi q with rfl|rfl|rfl|rfl|rfl|rfl|rfl
  .simp![K3,J6];exact vt (xs:=xy) (bx:=λf=>f) (fn:=λf=>f+2) (nw:=λW x y f=>gR W x y f "+") A i () k0
  .simp![K3,J6];rw[cp ∅];dsimp!;exact vt (xs:=xy) (bx:=λf=>f) (fn:=λf=>f+2) (nw:=λW x y f=>gR W x y f "-") A i () k0
  .simp![K3,J6];rw[cp ∅];dsimp!;rw[cp ∅];dsimp!;exact vt (xs:=xy) (bx:=λf=>f) (fn:=λf=>f+1) (nw:=λW x y f=>c9 f x y W) A i () k0
  .simp![K3,J6];rw[cp ∅];dsimp!;rw[cp ∅];dsimp!;rw[cp ∅];dsimp!;exact vt (xs:=xy) (bx:=λf=>f+1) (fn:=λf=>f+2) (nw:=λW x y f=>gR W x y f "|") A i () k0
  .simp![K3,J6];rw[cp ∅];dsimp!;rw[cp ∅];dsimp!;rw[cp ∅];dsimp!;rw[cp ∅];dsimp!;exact vt (xs:=xy) (bx:=λf=>f+1) (fn:=λf=>f+2) (nw:=λW x y f=>gR W x y f "^") A i () k0
  .simp![K3,J6];rw[cp ∅];dsimp!;rw[cp ∅];dsimp!;rw[cp ∅];dsimp!;rw[cp ∅];dsimp!;rw[cp ∅];dsimp!;exact vt (xs:=xy) (bx:=λf=>f+1) (fn:=λf=>f+2) (nw:=λW x y f=>gR W x y f "<") A i () k0
  .simp![K3,J6];rw[cp ∅];dsimp!;rw[cp ∅];dsimp!;rw[cp ∅];dsimp!;rw[cp ∅];dsimp!;rw[cp ∅];dsimp!;rw[cp ∅];dsimp!;exact vt (xs:=xy) (bx:=λf=>f+2) (fn:=λf=>f+3) (nw:=λW x y f=>gR W x y f "=") A i () k0
def x56{n:br}(i:n<*T.bL<*eF)(o:n<*T.bU<*eE):n+1<*T.oX.1<*xk0:=by
 apply dk T.oX.1 mT (λ_ _ _ _ _ _ f =>
   (ar (aN 3 mT.nd (nG T.au.cl T.bL T.eZ i f (!2)))
   (ar (aN 4 mT.nd (nG T.au.cl T.bL T.eZ i f (!2)))
   (ar (dP (em T.au.cl T.bU T.h9 o f (!2) #v[(cw #v[(bh #v[aR,!3,(bh #v[aR,!0])]),(bh #v[aR,!3,(bh #v[aR,!1])]),(bh #v[aR,!4,(jK T.au.cl T.au.ki (!2)),(bh #v[(bh #v[!3,(jK T.au.cl T.au.ki (!2))])])]),(bh #v[aR,!3,(bh #v[aR,!4])])])]))
   (az (a_ (!3))))))) (λI G R h=>?_)
 .let#[p,B,W,l,x,y,g,st,rfl,A,H,E,k0]:=h;simp![xy,K3,J6,A.ob,aI];apply uR A λL k t=>?_;simp!;dsimp![k.ob,aI];apply uR k λJ j r=>?_;simp!;dsimp![j.ob,aI];apply#[∅,∅,∅,∅,∅,∅,∅,∅,∅,∅,λC m=>?_];apply y0 (new:=gR W x y l "+") j m () (E9 rfl) λu A3 q=>?_;simp!;dsimp!;exact k0 u A3 ((t.u r).u q)
def xb3{n:br}(r:n<*T.bL<*eF)(q:n<*T.bU<*eE)(l:n<*T.kG.1<*Py):n+1<*T.pZ.1<*xk5:=by
 apply dk T.pZ.1 m6 (λ_ _ _ _ _ _ g =>
   (ar (aN 3 m6.nd (ek l g #v[!0,!1,!2]))
   (ar (aN 4 m6.nd (nG T.au.cl T.bL T.eZ r g (!2)))
   (ar (dP (em T.au.cl T.bU T.h9 q g (!2) #v[(cw #v[(bh #v[aR,!4,(jK T.au.cl T.au.ki (!2)),(bh #v[(bh #v[!3,(zb T.bZ)])])]),(bh #v[aR,!3,(bh #v[aR,!4])])])]))
   (az (a_ (!3))))))) (λM G R h=>?_)
 .let#[p,E,W,f,x,y,i,st,rfl,A,m,J,k0]:=h;simp![xy,K3,J6];apply vt (xs:=xy) (bx:=λf=>f) (fn:=λf=>f+1) (nw:=λ_ x y f=>[.add f (.box x),.take f (.box y)]) A m () λQ k B=>?_;simp!;dsimp![k.ob,aI];apply uR k λO j u=>?_;simp!;dsimp![j.ob,aI];apply#[∅,∅,∅,∅,∅,∅,λH o=>?_];apply y0 (new:=[.turn (f+1) W [(f,31)],.add f (.box (f+1))]) j o (by rw[B4];show _+2<=_;omega) (E9 rfl) λC A3 t=>?_;simp!;dsimp!;rw[D5,K6] at A3;exact k0 C A3 ((B.u u).u t)
def xd6{n:br}(m:n<*T.bL<*eF)(l:n<*T.bU<*eE):n+1<*T.kG.1<*Py:=by
 apply dk T.kG.1 rK (λ_ _ _ _ _ _ g =>
   (ar (aN 3 rK.nd (nG T.au.cl T.bL T.eZ m g (!2)))
   (ar (dP (em T.au.cl T.bU T.h9 l g (!2) #v[(cw #v[(bh #v[aR,!3,(bh #v[aR,!0])]),(bh #v[aR,!3,(bh #v[aR,!1])])])]))
   (az (a_ (!3)))))) (λH G R h=>?_)
 .let#[p,u,W,i,x,y,f,st,rfl,A,E,C,k0]:=h;simp![xy,K3,J6,A.ob,aI];apply uR A λI j q=>?_;simp!;dsimp![j.ob,aI];apply#[∅,∅,∅,∅,∅,λB k=>?_];apply y0 (new:=[.add i (.box x),.take i (.box y)]) j k () (E9 rfl) λr t o=>?_;simp!;dsimp!;exact k0 r t (q.u o)
def xc0{n:br}(E:n<*T.bL<*eF)(C:n<*T.bU<*eE):n+1<*T.mq.1<*Us:=by
 apply dk T.mq.1 rF (λ_ _ _ _ _ _ l =>
   (ar (aN 3 rF.nd (nG T.au.cl T.bL T.eZ E l (!2)))
   (ar (dP (em T.au.cl T.bU T.h9 C l (!2) #v[(jM (N':=["bit", "box", "first", "second"]) (ix:=[dv,du 3,du 0,du 1]) (iA rfl rfl rfl) (uQ rfl T.bw #v[(jK T.au.cl T.au.ki (!2))]) (λ_ _ _ _=>(bY 0 (show(["bit", "box", "first", "second"]:bf gq).Nodup by decide))) (λ_ _ _ _=>jN) (λ_ _ _ _=>(bh #v[aR,!1,!0,(bh #v[(bh #v[!2,!0]),(bh #v[!3,!0])])])))]))
   (az (a_ (!3)))))) (λX G R h=>?_)
 .let#[p,O,W,j,x,y,k,st,rfl,A,U,S,k0]:=h;simp![xy,K3,J6,A.ob,aI];apply uR A λM o I=>?_;simp!;dsimp![o.ob,aI];apply#[#[(),()],λq B=>?_];apply jP (λr g N=>kY λ(i c:br) (v:b0 D)=>jX (i+c=W) (r=bW (i:bz) c) (N=aC M q (.lst ((c9 j x y i).t k'.d))) (g=[v,du (.int (j:bz)),du (.int (x:bz)),du (.int (y:bz))])) #[0,W,dv,(),rfl,rfl,rfl] ?_ ?_
  .intro g L #[i,c,v,e,f,rfl,rfl];let u:c=0:=by
    cases c with
    | zero=>rfl| succ c=>rw[jb] at f;cases f
   subst u;obtain rfl:i=W:=()
   apply#[trivial,?_];apply y0 (new:=c9 j x y i) o B () (by unfold c9;rw[B0,F0];omega) λJ A3 H=>?_;simp!;dsimp!;exact k0 J A3 (I.u H)
  .rintro z r g L ⟨i,c,v,e,f,rfl,rfl⟩ t;cases c with
   | zero=>cases f
   | succ c =>
    rw[jb] at f;cases f;apply#[trivial,?_];simp![ay];apply#[∅,∅,∅,∅,?_,t _ _ #[i+1,c,_,(),rfl,?_,rfl]]
    .rw[B0];unfold c9;rw[B0,F0];exact C6 (m:=1000) () ∅
    .rw[gb];unfold c9;rw[V3,B7,B7];rfl
def xc1{n:br}(k:n<*T.lZ.1<*tF):n+1<*T.qe.1<*xk7:=by
 apply dk T.qe.1 w48 (λ_ _ _ _ _ _ l =>
   (az (a_ (ek k l #v[!0,!1,ax,!2])))) (λr G R h=>?_)
 .let#[p,j,W,g,x,y,f,st,rfl,A,m,q,k0]:=h;simp![xy,K3,J6];exact lh (k0:=λd i=>d=.int ((g+1:br):bz)/\av bM i p j W (g+2) (f++gR W x y g "|") (st+(gR W x y g "|").l)/\cP p j G i) (λR o=>#[1,∅,p,j,W,g,x,y,f,st,rfl,A,m,(),λi a b=>o _ _ #[rfl,a,b]]) λd i ⟨e,a,b⟩=>by subst e;exact k0 i a b
def xb9{n:br}(k:n<*T.lZ.1<*tF):n+1<*T.qb.1<*xk6:=by
 apply dk T.qb.1 w47 (λ_ _ _ _ _ _ l =>
   (az (a_ (ek k l #v[!0,!1,ax,!2])))) (λr G R h=>?_)
 .let#[p,j,W,g,x,y,f,st,rfl,A,m,q,k0]:=h;simp![xy,K3,J6];exact lh (k0:=λd i=>d=.int ((g+1:br):bz)/\av bM i p j W (g+2) (f++gR W x y g "^") (st+(gR W x y g "^").l)/\cP p j G i) (λR o=>#[2,∅,p,j,W,g,x,y,f,st,rfl,A,m,(),λi a b=>o _ _ #[rfl,a,b]]) λd i ⟨e,a,b⟩=>by subst e;exact k0 i a b
def x57{n:br}(Z:n<*T.bL<*eF)(Y:n<*T.bU<*eE)(M:n<*T.mq.1<*Us):n+1<*T.lZ.1<*tF:=by
 apply Fc T.lZ.1 mU (λX G R h=>?_) (λ_ _ _ _ _ _ l =>
   (ar (aN 4 mU.nd (ek M l #v[!0,!1,!3]))
   (ar (aN 5 mU.nd (nG T.au.cl T.bL T.eZ Z l (!3)))
   (ar (dP (em T.au.cl T.bU T.h9 Y l (!3) #v[(aM cn (cw #v[(bh #v[aR,!5,(bh #v[aR,!0])]),(bh #v[aR,!5,(bh #v[aR,!1])])]) (aM mL (cw #v[(bh #v[aR,!5,(bh #v[aR,!4])])]) (!2)))]))
   (az (a_ (!5))))))) (λX G R h=>?_)
 .let#[n,Q,p,i,W,f,x,y,g,st,rfl,_]:=h;rfl
 .let#[n,Q,p,i,W,f,x,y,g,st,rfl,A,S,hl,k0]:=h;let hand:(c9 f x y W).l=W:=by unfold c9;rw[B0,F0]
  simp![K3,J6,A.ob,aI];apply vt (xs:=xy) (bx:=λf=>f) (fn:=λf=>f+1) (nw:=λW x y f=>c9 f x y W) A S () λG1 L a1=>?_;simp!;dsimp![L.ob,aI];apply uR L λG2 J a2=>?_;simp!;dsimp![J.ob,aI];apply#[∅,∅,∅,∅,∅,λj H=>?_];simp!;apply#[∅,∅,∅,λC r=>#[#[(),(),D4 (m:=10) () ∅],λB k=>?_]];let O:∀{o2 o3:DO},aC (aC (aC G2 j (.lst (([.add (f+1) (.box x),.add (f+1) (.box y)]:bf k').t k'.d))) C o2) B o3 j=du (.lst (([.add (f+1) (.box x),.add (f+1) (.box y)]:bf k').t k'.d)):=λ{o2 o3}=>by
   let E:j≠C:=aT ay r;let N:j≠B:=λz=>by rw[<- z,aA E,ay] at k;cases k
   rw[aA N,aA E,ay]
  apply AR O ay (by rw[P1,O2];exact D4 (m:=10) (by show 2+n<=10;omega) ∅) λp4 q=>?_;let U:([k'.add (f+1) (.box x),.add (f+1) (.box y)]:bf k').t k'.d++(C7 n [D.tup [.str "take",.int ((f+1:br):bz),.tup [.str "box",.int (f:bz)]]]).C=([.add (f+1) (.box x),.add (f+1) (.box y)]++C7 n (.take (f+1) (.box f)):bf k').t k'.d:=by rw[P1,B7,V9];rfl
  rw[U];let u:=((J.S (o:=.lst (([.add (f+1) (.box x),.add (f+1) (.box y)]:bf k').t k'.d)) H).S (o:=.lst (([.take (f+1) (.box f)]:bf k').t k'.d)) r).S (o:=.lst ((C7 n [D.tup [.str "take",.int ((f+1:br):bz),.tup [.str "box",.int (f:bz)]]]).C)) k;let t:=((cP.j (p:=p) (rp:=i)).S (o:=.lst (([.add (f+1) (.box x),.add (f+1) (.box y)]:bf k').t k'.d)) H).S (o:=.lst (([.take (f+1) (.box f)]:bf k').t k'.d)) r |>.new (o:=.lst ((C7 n [D.tup [.str "take",.int ((f+1:br):bz),.tup [.str "box",.int (f:bz)]]]).C)) k
  apply y0 (new:=[.add (f+1) (.box x),.add (f+1) (.box y)]++C7 n (.take (f+1) (.box f))) u q (by rw[B4,hand];omega) (by rw[B4,O2];show 2+n<=1000;omega) λI A3 a3=>?_;simp!;dsimp!;apply k0 I ?_ ((a1.u a2).u (t.u a3));show av bM I p i W (f+2) (g++(c9 f x y W++([.add (f+1) (.box x),.add (f+1) (.box y)]++C7 n (.take (f+1) (.box f))))) (st+(c9 f x y W++([k'.add (f+1) (.box x),.add (f+1) (.box y)]++C7 n (k'.take (f+1) (.box f)))).l);rw[B4 (as:=c9 f x y W),<- K6,<- D5];exact A3
def x61{n:br}(r:n<*T.bL<*eF)(q:n<*T.bU<*eE)(l:n<*T.kG.1<*Py):n+1<*T.oZ.1<*xk1:=by
 apply dk T.oZ.1 mV (λ_ _ _ _ _ _ g =>
   (ar (aN 3 mV.nd (ek l g #v[!0,!1,!2]))
   (ar (aN 4 mV.nd (nG T.au.cl T.bL T.eZ r g (!2)))
   (ar (dP (em T.au.cl T.bU T.h9 q g (!2) #v[(cw #v[(bh #v[aR,!4,ax,(bh #v[(bh #v[!3,(zb T.bZ)])])])])]))
   (az (a_ (!4))))))) (λM G R h=>?_)
 .let#[p,E,W,f,x,y,i,st,rfl,A,m,J,k0]:=h;simp![xy,K3,J6];apply vt (xs:=xy) (bx:=λf=>f) (fn:=λf=>f+1) (nw:=λ_ x y f=>[.add f (.box x),.take f (.box y)]) A m () λQ k B=>?_;simp!;dsimp![k.ob,aI];apply uR k λO j u=>?_;simp!;dsimp![j.ob,aI];apply#[∅,∅,∅,∅,λH o=>?_];apply y0 (new:=[.turn (f+1) 0 [(f,31)]]) j o (by rw[B4];show _+2<=_;omega) (E9 rfl) λC A3 t=>?_;simp!;dsimp!;rw[D5,K6] at A3;exact k0 C A3 ((B.u u).u t)
def xc4{n:br}(t:n<*T.bL<*eF)(r:n<*T.bU<*eE)(k:n<*T.kG.1<*Py):n+1<*T.qg.1<*xk8:=by
 apply dk T.qg.1 kg (λ_ _ _ _ _ _ i =>
   (ar (aN 3 kg.nd (ek k i #v[!0,!1,!2]))
   (ar (aN 4 kg.nd (ek k i #v[!1,!0,!2]))
   (ar (aN 5 kg.nd (nG T.au.cl T.bL T.eZ t i (!2)))
   (ar (dP (em T.au.cl T.bU T.h9 r i (!2) #v[(cw #v[(bh #v[aR,!5,ax,(bh gX)]),(bh #v[aR,!5,ax,(bh #v[(bh #v[!3,(zb T.bZ)])])]),(bh #v[aR,!5,ax,(bh #v[(bh #v[!4,(zb T.bZ)])])])])]))
   (az (a_ (!5)))))))) (λQ G R h=>?_)
 .let#[p,j,W,f,x,y,g,st,rfl,A,l,N,k0]:=h;simp![xy,K3,J6];apply vt (xs:=xy) (bx:=λf=>f) (fn:=λf=>f+1) (nw:=λ_ x y f=>[.add f (.box x),.take f (.box y)]) A l () λY J E=>?_;simp!;dsimp!;let H:(g++[k'.add f (.box x),.take f (.box y)]).l+2*0<=4100:=by rw[B4];show _+2+0<=_;omega
  apply bV #[p,j,W,f+1,y,x,_,_,rfl,J,l,H,λX o C=>?_];simp!;dsimp![o.ob,aI];apply uR o λU A3 B=>?_;simp!;dsimp![A3.ob,aI];apply#[∅,∅,∅,∅,∅,∅,∅,∅,∅,λL q=>?_];apply y0 (new:=[.turn (f+2) 0 [],.turn (f+2) 0 [(f,31)],.turn (f+2) 0 [(f+1,31)]]) A3 q (by rw[B4,B4];show _+2+2<=_;omega) (E9 rfl) λm I u=>?_;simp!;dsimp!;apply k0 m ?_ ((E.u C).u (B.u u));show av bM m p j W (f+3) (g++(([k'.add f (.box x),.take f (.box y)]++[.add (f+1) (.box y),.take (f+1) (.box x)])++[.turn (f+2) 0 [],.turn (f+2) 0 [(f,31)],.turn (f+2) 0 [(f+1,31)]])) (st+2+2+3);rw[<- D5,<- D5];exact I
def x55{n:br}(j:n<*T.bL<*eF)(o:n<*T.bU<*eE):n+1<*T.oW.1<*wM:=by
 apply dk T.oW.1 mS (λ_ _ _ _ _ _ f =>
   (ar (aN 2 mS.nd (nG T.au.cl T.bL T.eZ j f (!1)))
   (ar (aN 3 mS.nd (nG T.au.cl T.bL T.eZ j f (!1)))
   (ar (dP (em T.au.cl T.bU T.h9 o f (!1) #v[(cw #v[(bh #v[aR,!2,(bh #v[aR,!0])]),(bh #v[aR,!3,ax,(bh #v[(bh #v[!2,(zb T.bZ)])])])])]))
   (az (a_ (!3))))))) (λE G R h=>?_)
 .let#[p,y,W,g,x,i,st,rfl,A,C,k0]:=h;simp![A.ob,aI];apply uR A λI l t=>?_;simp!;dsimp![l.ob,aI];apply uR l λH k r=>?_;simp!;dsimp![k.ob,aI];apply#[∅,∅,∅,∅,∅,∅,λB m=>?_];apply y0 (new:=[.take g (.box x),.turn (g+1) 0 [(g,31)]]) k m () (E9 rfl) λu A3 q=>?_;simp!;dsimp!;exact k0 u A3 ((t.u r).u q)
def x81{n:br}(xP:n<*T.mh.1<*tO)(NI:n<*T.oU.1<*wK)(xJ:n<*T.lY.1<*tE):n+1<*T.pF.1<*xc:=by
 apply dk T.pF.1 iQ (λ_ _ _ _ _ _ A =>
   (ar (aN 6 iQ.nd (cM eG rfl T.aY ∅ #v[¬2]))
   (ar (aN 7 iQ.nd (ek xJ A #v[!1,¬2,¬2,(vm3 A rfl T.bw rfl T.di #v[!3,(aM cn (!3) (!6))]),!5]))
   (ar (aN 8 iQ.nd (bh #v[¬7,¬7]))
   (ar (Xl 9 iQ.nd (N':=["at", "place", "word", "target"]) (ix:=[dv,dv,du 0,du 4]) (iA rfl rfl rfl) (Rg rfl T.cK #v[¬7]) (λ_ _ _ _=>(yY (n:=2) rfl (jv (bY 0 (show(["at", "place", "word", "target"]:bf gq).Nodup by decide)) (jv (bY 1 (show(["at", "place", "word", "target"]:bf gq).Nodup by decide)) za)))) (λ_ _ _ _=>jN) (λ_ _ _ _=>(bh #v[!2,(aM cn (!3) (!0)),(bh #v[aR,!1])])))
   (az (a_ (ek xP A #v[(cw #v[!8,(bh #v[¬7,!9]),(ek NI A #v[!8])])])))))))) (λds G R h=>?_)
 .let#[add,pc,W,i,H,x,f,g,B,rfl,iH,ok,hW,h22,h1,h2,h3,k0]:=h;let hb:=ok.nb;simp![B0];dsimp![X_];apply#[#[(),()],λp L=>?_];let A:bW (f:bz) ((f:bz)+(i.l:bz)-(f:bz)).i=(cb f i.l).t nD:=by rw[show((f:bz)+(i.l:bz)-(f:bz)).i=i.l by omega];unfold bW cb;rw[L9];exact L5 λk _=>by show D.int _=D.int _;congr 1
  rw[A];apply bV #[pc,p,W,B,i,cb f i.l,H,rfl,by rw[aA (aT iH L)];exact iH,ay,by unfold cb;rw[B0,F0],ok.nb,ok.nd,ok.ok,ok.nt,ok.dp,ok.sz,ok.hW,λu q2 O n1 n2 n3 k1 J g2=>?_];let g0:=(aj.j (G:=G) |>.new (o:=.lst ((cb f i.l).t nD)) L).u g2;let cG:(cb f i.l).l=i.l:=by unfold cb;rw[B0,F0]
  let wl:=uU (a:=0) (fr:=B) ok.hW ok.nb H ok.ok ok.nt cG;let wp:=(uf (a:=0) (fr:=B) ok.hW H ok.ok ok.nt cG λp L=>XO h1 L).1.pr.pairs;unfold jy at k0;generalize hZ:(bB W i H 0 (cb f i.l) B)=Z at *;dsimp!;dsimp!;apply#[∅,?_];let#[l1,l2,l3,lz,l5]:=wl;simp![E_,J,bt];intro q Y;let X:u≠q:=aT k1 Y;let C:q2≠q:=aT J Y;apply jP (λr Q G'=>uG λ(l t:bf br) (U S:b0 D)=>jX (l++t=Z.2.1) (r=wo l.l (t.t nD)) (G'=aC O q (.lst (((D3 l.l).t λj=>if add=dS then k'.add (g+j) (.box (Z.2.1.E j 0)) else k'.take (g+j) (.box (Z.2.1.E j 0))).t k'.d))) (Q=[U,S,du (.str (Wb add)),du (.int (g:bz))])) #[[],Z.2.1,dv,dv,rfl,rfl,rfl,rfl] ?_ ?_
  .intro Q G3 #[l,t,U,S,e,N,rfl,rfl];let ht:t=[]:=by
    cases t with
    | nil=>rfl| cons x t=>cases N
   subst ht;rw[D7] at e;subst e;apply#[by rw[aA C,J],?_];let car:aC O q (.lst (((D3 Z.2.1.l).t λj=>if add=dS then k'.add (g+j) (.box (Z.2.1.E j 0)) else k'.take (g+j) (.box (Z.2.1.E j 0))).t k'.d)) q=du (.lst ((dI add g Z.2.1).t k'.d)):=ay;let lc:(dI add g Z.2.1).l<=6000:=by unfold dI;rw[B0,F0];omega
   let E:aC O q (.lst (((D3 Z.2.1.l).t λj=>if add=dS then k'.add (g+j) (.box (Z.2.1.E j 0)) else k'.take (g+j) (.box (Z.2.1.E j 0))).t k'.d)) u=du (.lst (Z.1.t k'.d)):=by rw[aA X];exact k1
   let g3:=g0.S (o:=.lst (((D3 Z.2.1.l).t λj=>if add=dS then k'.add (g+j) (.box (Z.2.1.E j 0)) else k'.take (g+j) (.box (Z.2.1.E j 0))).t k'.d)) Y;generalize aC O q (.lst (((D3 Z.2.1.l).t λj=>if add=dS then k'.add (g+j) (.box (Z.2.1.E j 0)) else k'.take (g+j) (.box (Z.2.1.E j 0))).t k'.d))=G3 at *;dsimp!;apply#[∅,?_];apply bV #[_,u,Z.1,rfl,E,wp,(),λI G4 n4 k4 g4=>?_];simp!;apply#[∅,λp5 oH=>?_];let M:=g4.S (o:=.lst ([cE.mk Z.2.2.1 u Z.1,cE.mk Z.2.2.1 q (dI add g Z.2.1),cE.mk Z.2.2.1 I (j3 Z.1)].t cE.d)) oH;apply bV #[p5,[cE.mk Z.2.2.1 u Z.1,cE.mk Z.2.2.1 q (dI add g Z.2.1),cE.mk Z.2.2.1 I (j3 Z.1)],rfl,ay,?_,by simp,by simp,λq6 G6 n6 k6 g6=>?_]
   .intro c hc;let lt:(j3 Z.1).l<=6000:=by unfold j3;rw[T6,B0];omega
    simp only[D9,Z0,or_false] at hc;rcases hc with rfl|rfl|rfl
    .exact⟨M.kp _ _ E,by show Z.1.l<=6000;omega⟩
    .exact⟨M.kp _ _ car,lc⟩
    .exact⟨by show aC G4 p5 _ I=_;rw[aA (aT k4 oH)];exact k4,lt⟩
   .have hm:ni [cE.mk Z.2.2.1 u Z.1,cE.mk Z.2.2.1 q (dI add g Z.2.1),cE.mk Z.2.2.1 I (j3 Z.1)]=Z.2.2.1:=by show max Z.2.2.1 (max Z.2.2.1 (max Z.2.2.1 0))=_;simp
    rw[hm];exact k0 q6 G6 ((g3.u M).none n6) k6 ((g3.u M).u g6)
  .rintro z r Q G3 ⟨l,t,U,S,e,N,rfl,rfl⟩ ih;cases t with
   | nil=>cases N
   | cons y t =>
    cases N;apply#[by rw[aA C,J],?_];let hy:Z.2.1.E l.l 0=y:=by rw[<- e,F4,F9 (B9 _),Z8];rfl
    let vf:l.l<i.l:=by rw[<- lz,<- e,B4,C0];omega
    simp![ay];apply#[∅,∅,?_,ih _ _ #[l++[y],t,_,_,by rw[<- e];simp,by rw[B4];rfl,?_,rfl]]
    .rw[B0,B0,F0];exact C6 (m:=1000) () ∅
    .rw[gb,B4,Q5,V3,B7,B7];let DA:Z.2.1[l.l]?.getD 0=y:=by rw[<- F4];exact hy
     cases add <;> simp[k'.d,Wb,kZ.d,DA,nD]
def x80{n:br}(m:n<*T.lY.1<*tE):n+1<*T.pE.1<*xb:=by
 apply dk T.pE.1 mW (λ_ _ _ _ _ _ g =>
   (ar (aN 2 mW.nd (cM eG rfl T.aY ∅ #v[¬1]))
   (ar (aN 3 mW.nd (ek m g #v[!0,¬1,¬1,(va5 g rfl T.bw rfl T.di #v[!2]),!2]))
   (az (a_ (aM cn (aM mL ax (¬3)) (!2))))))) (λE G R h=>?_)
 .let#[pc,W,f,i,x,rfl,j,ok,k0]:=h;simp![B0];let y:=ok.nb;dsimp![Yr];apply#[#[(),()],λp l=>?_];let g:bW 0 ((f.l:bz)-0).i=(D3 f.l).t nD:=by rw[show((f.l:bz)-0).i=f.l by omega];unfold bW;exact L5 λk _=>by show D.int _=D.int _;congr 1;omega
  rw[g];apply bV #[pc,p,W,f.l,f,D3 f.l,i,rfl,by rw[aA (aT j l)];exact j,ay,F0,ok.nb,ok.nd,ok.ok,ok.nt,ok.dp,ok.sz,ok.hW,λr q o C B A u t g2=>?_];let k0:=k0 o ((aj.j.S l).u g2);unfold iM at k0;generalize (bB W f i 0 (D3 f.l) f.l)=Z at *;dsimp!;apply#[.inl ∅,?_];rw[show(2:bz)*(Z.2.2.2:bz)+(f.l:bz)=((2*Z.2.2.2+f.l:br):bz) by omega];exact k0
def x71{n:br}(f:n<*T.ig.1<*xj9):n+1<*T.pe.1<*wV:=by
 apply dk T.pe.1 w33 (λ_ _ _ _ _ _ g =>
   (az (a_ (ek f g #v[¬0])))) (λo G R h=>?_)
 .let#[x,y,l,rfl,m,j,i,k0]:=h;simp!;exact bV #[_,rfl,(),j,i,λq k a b c=>k0 q k a b c]
def x51{n dp:br}(U:n<*T.oR.1<*nL dp):n+1<*T.ig.1<*fU (dp+1):=by
 apply dk T.ig.1 mR (λ_ _ _ _ _ _ O =>
   (ar (aN 1 mR.nd (cw gX))
   (ar (jL (gY (!0)) (bY 2 mR.nd) (az (dP (QM (!1) #v[(ek U O #v[!2])]))))
   (az (a_ (!1)))))) (λY G R h=>?_)
 .let#[i,rfl,Q,hw,S,k0]:=h;simp!;apply#[∅,λp A=>?_];dsimp!;apply jO (λr u E=>kY λ(l t:bf ai) (y:b0 D)=>Ta (l++t=i) (r=bc t) (aj G E) (E p=du (.lst (bc (aF l)))) (u=[du (.tup (bc i)),du (.ref p),y])) #[[],i,dv,rfl,rfl,aj.j.S A,ay,rfl] ?_ ?_
  .intro u C #[l,t,y,e,k,g,j,rfl];let N:t=[]:=by
    cases t with
    | nil=>rfl| cons x t=>cases k
   subst N;rw[D7] at e;subst e;apply#[trivial,?_];dsimp!;exact k0 p C A j g
  .rintro x r u C ⟨l,t,y,e,k,g,j,rfl⟩ M;cases t with
   | nil=>cases k
   | cons f t =>
    cases k;apply#[trivial,?_];let B:f∈i:=by rw[<- e];simp
    let I:=Ho (Ts Q) f B;let Z:=Qp B;let X:bS l+(mK f+bS t)=bS i:=by rw[<- e,CL];rfl
    let DS:=Hu l;simp![j];apply bV #[_,rfl,I,(),(PZ S B),λq G2 f2 L g2=>?_];let H:=g2.kp _ _ j;let J:p≠q:=aT j f2;let DR:(eA f).l<=mK f:=by let:=Qf (eA f);rw[Xf] at this;exact this
    simp![H,L];apply#[D4 (m:=2000) (by rw[lO,lO];omega) ∅,M _ _ #[l++[f],t,_,by rw[<- e];simp,rfl,#[λc o h=>?_],?_,rfl]]
    .rw[aA (aT h A)];exact g2.kp _ _ (g.kp _ _ h)
    .rw[ay,QO,<- CP];simp[aF]
def x50{n dp:br}(l:n<*T.ig.1<*fU dp):n+1<*T.oR.1<*nL dp:=by
 apply dk T.oR.1 w28 (λ_ _ _ _ _ _ i =>
   (ar (aH (bA (aP i) (¬0) aR (ag _)) (az (a_ (i8 (bA (aP i) (¬0) ax (ag _)) (cw gX) (aM mL (ek l i #v[¬0]) (¬0))))) b_)
   (ar (aH (bA (aP i) (¬0) aR (ag _)) (az (a_ (cw #v[(bh #v[aR,¬0,(iE ym rfl T.cj ∅ #v[(ek l i #v[¬0])]),(iE ym rfl T.cj ∅ #v[(ek l i #v[¬0])])])]))) b_)
   (az (a_ (cw #v[!0])))))) (λO G R h=>?_)
 .let#[r,rfl,y,hw,j,k0]:=h;cases r with
  | is x a =>simp![df];dsimp!;dsimp!;exact#[∅,λp f=>k0 p _ f ay (aj.j.S f)]| op x o a b =>simp![df];dsimp!;dsimp!;exact#[∅,λp f=>k0 p _ f ay (aj.j.S f)]| e_ a g u =>
   simp![df];let C:1+max (aW g) (aW u)<=dp:=y;let A:1+bS g+bS u<=1000:=hw;rw[cp ∅];apply bV #[_,rfl,(),(),j.1,λB J f1 q g1=>?_];simp![q,bt];apply bV #[_,rfl,(),(),j.2,λN Q f2 E g2=>?_];simp![E,bt];apply#[∅,∅,λp f=>k0 p _ ?_ ?_ ((g1.u g2).S f)]
   .exact(g1.u g2).none f
   .rw[ay];rfl
  | fN k g =>
   let C:1+aW g<=dp:=y;let A:k*bS g<=1000:=hw;simp![df];apply fq (λI=>?_) (λI=>?_)
   .have t:k=0:=()
    subst t;exact#[∅,λp f=>k0 p _ f (by rw[ay];rfl) (aj.j.S f)]
   .have S:bS g<=k*bS g:=uq _ ();apply bV #[_,rfl,(),(),j.2.1,λB J f1 q g1=>?_];simp![q];let M:=Hu g;let L:(aF g).l*k<=1000:=D4 (N5 k M) (by rw[Pb];exact A);let H:=j.2.2;apply#[#[(),(),D4 (m:=1000) (by rw[lO];exact L) ∅],λp f=>k0 p _ (g1.none f) ?_ (g1.S f)];rw[ay,Yx];rfl
def x58{n:br}(NV:n<*T.pe.1<*wV):n+1<*T.l0.1<*tG:=by
 apply dk T.l0.1 gy (λ_ _ _ _ _ _ Y =>
   (ar (aN 2 gy.nd (ek NV Y #v[!0]))
   (ar (aH (sL (w_or (bA (aP Y) (cM eG rfl T.aY ∅ #v[!1]) ax (ag _)) (w_or (bA (fE) (cM ww2 rfl T.qk ∅ #v[!1]) ax (ag _)) (CC (bA (mI Y) (cM ww0 rfl T.tj ∅ #v[!1]) (cM eG rfl T.aY ∅ #v[!2]) (ag _)))))) (az QC) b_)
   (ar (aN 3 gy.nd (cw gX))
   (ar (aN 4 gy.nd ax)
   (ar (jL (gY (!1)) (bY 5 gy.nd) (ar (dP (mM (!3) #v[(z0 Cn (!2) (Fi (!4)) (Fi (aM cn (!4) (!5))))]))
   (az (PR 4 gy.nd (!5) AL))))
   (az (a_ (!3))))))))) (λds G R h=>?_)
 .let#[x,y,Q,ca,i,rfl,r8,hd,hw,hb,hl,E,A]:=h;simp!;apply bV #[_,_,_,rfl,hd,hw,hb,λqp G1 fp X g1=>?_];let g:=g1.kp _ _ r8;let eK:i.l≠0:=λz=>E.1 (Kc.mp z);simp![g,B0];generalize hu:fo (i9 (wz iy) (sH 3)) _=u;dsimp![g,B0];apply fq (λq=>?_) (λq=>?_)
  .exact cz (by unfold nI at q;rw[B0] at q;omega) eK
  simp![WL,g,bt,FC];apply#[by unfold nI;rw[B0];omega,λM hM RS=>fq (λq1=>?_) (λq1=>?_)]
  .let#[k,hk,rfl]:=D6.mp hM;let:=E.2.1 k hk;omega
  simp![vq,g,bt,FC,X,lO];let q2:(nI i).sum=((aF Q).l:bz):=by rw[w73,E.2.2]
  rw[cp (by rw[cA q2];decide)];subst hu;generalize hO:aF Q=O at *;dsimp!;apply#[∅,λf B=>?_];let vV:qp≠f:=aT X B;let qN:ca≠f:=aT g B;let Ld:=g1.none B;dsimp!;dsimp![aA qN,g,bt];let FY:=hl;apply jO (λr L Z=>uG λ(l t:bf br) (as:bf fy) (N:b0 D)=>BZ (l++t=i) (r=(nI t).t .int) (aj G1 Z) (Z f=du (.lst (as.t .ref))) (∀a∈as,G a=dv) (∀a∈as,a≠f) (lJ Z as (gS l O)) (as.l=l.l) (L=[du (.tup [x,y,.tup (bc Q)]),du (.ref ca),du (.ref qp),du (.ref f),du (.int (l.sum:bz)),N])) #[[],i,[],dv,rfl,rfl,aj.j.S B,ay,(λa h=>nomatch h),(λa h=>nomatch h),rfl,rfl,rfl] ?_ ?_
  .intro L J #[l,t,as,N,e,I,g2,j,f1,f2,S,p,rfl];let ht:t=[]:=by
    cases t with
    | nil=>rfl| cons x t=>cases I
   subst ht;rw[D7] at e;subst e;apply#[by rw[g2.kp _ _ g],?_];dsimp!;exact A f as J Ld f1 f2 j S (g1.u g2)
  .rintro z r L J ⟨l,t,as,N,e,I,g2,j,f1,f2,S,p,rfl⟩ ih;cases t with
   | nil=>cases I
   | cons c t =>
    cases I;apply#[by rw[g2.kp _ _ g],?_];let Z':l.sum+c<=O.l:=by rw[<- E.2.2,<- e,GF,N8];omega
    let vf:l.l<i.l:=by rw[<- e,B4,C0];omega
    let u_:=g2.kp _ _ X;simp![u_,bt,j];intro C H;let U:f≠C:=aT j H;simp![aA U,j];rw[wu3 Z'];apply#[C6 (m:=1000) (by rw[B0];omega) ∅,?_];dsimp!;let g3:=g2.S (o:=.lst (bc ((O.G l.sum).fh c))) H;let keep:∀a∈as,∀o,J a=du o->aC (aC J C (.lst (bc ((O.G l.sum).fh c)))) f (.lst (as.t D.ref++[.ref C])) a=du o:=λa ha o ho=>by rw[aA (f2 a ha),aA (aT ho H)];exact ho
    apply ih _ _ #[l++[c],t,as++[C],du (.int (c:bz)),by rw[<- e];simp,rfl,g3.own B,by rw[ay,B7];rfl,?_,?_,?_,by rw[B4,B4,p];rfl,by rw[GF];simp]
    .intro a ha;rcases F7.mp ha with ha|ha
     .exact f1 a ha
     .rw[D8.mp ha];exact(g1.u g2).none H
    .intro a ha;rcases F7.mp ha with ha|ha
     .exact f2 a ha
     .rw[D8.mp ha];exact E1 U
    .rw[v43];exact lJ.snoc (by rw[aA (E1 U),ay]) (S.u_ keep)
def xb4{n:br}(Ob:n<*T.pE.1<*xb)(U:n<*T.l0.1<*tG):n+1<*T.ml.1<*tQ:=by
 apply dk T.ml.1 w45 (λ_ _ _ _ _ _ N =>
   (az (a_ (jM (N':=["stretch", "program"]) (ix:=[dv,du 0]) (iA rfl rfl rfl) (gY (ek U N #v[!0,!1])) (λ_ _ _ _=>(bY 0 (show(["stretch", "program"]:bf gq).Nodup by decide))) (λ_ _ _ _=>jN) (λ_ _ _ _=>(ek Ob N #v[!0,!1])))))) (λds G R h=>?_)
 .let#[W,J,g,ca,j,rfl,X,hd,hw,I,hl,O,ok,k0]:=h;simp!;apply bV #[_,_,g,ca,j,rfl,X,hd,hw,I,hl,O,λq as y hq f1 f2 k Y g1=>?_];simp![k,bt];intro E o;let n3:q≠E:=aT k o;let Ld:=g1.none o;let hlp:(gS j (aF g)).l<=1000:=by let:=cv J1 (QA j (aF g) (by rw[O.2.2];exact B9 _));rw[B0] at this;omega
  generalize RQ:gS j (aF g)=L at *;apply jP (λr A S=>uG λ(l t:bf (bf ai)) (f:bf fy) (v:b0 D)=>S_ (l++t=L) (r=f.t .ref) (∀a∈f,a∈as) (lJ y f t) (aj y S) (S E=du (.lst ((l.t (qj W J)).t .int))) (A=[v,du (.tup [.int (W:bz),.tup (J.t .str),.tup (bc g)])])) #[[],L,as,dv,rfl,rfl,λa h=>h,Y,aj.j.S o,ay,rfl] ?_ ?_
  .intro A Q #[l,t,f,v,e,u,M,i,g2,H,rfl];let ha:f=[]:=by
    cases f with
    | nil=>rfl| cons x t=>cases u
   subst ha;let ht:t=[]:=by let:=i.len;exact E6 this.M
   subst ht;rw[D7] at e;subst e;apply#[by rw[g2.kp _ _ k],?_];exact k0 E Q Ld H (g1.u g2)
  .rintro z r A Q ⟨l,t,f,v,e,u,M,i,g2,H,rfl⟩ ih;cases f with
   | nil=>cases u
   | cons a f =>
    cases u;cases t with
    | nil=>exact cz i.len (by simp)| cons p t =>
     obtain⟨C,B⟩:y a=du (.lst (bc p))/\lJ y f t:=by let#[p',t',e',h1,h2]:=i;cases e';exact#[h1,h2]
     apply#[by rw[g2.kp _ _ k],?_];simp!;apply bV #[a,W,J,p,_,rfl,g2.kp _ _ C,ok p (by rw[<- e];simp),λG3 g3=>?_];let Z:=g3.kp _ _ H;simp![Z];let vf:l.l<L.l:=by rw[<- e,B4,C0];omega
     apply#[C6 (m:=1000) (by rw[B0,B0];omega) ∅,ih _ _ #[l++[p],t,f,_,by rw[<- e];simp,rfl,λb I=>M b (C2 _ I),B,(g2.u g3).own o,?_,rfl]];rw[ay,B7,B7];rfl
def xb5{n:br}(Oa:n<*T.pC.1<*xa)(S:n<*T.kC.1<*qv)(N:n<*T.l9.1<*qu)(J:n<*T.mw.1<*tT):n+1<*T.mm.1<*tR:=by
 apply dk T.mm.1 dY (λ_ _ _ _ _ _ g =>
   (ar (aN 3 dY.nd ax)
   (ar (aN 4 dY.nd gJ)
   (ar (jL (Rg rfl T.cK #v[!0]) (yY (n:=2) rfl (jv (bY 5 dY.nd) (jv (bY 6 dY.nd) za))) (ar (aH (bA (aP g) (¬6) aR (ag _)) (ar (aN 7 dY.nd (CA (ek N g #v[!1,!3]) (AA (UE (!4)))))
   (az (aN 4 dY.nd gJ))) (az (aN 7 dY.nd (ek Oa g #v[!6,!3,!1,!2]))))
   (ar (aH (yZ (lb (!7))) (az QC) b_)
   (az (aN 3 dY.nd (ek J g #v[!6,!3]))))))
   (ar (aH (sL (w_and (lb (!4)) (CI (bA (aP g) (!3) ax (ag _))))) (az (a_ aR)) b_)
   (ar (aH (sL (w_and (yZ (lb (!4))) (CI (bA (aP g) (!3) (ek S g #v[!1]) (ag _))))) (az (a_ aR)) b_)
   (az QC))))))) (λds G R h=>?_)
 .let#[a,w,f,s,b,rfl,C,X,vV,qN,hl,k0]:=h;let#[B,DG,Ec]:=X.gV;simp!;dsimp!;dsimp![E_,C];apply jO (λr m i=>Ey λ(l t:bf Pm) (u q o:b0 D)=>jX (l++t=w) (r=wo l.l (t.t bX)) (i=G) (m=[du (.ref a),du (.int (f:bz)),du (.int (s:bz)),du (.int (cL 0 l:bz)),du (.bl (lT eH l)),u,q,o])) #[[],w,dv,dv,dv,rfl,rfl,rfl,rfl] ?_ ?_
  .intro m i #[l,t,u,q,o,e,k,rfl,rfl];let U:t=[]:=by
    cases t with
    | nil=>rfl| cons x t=>cases k
   subst U;rw[D7] at e;subst e;apply#[by rw[C];rfl,?_];rw[DG,Ec];cases b with
   | false =>simp?;exact k0| true =>simp?;apply iD (v:=.int (1*2^(f-1))) (G1:=i) (λR h=>#[f,rfl,(),(λe=>()),λj e=>by subst e;exact h]) ?_;let Y:(((2^(f-1):br):bz)=1*2^(f-1))=dm:=eq_true (by simp);simp![Y];exact k0
  .rintro z r m i ⟨l,t,u,q,o,e,k,rfl,rfl⟩ I;cases t with
   | nil=>cases k
   | cons H t =>
    cases k;apply#[by rw[C];rfl,?_];let y:gV f s 0 eH (l++H::t):=by rw[e];exact B
    let#[A,o1]:=iz.mp y;let Z:=WR (W9 f) A;cases H with
    | none =>
     let#[#[Q,O],_]:=o1;let L:vF f (cL 0 l)=dS:=by unfold vF;rw[Q];simp
     simp![bX];apply PB () ?_;rw[L,O];simp!;dsimp!;dsimp!;apply iD (v:=.int (cL 0 l:bz)) (G1:=i) (λR h=>#[dv,cL 0 l,rfl,trivial,h]) ?_;simp!;exact I _ _ #[l++[dv],t,_,_,_,by rw[<- e,D5];rfl,by rw[B4];rfl,rfl,by rw[AV,Fs];rfl]
    | some p =>let#[o1,_]:=o1;let M:((if p.1=dS then("lay" :gq) else "clear") = "show")=b8:=c_ (by cases p.1 <;> decide);simp![bX,mD,pD,mP,M];apply iD (v:=.bl dS) (G1:=i) (λR h=>#[p,cL 0 l,f,s,rfl,o1,(),Z,h]) ?_;simp!;dsimp!;apply iD (v:=.int (xr (cL 0 l) p.2:bz)) (G1:=i) (λR h=>#[du p,cL 0 l,rfl,#[#[o1.1.1,by let:=o1.1.2;omega],o1.2.2.1],h]) ?_;simp!;exact I _ _ #[l++[du p],t,_,_,_,by rw[<- e,D5];rfl,by rw[B4];rfl,rfl,by rw[AV,Fs];rfl]
def x79{n:br}(k:n<*T.l9.1<*qu)(q:n<*T.ma.1<*tJ):n+1<*T.pC.1<*xa:=by
 apply dk T.pC.1 rB (λ_ _ _ _ _ _ f =>
   (ar (aN 4 rB.nd (¬0))
   (ar (aH (sL (w_or (bA (fE) (!4) ax (ag _)) (w_or (bA (qT) (!4) (!2) (ag _)) (CC (yZ (lb (ek k f #v[(aM fg (!4) ax),!1]))))))) (az (a_ gJ)) b_)
   (ar (aH (bA (aP f) (¬0) aR (ag _)) (az (a_ (CA (UE (ek k f #v[!4,!1])) (AA (j0 (fE) (ek q f #v[!1]) (!3) (ag _)))))) b_)
   (az (a_ (ek k f #v[!4,!1]))))))) (λM G R h=>?_)
 .let#[p,m,i,s,rfl,A,I,y,k0]:=h;let#[#[L,J],r,j,C]:=A;let u:((p.2:bz)<1)=b8:=c_ ();let t:((i:bz)<(p.2:bz))=b8:=c_ ();let E:(p.2:bz)-1=((p.2-1:br):bz):=()
  let H:vF (p.2-1) m=dS:=by
   unfold vF;rcases r with z|z
   .have:p.2-1=0:=()
    rw[this];rfl
   .have:p.2-1-1=p.2-2:=()
    rw[this,z];simp
  let o:vF p.2 m=d_ p.2 m:=by
   unfold vF d_;let:(p.2==0)=eH:=by rw[beq_eq_false_iff_ne];omega
   rw[this];simp
  simp![mD,pD,mP];dsimp![u,t,E];apply PB () ?_;rw[H];cases g:p.1 with
  | true =>
   rw[g] at j;let l:d_ p.2 m=eH:=by simpa using j.M
   simp?[g];apply PB () ?_;rw[o,l];simp!;apply iD (v:=.int (pc i m:bz)) (G1:=G) (λR h=>#[i,m,rfl,y,h]) ?_;let B:=C g;let:((pc i m:bz)<(s:bz))=dm:=eq_true (by rw[w67];omega);simp![this];exact k0
  | false =>
   rw[g] at j;let l:d_ p.2 m=dS:=by simpa using j.M
   let x:(("clear" :gq) = "lay")=b8:=c_ ∅;simp?[g,x];apply PB () ?_;rw[o,l];exact k0
def x66{n:br}:n+1<*T.kC.1<*qv:=by
 apply dk T.kC.1 w32 (λ_ _ _ _ _ _ l =>
   (az (a_ (i8 (bA (qT) (!0) ax (ag _)) (aM CF ax (aM fg (!0) ax)) ax)))) (λo G R h=>?_)
 .let#[k,rfl,m,g,f]:=h;cases k with
  | zero =>simp!;exact g rfl| succ i =>
   let j:(((i+1:br):bz)-1)=(i:bz):=()
   let c:lL 1 (i:bz):=Qa () ();let p:((0:bz)<((i+1:br):bz))=dm:=eq_true ();simp![j,c,p];exact f i rfl
def x60{n:br}(g:n<*T.kC.1<*qv):n+1<*T.l9.1<*qu:=by
 apply dk T.l9.1 w30 (λ_ _ _ _ _ _ f =>
   (az (a_ (LK (j0 (aP f) (!0) ax (ag _)) (AA (j0 (mI f) (aM PV (!1) (ek g f #v[!0])) ax (ag _))))))) (λo G R h=>?_)
 .let#[k,m,rfl,l,k0]:=h;cases k with
  | zero =>simp!;exact k0| succ i =>
   let p:(((i+1:br):bz)=0)=b8:=c_ ();simp![p];apply iD (v:=.int (1*2^i)) (G1:=G) (λR h=>#[i+1,rfl,l,(λe=>by cases e),λj e=>by cases e;exact h]) ?_;simp!;let e:(!decide (Q6 (m:bz) (1*2^i)=0))=vF (i+1) m:=by unfold vF;rw[T8];simp only[wv5,Bool.not_eq_true',decide_eq_false_iff_not,L0,oK,beq_iff_eq,Nat.add_one_ne_zero,false_or,Bool.not_eq_false]
   rw[e];exact k0
def x82{n:br}:n+1<*T.ma.1<*tJ:=by
 apply dk T.ma.1 j8 (λ_ _ _ _ _ _ t =>
   (ar (aN 1 j8.nd ax)
   (ar (QD (bA (qT) (!0) ax (ag _)) (ar (PR 1 j8.nd (aM PV (!0) ax) AL)
   (az (aN 0 j8.nd (aM ww1 (!0) ax)))))
   (az (a_ (!1)))))) (λu G R h=>?_)
 .let#[b,m,rfl,l,k0]:=h;simp!;dsimp!;apply Q_ (λc f j=>B' λ(x y:br)=>jX (j=G) (f=[du (.int (x:bz)),du (.int (y:bz))]) (x<2^c) (y+pc c x=pc b m)) #[m,0,rfl,rfl,l,()] ?_;rintro c f j N ⟨x,y,rfl,rfl,i,g⟩ k;by_cases o:x=0
  .subst o;simp!;rw[wo1] at g;let:y=pc b m:=()
   subst this;simp?;exact k0
  .have p:((0:bz)<(x:bz))=dm:=eq_true ();simp![p];cases c with
   | zero=>exact cz i ()| succ c =>
    let e:Q6 (x:bz) 1=((x%2:br):bz):=by rw[show(1:bz)=((1:br):bz) from rfl,Xu,Nat.and_one_is_mod]
    let r:(x:bz) / 2^(Int.toNat 1)=((x / 2:br):bz):=by simp
    let q:(y:bz)+((x%2:br):bz)=((y+x%2:br):bz):=()
    simp?[e,r,q];apply#[∅,?_];apply k _ _ c rfl #[x / 2,y+x%2,rfl,rfl,?_,?_]
    .rw[EM] at i;omega
    .rw[wo2] at g;omega
def xc3{n:br}(q:n<*T.kC.1<*qv):n+1<*T.mw.1<*tT:=by
 apply dk T.mw.1 w50 (λ_ _ _ _ _ _ f =>
   (ar (aH (bA (aP f) (¬0) aR (ag _)) (az (a_ (aM Up (!1) (ek q f #v[¬0])))) b_)
   (ar (aH (bA (aP f) (¬0) aR (ag _)) (az (a_ (aM PV (!1) (sv xo3 (ek q f #v[¬0]))))) b_)
   (az (a_ (!1)))))) (λC G R h=>?_)
 .let#[p,m,rfl,A,k0]:=h;cases p with
  | none =>let l:(("show" :gq) = "lay")=b8:=c_ ∅;let u:(("show" :gq) = "clear")=b8:=c_ ∅;simp?[bX,l,u];exact k0| some p =>
   let#[o,k]:=p;let#[#[y,t],x]:=A;obtain⟨i,rfl⟩:∃i,k=i+1:=#[k-1,by let:1<=k:=y;omega];let t:i+1<=24:=t;let r:(!m.testBit i)=o:=x.M;let k0:R (.int ((m ^^^ 2^i:br):bz)) G:=k0;let l:(("clear" :gq) = "lay")=b8:=c_ ∅;cases o with
   | true =>
    let g:m.p i=eH:=by simpa using r
    simp![bX,mD,pD,mP];apply iD (v:=.int (1*2^i)) (G1:=G) (λR h=>#[i+1,rfl,(),(λe=>by cases e),λj e=>by cases e;exact h]) ?_;simp![wr0 g];exact k0
   | false =>
    let g:m.p i=dS:=by simpa using r
    simp![bX,mD,pD,mP,l];dsimp!;apply iD (v:=.int (1*2^i)) (G1:=G) (λR h=>#[i+1,rfl,(),(λe=>by cases e),λj e=>by cases e;exact h]) ?_;simp![Cp,wu4 g];exact k0
def x65{n:br}(y:n<*T.mw.1<*tT):n+1<*T.pb.1<*tH:=by
 apply dk T.pb.1 iO (λ_ _ _ _ _ _ C =>
   (ar (aN 1 iO.nd ax)
   (ar (aN 2 iO.nd (cw #v[!1]))
   (ar (jL (gY (!0)) (bY 3 iO.nd) (ar (aN 1 iO.nd (ek y C #v[!3,!1]))
   (az (dP (mM (!2) #v[!1])))))
   (az (a_ (!2))))))) (λL G R h=>?_)
 .let#[a,w,rfl,u,E,J,k0]:=h;simp!;dsimp!;apply#[∅,λp k=>?_];let I:a≠p:=aT u k;let j:∀{o:DO},aC G p o a=du (.lst (w.t bX)):=λ{o}=>by rw[aA I];exact u
  dsimp![j];apply jO (λr i q=>kY λ(l t:bf Pm) (v:b0 D)=>jX (l++t=w) (r=t.t bX) (q=aC G p (.lst ((0::f' 0 l).t nD))) (i=[du (.ref a),du (.int (cL 0 l:bz)),du (.ref p),v])) #[[],w,dv,rfl,rfl,rfl,rfl] ?_ ?_
  .intro i q #[l,t,v,e,g,rfl,rfl];let B:t=[]:=by simpa using g.M
   subst B;rw[D7] at e;subst e;apply#[by rw[j];rfl,?_];dsimp!;exact k0 p _ k ay (aj.j.S k)
  .rintro z r i q ⟨l,t,v,e,g,rfl,rfl⟩ A;cases t with
   | nil=>cases g
   | cons f t =>
    cases g;apply#[by rw[j];rfl,?_];let x:nU 0 (l++f::t):=by rw[e];exact E
    let#[_,o1,_]:=sS.mp x;simp!;apply iD (v:=.int (jc (cL 0 l) f:bz)) (G1:=aC G p (.lst ((0::f' 0 l).t nD))) (λR h=>#[f,cL 0 l,rfl,o1,h]) ?_;simp!;dsimp!;let H:=cv J1 e;rw[B4,C0] at H;apply#[?_,A _ _ #[l++[f],t,du (bX f),by rw[<- e,D5];rfl,rfl,?_,?_]]
    .rw[B0,QE];exact C6 (m:=3001) () ∅
    .rw[gb,XM];simp[f',nD]
    .rw[AV];rfl
def x77{n:br}(I:n<*T.ma.1<*tJ)(X:n<*T.pb.1<*tH):n+1<*T.pB.1<*w_:=by
 apply dk T.pB.1 w37 (λ_ _ _ _ _ _ C =>
   (az (a_ (cM w05 rfl T.ql ∅ #v[(jM (N':=["marks"]) (ix:=[dv]) (iA rfl rfl rfl) (gY (ek X C #v[!0])) (λ_ _ _ _=>(bY 0 (show(["marks"]:bf gq).Nodup by decide))) (λ_ _ _ _=>jN) (λ_ _ _ _=>(ek I C #v[!0])))])))) (λds G R h=>?_)
 .let#[a,w,rfl,Q,E,O,k0]:=h;simp!;apply wu8 Q E O λq A f1 j g1=>?_;let H:=w58 (W9 24) E;obtain⟨k,i⟩:∃k,k=0::f' 0 w:=#[_,rfl];let S:k.l<=3001:=by rw[i,C0,QE];omega
  rw[<- i] at j k0 H;let y:0<k.l:=by rw[i];simp
  simp![j];intro p u;apply jP (λr t B=>kY λ(g f:bf br) (v:b0 D)=>jX (g++f=k) (r=f.t nD) (B=aC A p (.lst ((g.t λm=>(mx 24 m:bz)).t .int))) (t=[v])) #[[],k,dv,rfl,rfl,rfl,rfl] ?_ ?_
  .intro t B #[g,f,v,e,o,rfl,rfl];let N:f=[]:=by simpa using o.M
   subst N;rw[D7] at e;subst e;apply#[by rw[aA (aT j u),j];rfl,?_];apply vb4 (ns:=g.t λm=>(mx 24 m:bz)) (by rw[ay];rfl) (by rw[B0];exact y) λM U L=>?_;exact k0 M _ U L (g1.S u)
  .rintro z r t B ⟨g,f,v,e,o,rfl,rfl⟩ J;cases f with
   | nil=>cases o
   | cons x f =>cases o;apply#[by rw[aA (aT j u),j];rfl,?_];let l:=cv J1 e;rw[B4,C0] at l;simp![nD];apply iD (v:=.int (mx 24 x:bz)) (G1:=aC A p (.lst ((g.t λm=>(mx 24 m:bz)).t .int))) (λR h=>#[24,x,rfl,H x (by rw[<- e];simp),by rw[w67];exact h]) ?_;simp!;apply#[by rw[B0,B0];exact C6 (m:=4000) () ∅,J _ _ #[g++[x],f,_,by rw[<- e,D5];rfl,rfl,?_,rfl]];rw[gb,B7,B7];rfl
def x44{n:br}:n+1<*T.oN.1<*wH:=by
 apply dk T.oN.1 w25 (λ_ _ _ _ _ _ O =>
   (az (a_ (cM ww0 rfl T.tj ∅ #v[(jM (N':=["move", "costs"]) (ix:=[dv,du 1]) (iA rfl rfl rfl) (gY (!0)) (λ_ _ _ _=>(bY 0 (show(["move", "costs"]:bf gq).Nodup by decide))) (λ_ _ _ _=>(XD (bA (mI O) (¬0) aR (ag _)))) (λ_ _ _ _=>(bH bF (!1) (aM fg (¬0) ax))))])))) (λZ G R h=>?_)
 .let#[a,b,w,j,rfl,B,I,Y,S,k0]:=h;simp![B];intro p u;let E:∀{o:DO},aC G p o a=du (.lst (w.t bX)):=λ{o}=>by rw[aA (aT B u)];exact B
  let M:∀{o:DO},aC G p o b=du (.lst (j.t .int)):=λ{o}=>by rw[aA (aT I u)];exact I
  apply jP (λr t C=>uG λ(i f:bf Pm) (g:bf bz) (v:b0 D)=>yL (i++f=w) (r=f.t bX) (C=aC G p (.lst (g.t .int))) (g.l<=i.l) (g.sum=eh j i) (t=[v,du (.ref b)])) #[[],w,[],dv,rfl,rfl,rfl,by simp,rfl,rfl] ?_ ?_
  .intro t C #[i,f,g,v,e,q,rfl,A,l,rfl];let N:f=[]:=by simpa using q.M
   subst N;rw[D7] at e;subst e;apply#[by rw[E];rfl,?_];apply vb1 (ns:=g) (by rw[ay];rfl) ?_;rw[l];exact k0 _ (aj.j.S u)
  .rintro z r t C ⟨i,f,g,v,e,q,rfl,A,l,rfl⟩ H;cases f with
   | nil=>cases q
   | cons x f =>
    cases q;apply#[by rw[E];rfl,?_];let k:=cv J1 e;rw[B4,C0] at k;cases x with
    | none =>simp![bX];apply H _ _ #[i++[dv],f,g,_,by rw[<- e,D5];rfl,rfl,rfl,by simp;omega,?_,rfl];rw[Hx,l];show _=_+0;omega| some y =>
     let X:=S y (by rw[<- e];simp);let L:((if y.1=dS then("lay" :gq) else "clear") = "show")=b8:=c_ (by cases y.1 <;> decide);let Q:((y.2:br):bz)-1=((y.2-1:br):bz):=()
     let J:cS (j.t D.int) ((y.2-1:br):bz)=du (.int (j.E (y.2-1) 0)):=by apply vy ?_;rw[F5,B6 ()];simp[List.getD,B6 (show y.2-1<j.l by omega)]
     simp![bX,mD,pD,mP,L,M,Q,J];apply#[by rw[B0];exact C6 (m:=4000) () ∅,H _ _ #[i++[du y],f,g++[j.E (y.2-1) 0],_,by rw[<- e,D5];rfl,rfl,?_,by simp;omega,?_,rfl]]
     .rw[gb,B7];rfl
     .rw[Hx,GF,l];show _+(_+0)=_+(_+0);rfl
def x83{n:br}(xP:n<*T.mh.1<*tO)(xM:n<*T.l0.1<*tG)(xS:n<*T.mm.1<*tR)(NR:n<*T.o9.1<*wQ)(NY:n<*T.pz.1<*wY)(Od:n<*T.pH.1<*xh):n+1<*T.pG.1<*xg:=by
 apply dk T.pG.1 iR (λ_ _ _ _ _ _ k =>
   (ar (aN 4 iR.nd (ek xM k #v[!0,!1]))
   (ar (aN 5 iR.nd (ek xS k #v[!3,(cM eG rfl T.aY ∅ #v[!4]),!2]))
   (ar (aN 6 iR.nd (ek NR k #v[!3,(cM eG rfl T.aY ∅ #v[¬0])]))
   (ar (aN 7 iR.nd (ek NY k #v[!0,!4,!3,!6]))
   (ar (aH (bA (aP k) (!5) aR (ag _)) (az (dP (mM (!7) #v[(ek Od k #v[(zc k (bH bF (!6) (sv EZ ax)) (cM eG rfl T.aY ∅ #v[!4])),(cM eG rfl T.aY ∅ #v[¬0])])]))) b_)
   (az (a_ (ek xP k #v[!7]))))))))) (λds G R h=>?_)
 .let#[W,g,rs,ca,O,ks,w,s,b,rfl,r8,cG,ok,k0]:=h;let hb:=ok.pk.hb;let yC:=ok.pk.yC;let vd:=ok.wl;let hs8:=ok.s8;let#[uv,hl4]:=ok.len;simp!;apply bV #[_,_,rs,ca,ks,rfl,r8,ok.dp,ok.wt,ok.bd,by let:=ok.kl;omega,ok.gd,λq1 as G1 n1 f1 f2 k1 pa g1=>?_];let I:=ok.pl;let pk0:=ok.pk;generalize RQ:gS ks (aF rs)=p at *;let#[U,DG,M]:=L3.lI.gV I;let aB:=Xy () U;simp!;dsimp![k1,bt,B0,pa.len];apply bV #[O,w,p.l,s,b,rfl,g1.kp _ _ cG,I,uv,(),(),?_];simp!;dsimp![B0];let#[B,Y,Z]:=wp0 w;let hB8:B<=8:=D4 (wu5 () U Y) hs8;apply bV #[O,g.l,B,w,rfl,g1.kp _ _ cG,hb,(),(),aB,λx J=>Z x (C2 _ J),λq2 ss E S G2 n2 f3 f4 k2 uh H g2=>?_];simp!;dsimp!;apply bV #[W,g,_,p,q1,O,q2,as,ss,S,w,s,B,rfl,g2.kp _ _ k1,pa.kp g2.kp,(g1.u g2).kp _ _ cG,k2,uh,aB,U,hB8,Y,λx J=>Z x (C2 _ J),uv,hl4,vd,pk0,λN cs S1 Ie G3 eS Gj n3 Q cl L FT g3=>?_];let gg:=(g1.u g2).u g3;simp!;generalize hu:kH _=u;let rest:∀(C:Gp) (o:bf cE),Mg W g p b w o->aj G C->C N=du (.lst (o.t cE.d))->(∀c∈o,C c.ra=du (.lst (c.rs.t k'.d))/\vp g.l c)->(∃D,BA ((2+B)*g.l) o D/\((D:br):bz)=eh (p.t (qj W g)) w+(g.l:bz))->0<o.l->o.l<=2010->∀v,Go (u { nx:=λx G'=>R D.non G',rt:=R}) [du (.tup [.int (W:bz),.tup (g.t .str),.tup (bc rs)]),du (.ref ca),du (.int (s:bz)),du (.ref O),du (.ref q1),v,du (.ref q2),du (.ref N)] C:=by
   intro C o md A k4 y hD h0 h1 v;subst hu;dsimp!;apply bV #[N,o,rfl,k4,λc hc=>#[(y c hc).1,(y c hc).2.ln],h0,(),λq5 G5 n5 k5 g5=>?_];apply k0 q5 (ni o) _ o G5 md rfl rfl (A.none n5) k5 (Yu (CS λ_ h=>nomatch h) λr k=>?_) (WX (λ_ h=>nomatch h) λr k row bp=>?_) ?_ ?_ (vh9 λc hc=>(y c hc).2.s2) (λX hX RN=>?_) (A.u g5)
   .let#[c,hc,rfl]:=D6.mp k;exact(y c hc).2.pr
   .let#[c,hc,rfl]:=D6.mp k;exact x78 (Qh hc) ((y c hc).2.ok row bp)
   .rw[Qu];let:=w22 (B:=6000) (l:=(o.t cE.rs).t J1) λx J=>by let#[rr,k,rfl]:=D6.mp J;let#[c,hc,rfl]:=D6.mp k;exact(y c hc).2.ln
    rw[B0,B0] at this;show 0+_<=_;omega
   .cases o with
    | nil=>cases h0
    | cons c t=>exact D4 (y c D0).2.s1 (Qh D0)
   .let#[D,k,hD]:=hD;let hfb:g.l<=(2+B)*g.l:=uq _ ();let#[X',_,f]:=k.run (sz:=ni o) (λc hc=>Qh hc) #[hX,λi hi=>RN i ()];let F:=f _ 0 λj r e=>by rw[L6,Zx];exact e
    rw[L6] at F;exact#[X',D,hD,F]
  let h0:0<w.l:=uw λz=>by
   rw[E6 z] at M DG;cases b with
   | true=>exact cz (show(0:br)=2^(p.l-1) from M) (by let:=W9 (p.l-1);omega)| false=>cases DG
  let q:=XA (W:=W) (bs:=g) rfl U;rw[DG] at q;cases b with
  | false =>dsimp![cW,C4];exact rest G3 cs #[B,Ie,E,S1,_,Y,Z,eS▸H,Gj,λ_=>rfl,λe=>nomatch e] gg Q (λc hc=>#[(L c hc).1,(L c hc).2.2]) #[_,FT,q] () () _| true =>
   dsimp![cW,C4];let#[al,sl,a0,S0,ea,eS0,ka,hI]:=uh.last;let#[_,e9]:=Z1 (eS0.M.u eS) rfl;cases e9;let M:cL 0 w=2^(p.l-1):=M;let jA:d_ p.l (cL 0 w)=dS:=by rw[M];unfold d_;exact Nr
   let#[j,hj,hjB,hv]:=hI.look (m:=g.l) uv () jA;let#[RG,F_,_]:=apart (j:=0) (m:=g.l) hjB rfl;let uF1:(j+2)*g.l<=60:=D4 (Z2 (show j+2<=10 by omega) yC) ∅;let KC:=g3.kp _ _ k2;simp![KC,Q,yd,bt];let ia:cS (ss.t D.ref) (-1)=du (.ref al):=by rw[ea,B7];exact v74 _ _
   simp![ia];let FP:=(g2.u g3).kp _ _ k1;simp![FP,bt,B0,pa.len];apply#[al,_,M7 (p.l:bz),_,rfl,rfl,g3.kp _ _ ka,hv,?_];simp!;apply bV #[(j+2)*g.l,g.l,rfl,(),λq4 C n4 k4 A=>?_];let ZL:=A.kp _ _ Q;simp![ZL];let n34:N≠q4:=aT Q n4;let gl:vp g.l #[(j+2)*g.l+g.l,q4,(D3 g.l).t λi=>k'.swap (g.l+i) ((j+2)*g.l+i)]:=by
    apply#[CS λr k=>?_,λr k=>?_,?_,?_,?_]
    .let#[i,_,rfl]:=D6.mp k;rfl
    .let#[i,hi,rfl]:=D6.mp k;let:=K0.mp hi;exact#[by show g.l+i<(j+2)*g.l+g.l;omega,by show(j+2)*g.l+i<(j+2)*g.l+g.l;omega,by show(j+2)*g.l+i≠g.l+i;omega]
    .show(EI _ _).l<=6000;rw[B0,F0];omega
    .show 2*g.l<=(j+2)*g.l+g.l;omega
    .show(j+2)*g.l+g.l<=2000;omega
   apply#[C6 (m:=3000) (by rw[B0];omega) ∅,rest _ (cs++[#[(j+2)*g.l+g.l,q4,(D3 g.l).t λi=>k'.swap (g.l+i) ((j+2)*g.l+i)]]) #[B,Ie,E,S1,_,Y,Z,eS▸H,Gj,(λe=>nomatch e),λ_=>#[_,hv,by rw[B7];rfl]] ((gg.u A).own ((g1.u g2).none n3)) (by rw[ay,B7];rfl) (λc hc=>?_) #[_,.s FT (wq9 gl RG F_),?_] (by rw[B4];omega) (by rw[B4,Q5];omega) _]
   .rcases F7.mp hc with hc|hc
    .exact⟨by rw[aA (L c hc).2.1];exact A.kp _ _ (L c hc).1,(L c hc).2.2⟩
    .rw[D8.mp hc];exact⟨by rw[aA (E1 n34)];exact k4,gl⟩
   .rw[Pg,q,cp ∅,SN]
def x59{n:br}(u:n<*T.ml.1<*tQ)(t:n<*T.mm.1<*tR)(E:n<*T.oN.1<*wH):n+1<*T.oY.1<*wN:=by
 apply dk T.oY.1 rj (λ_ _ _ _ _ _ f =>
   (ar (aN 4 rj.nd (ek u f #v[!0,!1]))
   (ar (dP (ek t f #v[!3,(cM eG rfl T.aY ∅ #v[!4]),!2]))
   (az (a_ (aM cn (ek E f #v[!3,!4]) (cM eG rfl T.aY ∅ #v[¬0]))))))) (λL G R h=>?_)
 .let#[W,o,i,C,j,k,w,s,b,rfl,y,m,ok,k0]:=h;let I:=ok.pk.yC;let#[x,B]:=ok.len;simp!;apply bV #[W,o,i,C,k,rfl,y,ok.dp,ok.wt,ok.bd,by let:=ok.kl;omega,ok.gd,λp g=>(ok.pk.ok p g).1,λA M J l g1=>?_];generalize q:gS k (aF i)=r at *;simp!;dsimp![l,bt,B0];apply bV #[j,w,r.l,s,b,rfl,g1.kp _ _ m,q▸ok.pl,x,(),by let:=ok.wl;omega,?_];simp!;dsimp!;apply bV #[j,A,w,r.t (qj W o),rfl,g1.kp _ _ m,l,by let:=ok.wl;omega,λp g=>?_,λH g2=>?_]
  .rw[B0];exact vf9 (q▸ok.pl) g
  simp![B0];exact k0 H (g1.u g2)
def x63{n:br}(NQ:n<*T.o7.1<*wO):n+1<*T.o9.1<*wQ:=by
 apply dk T.o9.1 iN (λ_ _ _ _ _ _ hr =>
   (ar (aN 2 iN.nd ws4)
   (ar (aN 3 iN.nd (cw #v[!2]))
   (ar (jL (gY (!0)) (bY 4 iN.nd) (ar (aN 2 iN.nd (ek NQ hr #v[!4,!2,!1]))
   (az (dP (mM (!3) #v[!2])))))
   (az (a_ (!3))))))) (λds G R h=>?_)
 .let#[pa,m,B,w,rfl,X,hm,fA,hs,aB,hB,k0]:=h;simp![xi6];intro u Y;let g0:=aj.j (G:=G) |>.new (o:=.bR []) Y
  dsimp!;apply⟨∅,λg i=>?_⟩;let C:u≠g:=aT ay i;let gt:=g0.S (o:=.lst [.ref u]) i;let K_:=g0.none i;let DN:=gt.kp _ _ X;dsimp![DN,bt];apply jO (λr L J=>Sh λ(l t:bf Pm) (as:bf fy) (M:br) (f:bf (br×br)) (S:bf (bf (br×br))) (p:fy) (v:b0 D)=>OX (l++t=w) (r=t.t bX) (nU M t) (M=cL 0 l) (∀x∈f' M t,mx 24 x<=B) (aj G J) (J g=du (.lst (as.t .ref))) (∀a∈as,G a=dv) (∀a∈as,a≠g) (jH J m B as (0::f' 0 l) S) (Ah l f S) (J p=du (.bR (eY m f))) (qP M B f) (p≠g) (L=[du (.ref pa),du (.int (m:bz)),du (.ref p),du (.ref g),v])) ⟨[],w,[u],0,[],[[]],u,dv,rfl,rfl,aB,rfl,hB,gt,ay,?_,?_,?_,.z,by rw[aA C,ay];rfl,⟨rfl,Pd,λ_ h=>nomatch h⟩,C,rfl⟩ ?_ ?_
  .intro a ha;rw[D8.mp ha];exact Y
  .intro a ha;rw[D8.mp ha];exact C
  .exact#[0,[],[],[],rfl,rfl,by rw[aA C,ay];rfl,#[rfl,Pd,λ_ h=>nomatch h],rfl,rfl]
  .intro L G2 #[l,t,as,M,f,S,p,v,e,I,o2,H,U,g2,E,f1,f2,k,N,Z,hI,np,rfl];let ht:t=[]:=by simpa using I.M
   subst ht;rw[D7] at e;subst e;apply#[by rw[g2.kp _ _ X],?_];dsimp!;exact k0 g as f S G2 K_ f1 f2 E k N g2
  .rintro z r L G2 ⟨l,t,as,M,f,S,p,v,e,I,o2,H,U,g2,E,f1,f2,k,N,Z,hI,np,rfl⟩ ih;cases t with
   | nil=>cases I
   | cons x t =>
    cases I;let#[ok,o3]:=o2;let b3:mx 24 (jc M x)<=B:=U _ D0;apply#[by rw[g2.kp _ _ X],?_];simp!;apply bV #[p,m,M,B,f,x,rfl,hm,fA,Z,hI,ok,b3,λq dr G3 hq k3 j O g3=>?_];let Q:=g3.kp _ _ E;let vf:as.l<=4000:=by let h1:=k.len;let h2:=cv J1 e;rw[B4,C0] at h2;rw[C0,QE] at h1;omega
    simp!;dsimp![Q];let A:q≠g:=E1 (aT E hq);apply#[C6 (m:=4000) (by rw[B0];omega) ∅,?_];apply ih _ _ #[l++[x],t,as++[q],jc M x,dr,S++[dr],q,du (bX x),by rw[<- e];simp,rfl,o3,by rw[AV,<- H];rfl,λy hy=>U y (C2 _ hy),(g2.u g3).own K_,by rw[ay,B7];rfl,?_,?_,?_,.s N (H▸O),by rw[aA A];exact k3,j,A,rfl]
    .intro a ha;rcases F7.mp ha with ha|ha
     .exact f1 a ha
     .rw[D8.mp ha];exact g2.none hq
    .intro a ha;rcases F7.mp ha with ha|ha
     .exact f2 a ha
     .rw[D8.mp ha];exact A
    .rw[XM,<- H,<- K3];apply jH.snoc (by rw[aA A];exact k3) j (k.kp λa ha o ho=>?_);rw[aA (f2 a ha)];exact g3.kp _ _ ho
def x62{n:br}(Ox:n<*T.pY.1<*xA):n+1<*T.o7.1<*wO:=by
 apply dk T.o7.1 rl (λ_ _ _ _ _ _ L =>
   (ar (aN 3 rl.nd (iE Yp rfl T.gN ∅ #v[!1]))
   (ar (aH (bA (aP L) (¬0) aR (ag _)) (az (QB L (!3) (¬0) (ek Ox L #v[!1,!2]))) (az (aH (bA (aP L) (¬0) aR (ag _)) (az (dP (xh5 (!3) (¬0)))) b_)))
   (az (a_ (iE (w95 L) rfl T.gN ∅ #v[(jM (N':=["mark", "held"]) (ix:=[dv,du 3]) (iA rfl rfl rfl) (gY (cM (vb5 L) rfl T.iB ∅ #v[!3])) (λ_ _ _ _=>(bY 0 (show(["mark", "held"]:bf gq).Nodup by decide))) (λ_ _ _ _=>jN) (λ_ _ _ _=>(bh #v[!0,(zc L (!1) (!0))])))])))))) (λds G R h=>?_)
 .let#[a,m,M,B,H,pv,rfl,hm,fA,ha,i,aB,hB,k0]:=h;simp!;apply#[a,_,rfl,ha,λp hp=>?_];let g1:=aj.j (G:=G) |>.new (o:=.bR (eY m H)) hp
  let np:a≠p:=aT ha hp;let uF0:H.l<=24:=by rw[i.len];exact Ha
  generalize hu:kH _=u;let rest:∀(O:Gp) (h:bf (br×br)),aj G O->O p=du (.bR (eY m h))->h.l<60->(h.t (·.2)).Nodup->(∀x∈h,x.2<B)->hN H h pv->(∀I:bf bz,I.Perm (h.t λx=>(x.1:bz))->I.Pairwise (·<=·)->I=fz (jc M pv))->Go (u { nx:=λx G'=>R D.non G',rt:=R}) [du (bX pv),du (.ref a),du (.int (m:bz)),du (.ref p)] O:=by
   intro O h g1 A hl iI dO hh hk;subst hu;dsimp!;apply#[p,h.t λx=>(x.1:bz),_,rfl,CJ m h,A,by rw[B0];omega,λZ I fj g J=>?_];let pm2:=g;let qM:=hk I g J;subst qM;let n2:p≠Z:=aT A fj;simp![ay,bt];intro Q U;let n3:Z≠Q:=aT ay U;let n4:p≠Q:=aT (show aC O Z _ p=du (.bR (eY m h)) by rw[aA n2];exact A) U;let uE5:O Q=dv:=by rw[aA (E1 n3)] at U;exact U
   let RF:((eY m h).t (·.1)).Nodup:=by rw[CJ];exact Qc ((g.nodup_iff).mp (yl cX))
   apply jP (λr σ G'=>uG λ(l t:bf bz) (C:bf (br×br)) (v:b0 D)=>yL (l++t=fz (jc M pv)) (r=t.t .int) (C.t (λx=>(x.1:bz))=l) (∀x∈C,x∈h) (G'=aC (aC O Z (.lst ((fz (jc M pv)).t .int))) Q (.lst ((eY m C).t Ro))) (σ=[v,du (.ref p)])) #[[],_,[],dv,rfl,rfl,rfl,(λ_ h=>nomatch h),rfl,rfl] ?_ ?_
   .rintro σ G2 ⟨l,t,C,v,e,e2,N,X,rfl,rfl⟩;let ht:t=[]:=by simpa using e2.M
    subst ht;rw[D7] at e;apply#[by rw[aA n3,ay],?_];let g3:=(g1.S (o:=.lst ((fz (jc M pv)).t .int)) fj).S (o:=.lst ((eY m C).t Ro)) U;let Y:qP (jc M pv) B C:=#[N.u e,xd9 (by rw[N,e];exact yl cX) X iI,λx hx=>dO x (X x hx)];apply#[Q,eY m C,rfl,by rw[ay];rfl,by rw[XN,Y.len];let:=Ha (m:=jc M pv) (n:=24);omega,λq hq=>?_];rw[uu6 (acc:=[]) (by rw[J6,CJ,N,e];exact Qc (yl cX)),J6];exact k0 q C _ (g3.none hq) ay Y #[#[h,hh,(g.nodup_iff).mp (yl cX),X],N.u e] (g3.S hq)
   .rintro z r σ G2 ⟨l,t,C,v,e,e2,N,X,rfl,rfl⟩ ih;cases t with
    | nil=>cases e2
    | cons y t =>
     cases e2;let hy:y∈h.t λx=>(x.1:bz):=g.mem_iff.mp (by rw[<- e];simp);let#[x,hx,rfl]:=D6.mp hy;apply#[by rw[aA n3,ay],?_];simp![yd];apply#[p,eY m h,M7 (x.1:bz),_,rfl,rfl,by rw[aA n4,aA n2];exact A,QS RF (D6.mpr #[x,hx,rfl]),?_];simp![ay];apply#[∅,?_,ih _ _ #[l++[(x.1:bz)],t,C++[x],_,by rw[<- e];simp,rfl,by rw[B7,N];rfl,λy hy=>?_,?_,rfl]]
     .have h1:=cv J1 e;let h2:=cv J1 N;rw[B4,C0,Qy] at h1;rw[B0] at h2;let h3:=Ha (m:=jc M pv) (n:=24);rw[B0,XN];exact C6 (m:=1000) () ∅
     .rcases F7.mp hy with hy|hy
      .exact X y hy
      .rw[D8.mp hy];exact hx
     .rw[gb,vd9,B7];rfl
  rcases pv with _|⟨b,k⟩
  .clear aB;dsimp![bX,cW,C4];exact rest _ H g1 ay () i.nd i.lt rfl λI g J=>by rw[i.ks] at g;exact Rf g J (cX.imp X7)
  cases b with
  | true =>
   let#[#[A,S],E]:=aB;let E:d_ k M=eH:=by simpa using E.M
   let hnk:(k:bz)∉H.t λx=>(x.1:bz):=by rw[i.ks,ze A S,E];decide
   dsimp![bX,mD,mP,cW,C4];simp![GW];apply bV #[a,m,H,rfl,hm,fA,(),by rw[aA np];exact ha,λf G2 RI hf3 hf2 g2=>?_];simp!;apply#[p,_,M7 (k:bz),rfl,rfl,g2.kp _ _ ay,?_,?_]
   .rw[XN];exact C6 (m:=1000) () ∅
   .have hup:mx 24 (xr M k)=mx 24 M+1:=AK A S E;let hB:mx 24 (xr M k)<=B:=hB;apply rest _ (H++[(k,f)]) ((g1.u g2).own hp) ?_ (by rw[B4,Q5];omega) ?_ ?_ #[f,RI,hf3,rfl] ?_
    .rw[ay,vd9];unfold oi;rw[vp8 (by rw[CJ];exact λz=>by let#[y,hy,e]:=D6.mp z;rw[OT e] at hy;exact hnk hy),cp ∅];rfl
    .rw[B7];apply U7.mpr #[i.nd,by simp,λx hx y hy=>?_];let:y=f:=by simpa using hy
     subst this;rintro rfl;exact RI hx
    .intro x hx;rcases F7.mp hx with hx|hx
     .exact i.lt x hx
     .rw[D8.mp hx];show f<B;let:=i.len;omega
    .intro I g J;rw[B7,i.ks] at g;exact vi5 A S E g J
  | false =>
   let#[#[A,S],E]:=aB;let E:d_ k M=dS:=by simpa using E.M
   let#[j,hj,_,hv]:=i.look (m:=m) A S E;dsimp![bX,mD,mP,cW,C4];simp![Uz];apply#[#[p,_,rfl,ay],p,_,M7 (k:bz),_,rfl,rfl,ay,hv,?_];apply rest _ (H.filter λx=>!decide ((x.1:bz)=k)) (g1.own hp) ?_ (C6 (TL _ _) ()) ((i.nd).sublist (List.filter_sublist.map _)) (λx hx=>i.lt x (GG.mp hx).1) rfl ?_
   .rw[ay];unfold Hb eY;rw[Lw];congr 3;apply KZ λx _=>?_;show(!decide ((M7 (x.1:bz):lR)=M7 (k:bz)))=_;congr 2;exact propext #[λe=>OT e,λe=>by rw[e]]
   .intro I g J;let e:(H.filter λx=>!decide ((x.1:bz)=k)).t (λx=>(x.1:bz))=(fz M).filter λz=>!decide (z=(k:bz)):=by rw[<- i.ks,Lw];rfl
    rw[e,uv3 A E] at g;exact Rf g J (cX.imp X7)
def xb2{n:br}:n+1<*T.pY.1<*xA:=by
 apply dk T.pY.1 kf (λ_ _ _ _ _ _ r =>
   (ar (aN 2 kf.nd (va4 r (!0) rfl T.di))
   (ar (aN 3 kf.nd (aM mL ax (!1)))
   (ar (QD (bA (k_ r) (!3) (!2) (by with_unfolding_all rfl)) (az (PR 3 kf.nd (!1) AL)))
   (az (a_ (!3))))))) (λQ G R h=>?_)
 .let#[a,m,f,rfl,J,O,L,A,k0]:=h;simp![UC];apply#[a,eY m f,rfl,.inl A,λp y=>?_];let g1:=aj.j (G:=G) |>.new (o:=.lst ((eY m f).t (·.2))) y
  simp!;dsimp!;apply⟨.inl ∅,?_⟩;rw[show(2:bz)*(m:bz)=(((0+2)*m:br):bz) by omega];dsimp!;let H:(f.t (·.2)).l=f.l:=B0 _;apply Q_ (λc l t=>∃(i:br),jX (i+c=f.l) (∀j,j<i->j∈f.t (·.2)) (t=aC G p (.lst ((eY m f).t (·.2)))) (l=[du (.ref a),du (.int (m:bz)),du (.ref p),du (.int (((i+2)*m:br):bz))])) (m:=f.l) ⟨0,(),λj h=>(),rfl,rfl⟩ ?_;rintro c l t N ⟨i,hi,k,rfl,rfl⟩ u;let B:∀q:DK,gs eH (D.int (((i+2)*m:br):bz)) (D.ref p) (aC G p (.lst ((eY m f).t (·.2)))) q=q (.bl (decide (i∈f.t (·.2)))) (aC G p (.lst ((eY m f).t (·.2)))):=λq=>by
   let E:((((i+2)*m:br):bz)∈f.t λx=>(((x.2+2)*m:br):bz))=(i∈f.t (·.2)):=by
    apply propext #[λh=>?_,λh=>?_]
    .let#[x,g,e]:=D6.mp h;let e:(x.2+2)*m=(i+2)*m:=by exact_mod_cast e
     let:=Nat.eq_of_mul_eq_mul_right () e;exact D6.mpr #[x,g,()]
    .let#[x,g,rfl]:=D6.mp h;exact D6.mpr #[x,g,rfl]
   unfold gs;simp only[ay,bt,wb8,Rb,E];rfl
  simp![B];by_cases h:i∈f.t (·.2)
  .rw[cu (cA h)];let M:=v41 (i:=i+1) (js:=f.t (·.2)) λj C=>by
    by_cases e:j=i
    .subst e;exact h
    .exact k j ()
   cases c with
   | zero=>omega| succ c =>
    simp!;apply u _ _ c rfl #[i+1,(),λj C=>?_,rfl,?_]
    .by_cases e:j=i
     .subst e;exact h
     .exact k j ()
    .rw[show((i+1+2)*m:br)=(i+2)*m+m by rw[show i+1+2=(i+2)+1 by omega,Z6]];rfl
  .rw[cp (by rw[c7 h];decide)];simp?;exact k0 i _ h k () g1
def x75{n:br}(N_:n<*T.pB.1<*w_)(NZ:n<*T.pA.1<*wZ):n+1<*T.pz.1<*wY:=by
 apply dk T.pz.1 dX (λ_ _ _ _ _ _ hr =>
   (ar (aN 4 dX.nd (aM mL (aM cn ax (ek N_ hr #v[!2])) (cM eG rfl T.aY ∅ #v[¬0])))
   (ar (aN 5 dX.nd ws3)
   (ar (aN 6 dX.nd (cw gX))
   (ar (jL (Rg rfl T.cK #v[!2]) (yY (n:=2) rfl (jv (bY 7 dX.nd) (jv (bY 8 dX.nd) za))) (ar (aN 9 dX.nd (i8 (bA (aP hr) (¬8) aR (ag _)) (bH bF (!3) (aM cn (!7) ax)) (bH bF (!3) (!7))))
   (ar (aN 10 dX.nd (i8 (bA (aP hr) (¬8) aR (ag _)) (cM eG rfl T.aY ∅ #v[!1]) (¬8)))
   (ar (aN 11 dX.nd (bh #v[!8,(xh9 hr (!9) (aM fg (!10) ax) ax),(zc hr (!9) (!10))]))
   (ar (aH (bA (vr1 hr) (!11) (!5) (by with_unfolding_all rfl)) (az (wl0 hr (!5) (!11) (ek NZ hr #v[!8,(bH bF (!1) (aM fg (!10) ax)),!0,¬11,¬11,!4]))) b_)
   (az (dP (mM (!6) #v[(ws5 hr (!5) (!11))]))))))))
   (az (a_ (!6)))))))) (λds G R h=>?_)
 .let#[W,bs,x,PP,pp,pl,sl,as,ss,S,w,s,B,rfl,Bn,pat,cG,KR,hss,aB,hck,hB8,hBm,hBx,vV,hn4,vd,ok,k0]:=h;let hb:=ok.yC;let nE:=ok.hb;obtain⟨FG,S0,rfl⟩:∃FG S0,S=FG::S0:=by
   cases ss with
   | nil=>cases hss.1
   | cons _ _=>let#[_,_,sl,S',_,rfl,_]:=hss;exact#[sl,S',rfl]
  simp!;apply bV #[pl,w,rfl,cG,aB,(),λM G1 hM1 RS g1=>?_];obtain rfl:M=(B:bz):=by
   let#[y,hy,rfl]:=D6.mp hM1;let#[z,hz,e]:=D6.mp hBm;let h1:=RS _ (D6.mpr #[z,hz,rfl]);let h2:mx 24 y<=B:=by
    rcases D9.mp hy with rfl|hy
    .rw[zg];exact J8 _
    .exact hBx y hy
   omega
  simp![B0];apply⟨AJ () (),?_⟩;dsimp![xi5];intro pk hpk;dsimp!;apply#[∅,λpc iH=>?_];let vg:(2+B)*bs.l<=60:=Z2 (show 2+B<=10 by omega) hb;let efr:((2:bz)+(B:bz))*(bs.l:bz)=(((2+B)*bs.l:br):bz):=by simp
  rw[efr];let hfb:bs.l<=(2+B)*bs.l:=uq _ ();generalize hFR:(2+B)*bs.l=fr at *;let gk:=g1.S (o:=.sZ []) hpk;let gc:=gk.S (o:=.lst []) iH;let Zt:pk≠pc:=aT ay iH;let uA2:=gc.kp _ _ cG;let Lb:=gk.none iH;let uA3:=g1.none hpk;dsimp![E_,uA2];apply jO (λr σ G'=>LY λ(l t:bf Pm) (M:br) (b:cg) (s1 s2:bf fy) (S1 S2:bf (bf (br×br))) (yo:bf (br×br)) (cs:bf cE) (kvs:bf (fD×D)) (v7 v8 v9 v10 v11:b0 D)=>OW (l++t=w) (r=wo l.l (t.t bX)) (gV PP.l s M b t) (ss=s1++s2) (s1.l=l.l) (jH G bs.l B s2 (M::f' M t) (yo::S2)) (FG::S0=S1++yo::S2) (Aq W bs PP fr l S1 yo (cs.t FD)) (aj G G') (G' pk=du (.sZ kvs)) (kvs.l<=l.l) (∀q d,kT kvs q=du d->∃c:cE,d=c.d/\G' c.ra=du (.lst (c.rs.t k'.d))/\c.ra≠pc/\vp bs.l c/\Sk W bs PP fr PP.l q c) (cs.l=l.l) (G' pc=du (.lst (cs.t cE.d))) (∀c∈cs,G' c.ra=du (.lst (c.rs.t k'.d))/\c.ra≠pc/\vp bs.l c) (BA fr cs (uC W bs PP l)) (σ=[du (.tup [.int (W:bz),.tup (bs.t .str),x]),du (.ref pp),du (.ref pl),du (.ref sl),du (.int (fr:bz)),du (.ref pk),du (.ref pc),v7,v8,v9,v10,v11])) #[[],w,0,eH,[],ss,[],S0,FG,[],[],dv,dv,dv,dv,dv,rfl,rfl,hck,rfl,rfl,hss,rfl,.z,gc,by rw[aA Zt,ay],B9 _,(λ_ _ h=>nomatch h),rfl,ay,(λ_ h=>nomatch h),.z,rfl] ?_ ?_
  .rintro σ G2 ⟨l,t,M,b,s1,s2,S1,S2,yo,cs,kvs,v7,v8,v9,v10,v11,e,e2,FW,es,iG,uh,eS,Gj,g2,k2,kl,kn,cl,kc,ca,YR,rfl⟩;let ht:t=[]:=by
    cases t with
    | nil=>rfl| cons x t=>cases e2
   subst ht;rw[D7] at e;subst e;apply#[by rw[g2.kp _ _ cG];rfl,?_];dsimp!;exact k0 pc cs S1 yo G2 (by rw[eS,uh.end]) Gj Lb kc cl ca YR g2
  .rintro z r σ G2 ⟨l,t,M,b,s1,s2,S1,S2,yo,cs,kvs,v7,v8,v9,v10,v11,e,e2,FW,es,iG,uh,eS,Gj,g2,k2,kl,kn,cl,kc,ca,YR,rfl⟩ ih;cases t with
   | nil=>cases e2
   | cons p t =>
    cases e2;apply#[by rw[g2.kp _ _ cG];rfl,?_];let#[a,a',s3,sla,Dc,S3,rfl,eS2,ka,ka',hIa,uB5,sl3]:=uh.two;cases eS2;let vf:l.l<w.l:=by rw[<- e,B4,C0];omega
    let DE:=g2.kp _ _ KR;let i0:cS (ss.t D.ref) (l.l:bz)=du (.ref a):=vy (by rw[es,B7,F9 (by rw[B0,iG];exact B9 _),B0,iG,Z8];rfl);let i1:cS (ss.t D.ref) ((l.l:bz)+1)=du (.ref a'):=vy (j:=l.l+1) (by rw[es,B7,F9 (by rw[B0,iG];omega),B0,iG,Y8];rfl);let K':=g2.kp _ _ Bn;simp!;generalize hN:forL _ (zL _ _) _ _ _=N at ih⊢;generalize hBk:Go (kH (fK 6) _)=Bk;generalize hu:fo (i9 (uD _) (sH 11)) _=u;let rest:∀(k Mw:br) (Rk:bf (br×br)) (aw:fy) (b':cg),vn PP.l (bX p) k->1<=k->k<=PP.l->d_ k Mw=dS->G2 aw=du (.bR (eY bs.l Rk))->qP Mw B Rk->gV PP.l s (jc M p) b' t->(∀q,p=du q->k=q.2)->Rk=(if ZQ p=dS then Dc else yo)->Go (u { nx:=N,rt:=R,bk:=Bk,ct:=N}) [du (.tup [.int (W:bz),.tup (bs.t .str),x]),du (.ref pp),du (.ref pl),du (.ref sl),du (.int (fr:bz)),du (.ref pk),du (.ref pc),du (.int (l.l:bz)),du (bX p),du (.ref aw),du (.int (k:bz)),v11] G2:=by
     intro k Mw Rk aw b' hk h1 h3 jA haw hIw ho hd FR;subst hu;let#[j,hj,hjB,hv]:=hIw.look (m:=bs.l) h1 () jA;let#[src,KP,hsr]:=hIw.get (m:=bs.l) hj (z:=(k:bz)-1) ();let#[RG,F_,_]:=apart (j:=0) (m:=bs.l) hjB hFR.M;let DI:src+bs.l<=fr:=by
      rcases hsr with rfl|⟨i,hi,_,rfl⟩
      .omega
      .exact(apart (j:=0) (m:=bs.l) hi hFR.M).1
     let KU:src+bs.l<=(j+2)*bs.l\/(j+2)*bs.l+bs.l<=src:=by
      rcases hsr with rfl|⟨i,hi,Lo,rfl⟩
      .left;omega
      .exact(apart (j:=j) (m:=bs.l) hi hFR.M).2.2 Lo
     dsimp![WS];apply⟨⟨aw,_,rfl,haw⟩,?_⟩;simp!;apply⟨aw,_,M7 ((k:bz)-1),rfl,rfl,haw,?_⟩;rw[KP];simp![yd];apply⟨aw,_,M7 (k:bz),_,rfl,rfl,haw,hv,∅,?_⟩;let#[mk,hmk]:=hk.key;generalize hT:(j+2)*bs.l=aO at *;let vT:bX p=.tup (mk.t kD):=hmk;rw[vT];rw[vT] at hk;let hq:Dm (mk,[M7 (src:bz),M7 (aO:bz)])=.tup [.tup (mk.t kD),.int (src:bz),.int (aO:bz)]:=rfl;let yy:PP.E (k-1) []∈PP:=by rw[F4,B6 ()];exact M4 _
     generalize yx:Cz _=u2;let ot:∀(G3:Gp) (rW:bf (fD×D)) (c:cE),aj G G3->G3 pk=du (.sZ rW)->rW.l<=l.l+1->(∀q d,kT rW q=du d->∃c:cE,d=c.d/\G3 c.ra=du (.lst (c.rs.t k'.d))/\c.ra≠pc/\vp bs.l c/\Sk W bs PP fr PP.l q c)->G3 pc=du (.lst (cs.t cE.d))->(∀c∈cs,G3 c.ra=du (.lst (c.rs.t k'.d))/\c.ra≠pc/\vp bs.l c)->kT rW (mk,[M7 (src:bz),M7 (aO:bz)])=du c.d->Go (u2 { nx:=N,rt:=R,bk:=Bk,ct:=N}) [du (.tup [.int (W:bz),.tup (bs.t .str),x]),du (.ref pp),du (.ref pl),du (.ref sl),du (.int (fr:bz)),du (.ref pk),du (.ref pc),du (.int (l.l:bz)),du (.tup (mk.t kD)),du (.ref aw),du (.int (k:bz)),du (.tup [.tup (mk.t kD),.int (src:bz),.int (aO:bz)])] G3:=by
      intro G3 rW c g3 k3 kl3 kn3 kc3 ca3 hc;let#[c',e3,Gb,vY,hc3,hc4]:=kn3 _ _ hc;subst yx;dsimp![xi8,kc3];apply#[pk,rW,(mk,[M7 (src:bz),M7 (aO:bz)]),c'.d,rfl,rfl,k3,by rw[hc,e3],?_];apply#[C6 (m:=4000) (by rw[B0];omega) ∅,?_];apply ih _ _ #[l++[p],t,jc M p,b',s1++[a],a'::s3,S1++[yo],S3,Dc,cs++[c'],rW,_,_,_,_,_,by rw[<- e];simp,by rw[B4];rfl,ho,by rw[es];simp,by rw[B4,B4,iG];rfl,sl3,by rw[eS];simp,?_,g3.own Lb,by rw[aA Zt];exact k3,by rw[B4];exact kl3,?_,by rw[B4,B4,cl];rfl,by rw[ay,B7];rfl,?_,?_,rfl]
      .rw[B7];exact .s Gj #[k,src,aO,by rw[vT];exact hk,by rw[<- FR];exact hv,by rw[<- FR];exact KP,by rw[vT];exact hc4.get hq hk]
      .intro q d hd;let#[c2,y1,y2,y3,y4]:=kn3 q d hd;exact#[c2,y1,by rw[aA y3];exact y2,y3,y4]
      .intro c2 h2;rcases F7.mp h2 with h2|h2
       .rw[aA (ca3 c2 h2).2.1];exact ca3 c2 h2
       .obtain rfl:=D8.mp h2;rw[aA vY];exact#[Gb,vY,hc3]
      .rw[vy5];apply .s YR (i_.rn (sz:=c'.sz) (a:=c'.ra) (rows:=c'.rs) (p:=p) (ok.ok _ yy).1 hc3 DI RG F_ KU (by rw[vT];exact hc4.get hq hk) (λe=>by rw[e];rfl) λe=>?_);cases p with
       | none=>exact(e rfl).n| some q=>rw[hd q rfl];rfl
     dsimp!;apply#[(mk,[M7 (src:bz),M7 (aO:bz)]),kvs,pk,rfl,rfl,k2,?_];cases hc:kT kvs (mk,[M7 (src:bz),M7 (aO:bz)]) with
     | some d =>let#[c,rfl,_]:=kn _ _ hc;simp!;exact ot G2 kvs c g2 k2 () kn kc ca hc| none =>
      let#[ak,lX,RM]:=pat.get (i:=k-1) ();let ia:cS (as.t D.ref) ((k:bz)-1)=du (.ref ak):=by rw[show(k:bz)-1=((k-1:br):bz) by omega];exact vy (by rw[F5,lX];rfl)
      let#[rows,sz,mc]:=hk.code W bs (PP.E (k-1) []) src aO fr;simp![xi4];simp![K',bt,ia];apply bV #[_,ak,W,bs,PP.E (k-1) [],x,src,aO,fr,rows,sz,rfl,g2.kp _ _ RM,(ok.ok _ yy).1,ok.hW,(ok.ok _ yy).2,DI,(),(),mc,λq3 G3 DJ k3 g3=>?_];let gd:=i_.gd (a:=q3) (ok.ok _ yy).1 (ok.ok _ yy).2 nE DI RG F_ KU () mc;simp!;let n3:pc≠q3:=aT kc DJ;let n4:pk≠q3:=aT k2 DJ;apply#[pk,kvs,(mk,[M7 (src:bz),M7 (aO:bz)]),rfl,rfl,g3.kp _ _ k2,C6 (m:=4000) () ∅,?_];apply ot _ _ #[sz,q3,rows] ((g2.u g3).own uA3) ay ?_ ?_ ?_ ?_ ?_
      .unfold Bd;split <;> simp <;> omega
      .intro q d hd;rcases wx2 hc hd with⟨rfl,rfl⟩|hd
       .exact⟨⟨sz,q3,rows⟩,rfl,by rw[aA (E1 n4)];exact k3,E1 n3,gd,⟨_,k,src,aO,hq,hk,mc⟩⟩
       .let#[c,y1,y2,y3,y4]:=kn q d hd;exact#[c,y1,by rw[aA (λz=>by rw[z,k2] at y2;cases y2)];exact g3.kp _ _ y2,y3,y4]
      .rw[aA (E1 Zt)];exact g3.kp _ _ kc
      .intro c h;let#[y2,y3,y4]:=ca c h;exact#[by rw[aA (λz=>by rw[z,k2] at y2;cases y2)];exact g3.kp _ _ y2,y3,y4]
      .exact vs0 hc
    let uE6:PP.l<=24:=()
    rcases p with _|⟨bb,k⟩
    .let#[#[o1,o2],o3]:=FW;simp![bX];rw[cp ∅];simp![DE,bt,i0];dsimp![K',bt,B0,pat.len];exact rest PP.l M yo a dS (.inr (.inr #[rfl,rfl])) vV (B9 _) o1 (g2.kp _ _ ka) hIa o3 (λ_ e=>nomatch e) rfl
    let#[#[#[o1,o2],o4,o5,o6],o3]:=FW;cases bb with
    | true =>
     let jA:d_ k M=eH:=by simpa using o5.M
     simp![bX,mD,mP,pD,DE,bt,i1];dsimp!;rw[cp ∅];exact rest k (xr M k) Dc a' b (.inl rfl) o1 o2 (by unfold d_;exact Hy jA) (g2.kp _ _ ka') uB5 o3 (λ_ e=>by cases e;rfl) rfl
    | false =>
     let jA:d_ k M=dS:=by simpa using o5.M
     simp![bX,mD,mP,pD];rw[cp ∅];simp![DE,bt,i0];dsimp!;rw[cp ∅];exact rest k M yo a b (.inr (.inl rfl)) o1 o2 jA (g2.kp _ _ ka) hIa o3 (λ_ e=>by cases e;rfl) rfl
def x76{n:br}(H:n<*T.pF.1<*xc)(I:n<*T.o_.1<*wR):n+1<*T.pA.1<*wZ:=by
 apply dk T.pA.1 rA (λ_ _ _ _ _ _ j =>
   (ar (aH (bA (aP j) (¬0) aR (ag _)) (az (a_ (ek I j #v[!4,(cM eG rfl T.aY ∅ #v[¬2])]))) b_)
   (ar (aN 6 rA.nd (i8 (bA (aP j) (¬0) aR (ag _)) aR aR))
   (az (a_ (ek H j #v[!6,!1,!2,!3,!4,!5])))))) (λN G R h=>?_)
 .let#[mv,pc,W,l,o,x,f,m,B,p,L,rfl,r,ok,t,i,A,y,u,C,k0]:=h;let M:=ok.nb;cases C with
  | lay =>simp![kr];rw[cp ∅];dsimp!;dsimp!;exact bV #[dS,pc,W,l,o,x,f,m,B,rfl,r,ok,t,i,A,y,u,k0]| clear =>simp![kr];rw[cp ∅];dsimp!;rw[cp ∅];dsimp!;exact bV #[eH,pc,W,l,o,x,f,m,B,rfl,r,ok,t,i,A,y,u,k0]| lT =>simp![B0];apply bV #[m,l.l,rfl,(),λq J E k g=>?_];exact k0 q J E k g
def x64{n:br}:n+1<*T.o_.1<*wR:=by
 apply dk T.o_.1 w31 (λ_ _ _ _ _ _ x =>
   (az (a_ (bh #v[(aM cn (!0) (!1)),(jM (N':=["at", "many", "slot"]) (ix:=[dv,du 1,du 0]) (iA rfl rfl rfl) (uQ rfl T.bw #v[!1]) (λ_ _ _ _=>(bY 0 (show(["at", "many", "slot"]:bf gq).Nodup by decide))) (λ_ _ _ _=>jN) (λ_ _ _ _=>(bh #v[aR,(aM cn (!1) (!0)),(bh #v[aR,(aM cn (!2) (!0))])])))])))) (λA G R h=>?_)
 .let#[s,m,rfl,y,k0]:=h;simp!;apply#[#[(),()],λp k=>?_];apply jP (λr g t=>kY λ(i c:br) (v:b0 D)=>jX (i+c=m) (r=bW (i:bz) c) (t=aC G p (.lst (((D3 i).t λj=>k'.add (m+j) (.box (s+j))).t k'.d))) (g=[v,du (.int (m:bz)),du (.int (s:bz))])) #[0,m,dv,(),rfl,rfl,rfl] ?_ ?_
  .intro g q #[i,c,v,e,f,rfl,rfl];let o:c=0:=by
    cases c with
    | zero=>rfl| succ c=>rw[jb] at f;cases f
   subst o;obtain rfl:i=m:=()
   apply#[trivial,∅,?_];exact k0 p _ k ay (aj.j.S k)
  .rintro z r g q ⟨i,c,v,e,f,rfl,rfl⟩ l;cases c with
   | zero=>cases f
   | succ c =>
    rw[jb] at f;cases f;apply#[trivial,?_];simp![ay];apply#[∅,∅,?_,l _ _ #[i+1,c,_,(),rfl,?_,rfl]]
    .rw[B0,B0,F0];exact C6 (m:=1000) () ∅
    .rw[gb,V3,B7,B7];rfl
def x84{n:br}:n+1<*T.pH.1<*xh:=by
 apply dk T.pH.1 w38 (λ_ _ _ _ _ _ x =>
   (az (a_ (bh #v[(aM cn (!0) (!1)),(jM (N':=["at", "many", "slot"]) (ix:=[dv,du 1,du 0]) (iA rfl rfl rfl) (uQ rfl T.bw #v[!1]) (λ_ _ _ _=>(bY 0 (show(["at", "many", "slot"]:bf gq).Nodup by decide))) (λ_ _ _ _=>jN) (λ_ _ _ _=>(bh #v[aR,(aM cn (!1) (!0)),(aM cn (!2) (!0))])))])))) (λA G R h=>?_)
 .let#[s,m,rfl,y,k0]:=h;simp!;apply#[#[(),()],λp k=>?_];apply jP (λr g t=>kY λ(i c:br) (v:b0 D)=>jX (i+c=m) (r=bW (i:bz) c) (t=aC G p (.lst (((D3 i).t λj=>k'.swap (m+j) (s+j)).t k'.d))) (g=[v,du (.int (m:bz)),du (.int (s:bz))])) #[0,m,dv,(),rfl,rfl,rfl] ?_ ?_
  .intro g q #[i,c,v,e,f,rfl,rfl];let o:c=0:=by
    cases c with
    | zero=>rfl| succ c=>rw[jb] at f;cases f
   subst o;obtain rfl:i=m:=()
   apply#[trivial,∅,?_];exact k0 p _ k ay (aj.j.S k)
  .rintro z r g q ⟨i,c,v,e,f,rfl,rfl⟩ l;cases c with
   | zero=>cases f
   | succ c =>
    rw[jb] at f;cases f;apply#[trivial,?_];simp![ay];apply#[∅,?_,l _ _ #[i+1,c,_,(),rfl,?_,rfl]]
    .rw[B0,B0,F0];exact C6 (m:=1000) () ∅
    .rw[gb,V3,B7,B7];rfl
def x99{n:br}:n+1<*T.cV.1<*qI:=by
 apply Fc T.cV.1 dE (λds G R h=>?_) (λ_ _ _ _ _ _ Z =>
   (ar (uP (!0) (yY (n:=3) rfl (jv (bY 2 dE.nd) (jv (bY 3 dE.nd) (jv (bY 4 dE.nd) za)))))
   (ar (aH (bA (aP Z) (!4) ax (ag _)) (ar (uP (aM cn (!3) ax) (AB (!0) ax AH))
   (ar (aN 5 dE.nd (aM cn (aM mL ax (!3)) ax))
   (ar (aH (bA (qT) (cM eG rfl T.aY ∅ #v[!2]) ax (ag _)) (az (aN 5 dE.nd (bH bF (!2) (aM yg (!3) (cM eG rfl T.aY ∅ #v[!2]))))) b_)
   (ar (aN 4 dE.nd (cM xo4 rfl T.wF ∅ #v[!5]))
   (az (aH (sL (w_or (bA (Uq) (!3) (cM eG rfl T.aY ∅ #v[!2]) (ag _)) (CC (bA (fE) (!4) (aM xo2 ax ax) (ag _))))) (ar (aN 6 dE.nd (aM yg (aM cn (aM cn (aM mL (aM yg (!5) ax) (aM cn ax (!3))) (aM mL ax (!3))) ax) ax))
   (ar (aN 6 dE.nd (aM yg (aM mL (!6) (!6)) ax))
   (az (a_ (aM yg (aM yg (aM mL (!6) (!6)) ax) (!1)))))) b_)))))) b_)
   (ar (uP (cM vr3 rfl T.kK ∅ #v[!4,!1]) (yY (n:=2) rfl (jv (AB (!0) ax AH) (jv (bY 7 dE.nd) za))))
   (az (a_ (!7))))))) (λds G R h=>?_)
 .let#[#[st,m,rfl,_],_]:=h;rfl
 .let#[#[st,m,rfl,#[a,g,k,r,M,C,B,x,A,p],l,Y],k0]:=h;let l':∀(v i f:bz),0<=v->v<m->0<=i->0<=f->R (.int v) (aC G st (.lst [.ref a,.int i,.int f])):=λv i f j q h3 h4=>k0 _ _ #[st,m,v,rfl,
   #[#[a,g,i,f,ay,by rw[aA A];exact C,h3,h4,A,p],λb o hb e=>by rw[aA hb];exact e],rfl,j,q]
  let tail:∀(y i f:bz),0<=i->0<=f->R (.int (y%m)) (aC G st (.lst [.ref a,.int i,.int f])):=λy i f j q=>l' _ _ _ (Ph _ ()) (Z7 _ l) j q;let cd:∀c:bz,Ar c m:=λc=>#[l,Y];let Q:∀c y:bz,kR (c%2147483629) y:=λc y=>AJ () ();let t:∀c y:bz,kR (c%2147483587) y:=λc y=>AJ () ();let S:∀y:bz,kR 7 y:=λy=>AJ ∅ ∅;let u:∀y:bz,kR 7919 y:=λy=>AJ ∅ ∅;let O:lL 10 18:=#[∅,∅,∅];let L:((0:bz)<2147483629)=dm:=∅;let J:((0:bz)<2147483587)=dm:=∅;let I:((0:bz)<1999999973)=dm:=∅;let H:((0:bz)<m)=dm:=eq_true l;by_cases N:g=[]
  .subst N;simp?[M,C,aA A,gb,cd,Q,t,S,u,O,L,J,I,H];apply fq (λE=>?_) (λE=>?_)
   .simp only[E',Int.natCast_zero,decide_false,K8,if_false];apply fq (λj=>?_) (λj=>?_)
    .exact tail _ _ _ () x
    .exact cz B j
   .exact tail _ _ _ B (q0 x ())
  .have U:0<g.l:=List.length_pos_iff.mpr N;let hl:((g.t D.int).l:bz)=(g.l:bz):=by simp
   obtain⟨c,hc⟩:∃c,cS (g.t D.int) (k%(g.l:bz))=du (.int c):=#[_,wv4 (Ph _ ()) (Z7 _ ())];let X:((0:bz)<(g.l:bz))=dm:=eq_true ();simp?[M,C,aA A,gb,cd,Q,t,S,u,O,L,J,I,H,hl,hc,X];apply fq (λE=>?_) (λE=>?_)
   .apply fq (λj=>?_) (λj=>?_)
    .exact tail _ _ _ () x
    .apply fq (λq=>?_) (λq=>?_)
     .exact tail _ _ _ () x
     .apply tail _ _ _ () (q0 ?_ ());split <;> omega
   .exact tail _ _ _ B (q0 x ())
def x95{n:br}(aE:n<*T.cV.1<*qI):n+1<*T.ji.1<*mB:=by
 apply dk T.ji.1 dD (λ_ _ _ _ _ _ hr =>
   @(ar @(aN 2 dD.nd aR)
   @(ar @(aN 3 dD.nd @(cw @(w89 gX)))
   @(ar @(jL (uQ rfl T.bw @#v[!1]) (bY 4 dD.nd) @(ar @(aN 5 dD.nd @(xh7 aR @(qJ @(jM (N':=["_law_j", "_law_letters", "_law_state"]) (ix:=[dv,du 2,du 0]) (iA rfl rfl rfl) (uQ rfl T.bw @(qJ @(aM cn ax (ek aE hr @(qJ (!0) @#v[ax]))) gX)) (λ_ _ _ _=>(bY 0 (show(["_law_j", "_law_letters", "_law_state"]:bf gq).Nodup by decide))) (λ_ _ _ _=>jN) (λ_ _ _ _=>@(bH bF (!1) (ek aE hr @(qJ (!2) @#v[ax]))))) gX)))
   @(ar @(aN 6 dD.nd @(z0 xo1 (!5) Xe (Fi ax)))
   @(ar @(jL (uQ rfl T.bw @#v[ax]) (bY 7 dD.nd) @(az @(aH (bA (k_ hr) (!5) (!3) (by with_unfolding_all rfl)) @(az @(aN 5 dD.nd @(aM cn @(aM cn (!6) aR) @(bH bF (!2) (!7))))) b_)))
   @(az @(dP (mM (!3) @#v[!5])))))))
   @(ar @(aH (bA (aP hr) (ek aE hr @(qJ (!0) @#v[ax])) ax (ag _)) (by(with_unfolding_all change lH _ _ _);exact(v34 (wz8 8 dD.nd (vq3 (vq3 xj6))) (v34 (xF.of @(aN 9 dD.nd (ek aE hr @(qJ (!0) @#v[ax])))) (wb7 (xF.of @(a_ @(iE ym rfl T.cj ∅ @(qJ @(jM (N':=["_law_k", "_law_words", "_law_first"]) (ix:=[dv,du 8,du 9]) (iA rfl rfl rfl) (uQ rfl T.bw @#v[!1]) (λ_ _ _ _=>(bY 0 (show(["_law_k", "_law_words", "_law_first"]:bf gq).Nodup by decide))) (λ_ _ _ _=>jN) (λ_ _ _ _=>@(bH bF (!1) @(aM yg @(aM cn (!2) @(aM mL ax (!0))) ax)))) gX)))))))) b_)
   @(az @(a_ @(iE ym rfl T.cj ∅ @(qJ @(z0 Cn (!3) (Fi ax) Xe) gX))))))))) (λds G R h=>?_)
 .let#[st,m,rfl,S,kX,fA,k0]:=h;let iJ:(C5 "abcdefghijklmnopqrstuvwxyz").l<=iZ:=∅;simp!;dsimp!;apply#[∅,λnh lB=>?_];let nn:nh≠st:=S.ne lB;obtain⟨six,zN⟩:∃six:bf gq,six=[C5 "wide",C5 "boxes",C5 "choose",C5 "else",C5 "end",C5 "times"]:=#[_,rfl];let s1:six.l=6:=by rw[zN];rfl
  let s2:six.Nodup:=by rw[zN];decide
  rw[show[D.str "wide",D.str "boxes",D.str "choose",D.str "else",D.str "end",D.str "times"]=six.t D.str by rw[zN];rfl];clear zN;let A0:cJ st G (aC G nh (.lst (six.t D.str))):=(cJ.j S).S lB;dsimp!;apply#[#[(),()],?_];generalize hN:Go (fo _ _ _)=N;apply jO (λr σ G'=>Xi7 λ(i c:br) (ns:bf gq) (v4 v5 v6 v7:b0 D)=>OV (i+c=m) (r=bW (i:bz) c) (cJ st G G') (G' nh=du (.lst ((six++ns).t D.str))) (ns.l=i) ((six++ns).Nodup) (∀w∈ns,w.l<=20) (σ=[du (.ref st),du (.int (m:bz)),du (.str (C5 "abcdefghijklmnopqrstuvwxyz")),du (.ref nh),v4,v5,v6,v7,dv,dv])) #[0,m,[],dv,dv,dv,dv,(),rfl,A0,by rw[D7];exact ay,rfl,by rw[D7];exact s2,λw hw=>(by cases hw),rfl] ?_ ?_
  .rintro σ G1 ⟨i,c,ns,v4,v5,v6,v7,e,e2,A1,k1,hl,iI,hw,rfl⟩;let hc:c=0:=by
    cases c with
    | zero=>rfl| succ c=>rw[jb] at e2;cases e2
   subst hc;apply#[trivial,?_];rw[<- hN];dsimp!;apply dy A1.at_ ∅ ∅ λx1 G2 a2 b1 b2=>?_;let A2:=A1.u a2;let k2:=a2.kp _ _ nn k1;simp!;apply fq (λq=>?_) (λq=>?_)
   .simp!;apply#[∅,λpw DL=>?_];rw[show[D.str "box",D.str "num",D.str "is",D.str "op",D.str "go",D.str "add",D.str "take",D.str "turn",D.str "swap",D.str "come",D.str "lay",D.str "show"]=dn.t D.str from rfl];let A3:=A2.S (o:=.lst (dn.t D.str)) DL;let nw:=A2.at_.ne DL;dsimp!;apply dy A3.at_ ∅ ∅ λx2 G4 a4 c1 c2=>?_;let#[x2,rfl]:=gv c1;let A4:=A3.u a4;let k4:=a4.kp _ _ nw ay;simp!;dsimp!;apply#[#[(),()],λp hp=>?_];let np:=A4.at_.ne hp;let eJ:pw≠p:=aT k4 hp;apply jP (λr σ G'=>kY λ(j c:br) (v:b0 D)=>jX (j+c=m) (r=bW (j:bz) c) (G'=aC G4 p (.lst (((D3 j).t λk=>dn.E ((x2+5*k)%12) (C5 "")).t .str))) (σ=[v,du (.ref pw),du (.int (x2:bz))])) #[0,m,dv,(),rfl,rfl,rfl] ?_ ?_
    .rintro σ G5 ⟨j,c,v,e5,e6,rfl,rfl⟩;let hc:c=0:=by
      cases c with
      | zero=>rfl| succ c=>rw[jb] at e6;cases e6
     apply#[trivial,?_];let hx:x2<12:=()
     let hj:j=m:=by(omega)
     subst hj;let aB:=O5.mp (O5.mp vr8 x2 (K0.mpr hx)) j (K0.mpr ());rw[K9] at aB;unfold HG;simp only[ay,bt];exact k0 _ _ (by rw[B0,F0]) (λb hb=>of_decide_eq_true (O5.mp aB.2 b hb)) (of_decide_eq_true aB.1) (A4.S hp)
    .rintro z r σ G5 ⟨j,c,v,e5,e6,rfl,rfl⟩ ih;cases c with
     | zero=>cases e6
     | succ c =>
      rw[jb] at e6;cases e6;apply#[trivial,?_];let kw:aC G4 p (.lst (((D3 j).t λk=>dn.E ((x2+5*k)%12) (C5 "")).t .str)) pw=du (.lst (dn.t D.str)):=by rw[aA eJ];exact k4
      let hi:((x2:bz)+5*(j:bz))%12=(((x2+5*j)%12:br):bz):=by(omega)
      let hq:(x2+5*j)%12<12:=vj _ ∅;let vk:cS (dn.t D.str) (((x2+5*j)%12:br):bz)=du (.str (dn.E ((x2+5*j)%12) (C5 ""))):=by generalize (x2+5*j)%12=t at hq;apply vy ?_;rw[F5,F4,B6 (by exact hq)];rfl
      simp![kw,hi,vk];apply#[AJ ∅ ∅,∅,?_,?_]
      .rw[B0,B0,F0];exact C6 (m:=1000) () ∅
      .rw[gb];apply ih _ _ #[j+1,c,_,by(omega),by congr 1,?_,rfl];rw[V3,B7,B7];rfl
   .dsimp![k2];intro p hp;rw[show((6:bz))=((6:br):bz) from rfl,vn9,<- LO,show(six++ns).G 6=ns by rw[List.drop_append_of_le_length (),V5 (),J6]];exact k0 ns _ () hw (U7.mp iI).2.1 (A2.S hp)
  .rintro z r σ G1 ⟨i,c,ns,v4,v5,v6,v7,e,e2,A1,k1,hl,iI,hw,rfl⟩ ih;cases c with
   | zero=>cases e2
   | succ c =>
    rw[jb] at e2;cases e2;apply#[trivial,?_];simp!;apply dy A1.at_ ∅ ∅ λx1 G2 a2 b1 b2=>?_;let A2:=A1.u a2;let k2:=a2.kp _ _ nn k1;obtain⟨sz,hsz,lV,oF⟩:∃sz:br,1+x1=(sz:bz)/\1<=sz/\sz<=8:=#[(1+x1).i,by(omega),by(omega),by(omega)];simp![hsz];apply#[#[by(omega),by(omega)],λp hp=>?_];let np:=A2.at_.ne hp;let fp:G p=dv:=A2.none hp np;let uX:nh≠p:=aT k2 hp;let i6:∀a b:gq,(a++b).l=a.l+b.l:=λa b=>by show(a.cps++b.cps).v=_;rw[oe];rfl
    generalize wb:Go (fo (i9 (Sd GK _ _ _) _) _ _)=N2;apply jP (λr σ G'=>uG λ(j c':br) (ws:bf gq) (v:b0 D)=>OV (j+c'=sz) (r=bW (j:bz) c') (cJ st G G') (G' nh=du (.lst ((six++ns).t D.str))) (G' p=du (.lst (ws.t .str))) (ws.l=j) (∀w∈ws,w.l=1) (σ=[v,du (.str (C5 "abcdefghijklmnopqrstuvwxyz")),du (.ref st)])) #[0,sz,[],dv,(),rfl,A2.S hp,by rw[aA uX];exact k2,ay,rfl,by simp,rfl] ?_ ?_
    .rintro σ G3 ⟨j,c',ws,v,e5,e6,A3,k3,rX,hlw,sV,rfl⟩;let hc:c'=0:=by
      cases c' with
      | zero=>rfl| succ c=>rw[jb] at e6;cases e6
     let hjl:(jn yb ws).l=sz:=by rw[xf6,xf5 sV];(omega)
     let jg:Tx ((ws.e).foldl (·+·.l+yb.l) 0)=eH:=by
      let:∀(l:bf gq) (n:br),(∀w∈l,w.l=1)->l.foldl (·+·.l+yb.l) n=n+l.l:=by
       intro l;induction l with
       | nil=>intro n _;rfl| cons w l ih=>intro n h;rw[Tg,ih _ λv hv=>h v (C2 _ hv),h w (D0 ..),C0];show n+1+0+l.l=_;omega
      rw[List.foldl_toArray,this ws 0 sV];unfold Tx;exact c7 (Nat.not_lt.mpr (O4 (C6 (m:=1000) (by(omega)) ∅)))
     apply#[trivial,yb,p,ws,rfl,rfl,by rw[rX];rfl,jg,by rw[hjl];exact O4 (C6 (m:=1000) (by(omega)) ∅),?_];obtain⟨nm,DW⟩:∃nm,nm=jn yb ws:=#[_,rfl];rw[<- DW] at hjl⊢;rw[<- wb];dsimp!;apply#[nm,rfl,O4 (C6 (m:=1000) (by(omega)) ∅),λbg hbg=>?_];dsimp!;apply#[#[∅,∅],?_];generalize Gf:Go (Cz (Gi "list" Hn _ _) _)=N3;apply jO (λr σ G'=>uG λ(t yI:br) (nm:gq) (v7:b0 D)=>yL (t+yI=26) (r=bW (t:bz) yI) (G'=G3) (nm.l<=20) (nm∉six++ns\/∀i,i<t->kJ bg i∈six++ns) (σ=[du (.ref st),du (.int (m:bz)),du (.str (C5 "abcdefghijklmnopqrstuvwxyz")),du (.ref nh),du (.int (i:bz)),du (.str nm),du (.str bg),v7,dv,dv])) #[0,26,nm,_,(),rfl,rfl,by(omega),.inr λi hi=>cz hi (Nat.not_lt_zero _),rfl] ?_ ?_
     .rintro σ G4 ⟨t,yI,nm,v7',e7,e8,rfl,DX,vg,rfl⟩;let hc:yI=0:=by
       cases yI with
       | zero=>rfl| succ c=>rw[jb] at e8;cases e8
      apply#[trivial,?_];let ht:t=26:=()
      subst ht;let h_:=vo8 (by rw[B4];omega) vg;rw[<- Gf];dsimp![k3];apply#[by rw[B0,B4];exact C6 (m:=1000) () ∅,ih _ _ #[i+1,c,ns++[nm],_,_,_,_,(),by congr 1,A3.own lB k3 nn,by rw[ay,<- D5,B7 (l₁:=six++ns)];rfl,by simp[hl],?_,?_,rfl]]
      .rw[<- D5];apply U7.mpr #[iI,M5.mpr #[by simp,Pd],λa ha b hb e=>h_ ?_];rw[<- D8.mp hb,<- e];exact ha
      .intro w DC;rcases F7.mp DC with h|h
       .exact hw w h
       .rw[D8.mp h];exact DX
     .rintro z r σ G4 ⟨t,yI,nm,v7',e7,e8,rfl,DX,vg,rfl⟩ vS;cases yI with
      | zero=>cases e8
      | succ yI =>
       rw[jb] at e8;cases e8;apply#[trivial,?_];dsimp!;unfold gs;simp only[k3,bt,KQ];apply fq (λq=>?_) (λq=>?_)
       .have Ea:nm∈six++ns:=by simpa using q
        let lW:=w88 (x:=(t:bz)) () ();rw[O6] at lW;unfold mJ yU;simp only[lW];let hz:(C5 "z").l=1:=rfl;apply#[O4 (C6 (m:=1000) (by(omega)) ∅),iJ,?_,?_]
        .rw[i6,hz];exact O4 (C6 (m:=1000) (by show bg.l+1+1<=1000;(omega)) ∅)
        .apply vS _ _ #[t+1,yI,kJ bg t,_,(),by congr 1,rfl,?_,?_,rfl]
         .unfold kJ;rw[i6,i6,hz];show bg.l+1+1<=20
          (omega)
         .by_cases hct:kJ bg t∈six++ns
          .refine .inr λi hi=>?_;rcases GA i t with h|h
           .rcases vg with h'|h'
            .exact cz Ea h'
            .exact h' i h
           .rw[show i=t by(omega)];exact hct
          .exact .inl hct
       .have Ea:nm∉six++ns:=by simpa using q
        exact vS _ _ ⟨t+1,yI,nm,_,(),by congr 1,rfl,DX,.inl Ea,rfl⟩
    .rintro z r σ G3 ⟨j,c',ws,v,e5,e6,A3,k3,rX,hlw,sV,rfl⟩ vS;cases c' with
     | zero=>cases e6
     | succ c' =>
      rw[jb] at e6;cases e6;apply#[trivial,?_];simp!;apply dy A3.at_ ∅ ∅ λx3 G4 a4 c1 c2=>?_;let lW:=w88 c1 c2;let A4:=A3.u a4;let k4:=a4.kp _ _ nn k3;let ZF:=a4.kp _ _ np rX;apply#[iJ,?_];rw[lW];simp![ZF];apply#[by rw[B0];exact C6 (m:=1000) (by(omega)) ∅,vS _ _ #[j+1,c',ws++[#[[97+x3.i].e]],_,(),by congr 1,A4.own fp ZF np,by rw[aA uX];exact k4,by rw[ay,B7];rfl,by simp[hlw],?_,rfl]];intro w DC;rcases F7.mp DC with h|h
      .exact sV w h
      .rw[D8.mp h];rfl
def x94{n:br}(l:n<*T.cV.1<*qI):n+1<*T.me.1<*tM:=by
 apply dk T.me.1 rC (λ_ _ _ _ _ _ g =>
   (ar (aN 2 rC.nd (ek l g #v[!0,ax]))
   (ar (aH (bA (aP g) (!2) ax (ag _)) (az (a_ (bH bF (cw #v[ax,(aM fg (aM CF ax (!1)) ax)]) (ek l g #v[!0,ax])))) b_)
   (ar (aH (bA (aP g) (!2) ax (ag _)) (az (a_ (aM yg (ek l g #v[!0,ax]) (aM CF ax (!1))))) b_)
   (az (a_ (ek l g #v[!0,(aM CF ax (!1))]))))))) (λL G R h=>?_)
 .let#[st,W,rfl,S,I,k0]:=h;let k:=pw W;let q:lL 1 (W:bz):=#[(),(),∅];let H:=Rp I;let r:=W9 W;obtain⟨P,m⟩:∃P,P=2^W:=#[_,rfl];rw[<- m] at k H r k0;simp!;apply dy S ∅ ∅ λJ O j N M=>?_;simp!;dsimp![k];apply fq (λA=>?_) (λA=>?_)
  .apply#[q,∅,λp t=>?_];let x:=j.S (o:=.lst [D.int 0,D.int ((P:bz)-1)]) t;let B:=j.at_.ne t;apply dy x.at_ ∅ ∅ λf u i c1 c2=>?_;let C:=i.kp _ _ B ay;obtain⟨v,ev,E⟩:∃v:br,cS [D.int 0,D.int ((P:bz)-1)] f=du (.int (v:bz))/\v<P:=by
    let:f=0\/f=1:=()
    rcases this with e|e <;> subst e
    .exact⟨0,rfl,r⟩
    .exact⟨P-1,by show du (D.int ((P:bz)-1))=_;rw[show((P-1:br):bz)=(P:bz)-1 by omega],()⟩
   simp![C,ev];exact k0 v _ E (x.u i)
  .dsimp![k];apply fq (λy=>?_) (λy=>?_)
   .apply dy j.at_ ∅ ∅ λf u i c1 c2=>?_;simp!;apply#[q,(),?_];let#[f,rfl]:=gv c1;rw[<- Int.natCast_emod];exact k0 _ _ (vj _ r) (j.u i)
   .dsimp![k];apply#[q,?_];apply dy j.at_ () () λf u i c1 c2=>?_;let#[f,rfl]:=gv c1;exact k0 _ _ () (j.u i)
def xa4{n:br}(m:n<*T.cV.1<*qI)(o:n<*T.me.1<*tM):n+1<*T.pS.1<*tN:=by
 apply dk T.pS.1 w41 (λ_ _ _ _ _ _ f =>
   (ar (aH (bA (aP f) (ek m f #v[!0,ax]) ax (ag _)) (az (a_ (ek o f #v[!0,!2]))) b_)
   (az (a_ (bH bF (!1) (ek m f #v[!0,(cM eG rfl T.aY ∅ #v[!1])])))))) (λC G R h=>?_)
 .let#[st,W,l,rfl,S,p,B,A,k0]:=h;simp!;apply dy S ∅ ∅ λy J g H E=>?_;simp![B0];apply fq (λq=>?_) (λq=>?_)
  .exact bV #[_,_,rfl,g.at_,p,λi x hi u=>k0 (.num i) x hi (g.u u)]
  .dsimp![B0];apply dy g.at_ () () λj I t c1 c2=>?_;let#[j,rfl]:=gv c1;obtain⟨b,k⟩:∃b,l[j]?=du b:=#[_,B6 ()];let r:cS (l.t D.str) (j:bz)=du (.str b):=vy (by rw[F5,k];rfl);simp![r];exact k0 (.box b) _ (K5 k) (g.u t)
def x98{n dp:br}(I:n<*T.ip.1<*fX dp):n+1<*T.ip.1<*fX (dp+1):=by
 apply dk T.ip.1 gE (λ_ _ _ _ _ _ p =>
   (ar (aN 1 gE.nd ax)
   (ar (jL (gY (!0)) (bY 2 gE.nd) (ar (aH (bA (aP p) (¬2) aR (ag _)) (az (aN 1 gE.nd (aM cn (!1) (aM mL (¬2) (ek I p #v[¬2]))))) (az (aN 1 gE.nd (aM cn (!1) ax))))
   (az (aH (bA (aP p) (¬2) aR (ag _)) (az (aN 1 gE.nd (aM cn (aM cn (!1) (ek I p #v[¬2])) (ek I p #v[¬2])))) b_))))
   (az (a_ (!1)))))) (λds G R h=>?_)
 .let#[d,y,rfl,M,X,Bl,Z,k0]:=h;simp!;simp only[Go,fo];apply w80 M rfl λok U=>?_;generalize hN:Go (kH _ _)=N;apply jO (λr H G'=>∃(l t:bf ai) (m:b0 D),l++t=y/\r=bc t/\G'=G/\H=[du d,du (.int (bS l:bz)),m]) #[[],y,dv,rfl,rfl,rfl,rfl] ?_ ?_
  .intro H g #[l,t,m,e,C,rfl,rfl];let ht:t=[]:=by
    cases t with
    | nil=>rfl| cons x t=>cases C
   subst ht;rw[D7] at e;subst e;apply#[U _ M,?_];rw[<- hN];dsimp!;exact k0
  .rintro z r H g ⟨l,t,m,e,C,rfl,rfl⟩ B;cases t with
   | nil=>cases C
   | cons i t =>
    cases C;apply#[U _ M,?_];let L:i∈y:=by rw[<- e];simp
    let E:=PZ X L;let ZW:=Qp L;let Q:=Ho (Ts Z) i L;let A:∀{k:bz},k=((bS l+mK i:br):bz)->∃(S O:bf ai) (m:b0 D),S++O=y/\bc t=bc O/\g=g/\[du d,du (.int k),du (df i)]=[du d,du (.int (bS S:bz)),m]:=λ{k} ek=>#[l++[i],t,du (df i),by rw[<- e];simp,rfl,rfl,by rw[ek,CL];rfl];cases i with
    | is x a =>let u:(C5 "is" = C5 "choose")=b8:=c_ ∅;let q:(C5 "is" = C5 "times")=b8:=c_ ∅;simp![df,q];dsimp![u];exact B _ _ (A (by show _=((bS l+1:br):bz);omega))| op x o a c =>let u:(C5 "op" = C5 "choose")=b8:=c_ ∅;let q:(C5 "op" = C5 "times")=b8:=c_ ∅;simp![df,q];dsimp![u];exact B _ _ (A (by show _=((bS l+1:br):bz);omega))| e_ a f j =>obtain⟨Li,Ll⟩:gL f/\gL j:=E;let Y:1+max (aW f) (aW j)<=dp:=Q;let J:mK (.e_ a f j)=1+bS f+bS j:=rfl;let q:(C5 "choose" = C5 "times")=b8:=c_ ∅;simp![df,q];dsimp!;apply iD (v:=.int (bS f:bz)) (G1:=g) (λR h=>#[.tup (bc f),f,rfl,rfl,Li,(),(),h]) ?_;simp!;apply iD (v:=.int (bS j:bz)) (G1:=g) (λR h=>#[.tup (bc j),j,rfl,rfl,Ll,(),(),h]) ?_;simp!;exact B _ _ (A (by rw[J];omega))
    | fN k f =>let Y:1+aW f<=dp:=Q;let J:mK (.fN k f)=k*bS f:=rfl;let u:(C5 "times" = C5 "choose")=b8:=c_ ∅;simp![df];apply iD (v:=.int (bS f:bz)) (G1:=g) (λR h=>#[.tup (bc f),f,rfl,rfl,E.2.1,E.1,(),h]) ?_;simp!;let hk:=E.2.2;apply#[AJ () (),?_];dsimp![u];exact B _ _ (A (by rw[J];rw[Pg,Int.natCast_mul]))
def x90{n dp:br}(m:n<*T.cV.1<*qI)(Cb:n<*T.pS.1<*tN)(N:n<*T.il.1<*fW dp):n+1<*T.pJ.1<*nM dp:=by
 apply dk T.pJ.1 gB (λ_ _ _ _ _ _ g =>
   (ar (uP (aM fg (¬5) ax) (AB (!5) ax AH))
   (ar (aN 6 gB.nd (ek m g #v[!0,ax]))
   (ar (aN 7 gB.nd (bH bF (!1) (ek m g #v[!0,(cM eG rfl T.aY ∅ #v[!1])])))
   (ar (aN 8 gB.nd (ek Cb g #v[!0,!1,!2]))
   (ar (aH (bA (fE) (!6) ax (ag _)) (az (a_ (bh #v[aR,!7,!8]))) b_)
   (ar (aH (sL (w_or (bA (fE) (!6) ax (ag _)) (w_or (bA (aP g) (!3) ax (ag _)) (CC (bA (fE) (!4) ax (ag _)))))) (az (a_ (bh #v[aR,!7,(bH bF aR (ek m g #v[!0,ax])),!8,(ek Cb g #v[!0,!1,!2])]))) b_)
   (ar (aH (bA (fE) (!6) ax (ag _)) (ar (aN 9 gB.nd (ek N g #v[!0,!1,!2,(aM fg (!3) ax),(aM PX (aM fg (!4) ax) ax),!5]))
   (az (a_ (bh #v[aR,!8,!9,(ek N g #v[!0,!1,!2,(aM fg (!3) ax),(aM PX (aM fg (!4) ax) ax),!5])])))) b_)
   (ar (aN 10 gB.nd (bH bF (cw #v[(ek m g #v[!0,ax]),(ek m g #v[!0,ax])]) (iE AQ rfl T.fL ∅ #v[(j0 (aP g) (ek m g #v[!0,ax]) ax (ag _))])))
   (az (a_ (bh #v[aR,!10,(ek N g #v[!0,!1,!2,(aM fg (!3) ax),(aM PX (!4) (cM ww3 rfl T.ql ∅ #v[ax,!10])),!5])])))))))))))) (λds G R h=>?_)
 .let#[st,sp,W,f,room,bs,s,rfl,S,i,L,r,x,u,hd,hd5,RB,FU,k0]:=h;simp![L];let A0:=(jY.j S L).less (s':=s-1) L i;dsimp!;apply dy A0.at_ ∅ ∅ λx1 G1 a1 b1 b2=>?_;simp!;dsimp![B0];apply dy a1.at_ () () λJ G2 a2 c1 c2=>?_;let#[J,rfl]:=gv c1;obtain⟨b,hb⟩:∃b,bs[J]?=du b:=#[_,B6 ()];let eb:cS (bs.t D.str) (J:bz)=du (.str b):=vy (by rw[F5,hb];rfl);let RL:=K5 hb;simp![eb];dsimp!;apply w87 a2.at_ r x u λa G3 Y a3=>?_;let A3:=((A0.Ac a1 i).Ac a2 i).Ac a3 i;simp!;dsimp!;apply fq (λq=>?_) (λq=>?_)
  .exact#[∅,k0 (.is b a) G3 #[RL,Y] trivial RB (J8 _) A3]
  dsimp!;generalize t:@Exists _ _=OP;let op:OP:=by
   rw[<- t];apply dy A3.at_ ∅ ∅ λx3 G4 A Z d2=>?_;let#[j,rfl]:=gv Z;obtain⟨o,eo,ho⟩:∃o:br,cS (C5 "+-&|^<=").cps.L (j:bz)=du o/\(⟨[o].e⟩:gq)∈L3.signs:=by
    let:j=0\/j=1\/j=2\/j=3\/j=4\/j=5\/j=6:=()
    rcases this with e|e|e|e|e|e|e <;> subst e
    .exact⟨43,∅,∅⟩
    .exact⟨45,∅,∅⟩
    .exact⟨38,∅,∅⟩
    .exact⟨124,∅,∅⟩
    .exact⟨94,∅,∅⟩
    .exact⟨60,∅,∅⟩
    .exact⟨61,∅,∅⟩
   let hx:∀(G:Gp) (q:DK),yU (.str (C5 "+-&|^<=")) (.int (j:bz)) G q=(((C5 "+-&|^<=").l<=iZ)/\q (.str ⟨[o].e⟩) G):=λG q=>by show(_/\(match cS (C5 "+-&|^<=").cps.L (j:bz) with|some c=>q (.str #[[c].e]) G|none=>b8))=_;rw[eo]
   simp![hx];apply#[∅,?_];apply w87 A.at_ r x u λc G5 hc a5=>?_;simp!;exact#[∅,k0 (.op b _ a c) G5 #[RL,ho,Y,hc] trivial RB (J8 _) ((A3.Ac A i).Ac a5 i)]
  apply fq (λ_=>op) λq1=>?_;simp!;apply fq (λ_=>op) λq2=>?_;simp!;apply fq (λ_=>op) λq3=>?_;clear op t OP;dsimp!;obtain⟨y,hdm⟩:∃y:br,f=y+1:=#[f-1,()];apply fq (λq4=>?_) (λq4=>?_)
  .have Br:((room:bz)-1) / 2=(((room-1) / 2:br):bz):=()
   rw[Br,show((f:bz)-1)=(y:bz) by omega];apply#[by unfold ER;omega,?_];let#[s3,U]:=A3.A_;apply bV #[_,_,_,_,_,_,_,rfl,A3.at_,i,U,r,x,u,(),(),(),λl G6 I H y3 y4 y5 a6=>?_];simp!;dsimp!;rw[Br,show((f:bz)-1)=(y:bz) by omega];apply#[by unfold ER;omega,?_];let#[s4,Q]:=a6.A_;apply bV #[_,_,_,_,_,_,_,rfl,a6.at_,i,Q,r,x,u,(),(),(),λM G7 n1 n2 n3 n4 n5 E=>?_];simp!;apply#[∅,k0 (.e_ a l M) G7 #[Y,I,n1] #[H,n2] (by show 1+bS l+bS M<=room;omega) (by show 1+max (aW l) (aW M)<=f;omega) ((A3.u a6).u E)]
  .dsimp!;apply dy A3.at_ ∅ ∅ λC G4 A Z d2=>?_;apply dy A.at_ ∅ ∅ λB G5 a5 d3 d4=>?_;apply#[∅,λp hp=>?_];let A5:=(A3.Ac A i).Ac a5 i;let np:=A5.at_.ne hp;let A6:=A5.grow (aj.j.S (o:=.lst [D.int C,D.int B]) hp);apply dy A6.at_ ∅ ∅ λt3 G7 E d5 d6=>?_;let k7:=E.kp _ _ np ay;let A7:=A6.Ac E i;let#[C,rfl]:=gv Z;let#[B,rfl]:=gv d3;simp!;obtain⟨k,hk,Bq⟩:∃k:br,cS [D.int (C:bz),D.int (B:bz)] (if decide (t3=1)=dS then 1 else 0)=du (.int (k:bz))/\k<=20:=by
    by_cases z:t3=1
    .rw[cu (cA z)];exact#[B,rfl,()]
    .rw[cp (by simpa using z)];exact#[C,rfl,()]
   simp![k7,hk];dsimp!;let X:(if(k:bz)>1 then(k:bz) else 1)=((max 1 k:br):bz):=by split <;> omega
   rw[show((f:bz)-1)=(y:bz) by omega];rw[X,show((room:bz) / ((max 1 k:br):bz))=((room / max 1 k:br):bz) by omega];apply#[by unfold ER;omega,?_];let#[s7,O]:=A7.A_;let hle:room / max 1 k<=room:=Nat.div_le_self _ _;apply bV #[_,_,_,_,_,_,_,rfl,A7.at_,i,O,r,x,u,(),(),(),λl G8 I H y3 y4 y5 a8=>?_];let RD:k*bS l<=room:=D4 (Z2 (uZ 1 k) y3) (Nat.mul_div_le _ _);exact#[∅,k0 (.fN k l) G8 #[Bq,I] #[(),H,Bq] RD (by show 1+aW l<=f;omega) (A7.u a8)]
def x89{n dp:br}(aE:n<*T.cV.1<*qI)(qF:n<*T.ip.1<*xk4)(Og:n<*T.pJ.1<*nM dp):n+1<*T.il.1<*fW (dp+1):=by
 apply dk T.il.1 j' (λ_ _ _ _ _ _ hr =>
   (ar (aN 6 j'.nd (cw gX))
   (ar (jL (uQ rfl T.bw #v[(ek aE hr #v[!0,(aM cn ax (cM w04 rfl T.qk ∅ #v[!4,ax]))])]) (bY 7 j'.nd) (ar (aN 8 j'.nd (aM fg (!4) (ek qF hr #v[!6])))
   (az (aH (sL (w_and (bA (qT) (!8) ax (ag _)) (CI (bA (qT) (¬5) ax (ag _))))) (az (dP (mM (!6) #v[(ek Og hr #v[!0,!1,!2,!3,!8,!5])]))) b_))))
   (az (a_ (iE ym rfl T.cj ∅ #v[!6])))))) (λds G R h=>?_)
 .let#[st,sp,W,deep,room,bs,s,rfl,S,rN,uo,hW,h1,h2,hd,hd5,uE0,k0]:=h;simp!;apply#[∅,λq hq=>?_];let nq:=S.ne hq;let Rt:q≠sp:=uB7 hq uo;dsimp!;let A1:=(jY.j S uo).grow (aj.j.S (o:=.lst []) hq);apply dy A1.at_ (by split <;> omega) (by split <;> omega) λx1 G1 a1 b1 b2=>?_;let b3:x1<=4:=by revert b2;split <;> intro b2 <;> omega
  let#[mx,rfl]:=gv b1;let k1:=a1.kp _ _ nq ay;let A2:=A1.Ac a1 rN;simp!;apply#[#[(),()],?_];generalize hN:Go (kH _ _)=N;apply jO (λr σ G'=>Ey λ(i c:br) (rs:bf ai) (v6 v7:b0 D)=>OZ (i+c=mx) (r=bW (i:bz) c) (jY st sp G G') (G' q=du (.lst (bc rs))) (dF W bs rs) (gL rs) (bS rs<=room) (aW rs<=deep) (rs.l<=i) (σ=[du (.ref st),du (.tup (bs.t .str)),du (.int (W:bz)),du (.int (deep:bz)),du (.int (room:bz)),du (.ref sp),du (.ref q),v6,v7])) #[0,mx,[],dv,dv,(),rfl,A2,k1,trivial,trivial,J8 _,J8 _,B9 _,rfl] ?_ ?_
  .rintro σ G2 ⟨i,c,rs,v6,v7,e,e2,A3,k3,o1,o2,o3,o4,o5,rfl⟩;apply#[trivial,?_];rw[<- hN];dsimp![k3];exact k0 rs G2 o1 o2 o3 o4 () A3
  .rintro z r σ G2 ⟨i,c,rs,v6,v7,e,e2,A3,k3,o1,o2,o3,o4,o5,rfl⟩ ih;cases c with
   | zero=>cases e2
   | succ c =>
    rw[jb] at e2;cases e2;apply#[trivial,?_];let#[s2,dz]:=A3.A_;simp!;apply iD (v:=.int (bS rs:bz)) (G1:=G2) (λR h=>#[.ref q,rs,rfl,by show bt (G2 q)=_;rw[k3];rfl,o2,(),(),h]) ?_;simp!;dsimp![dz];apply fq (λg=>?_) (λg=>?_)
    .simp![dz];apply fq (λg2=>?_) (λg2=>?_)
     .rw[show((room:bz)-(bS rs:bz))=((room-bS rs:br):bz) by omega];simp![k3];apply lh (k0:=λd G'=>∃r0:ai,d=df r0/\ou W bs r0/\Bz r0/\mK r0<=room-bS rs/\lE r0<=deep/\jY st sp G2 G') (λR h=>#[st,sp,W,deep,room-bS rs,bs,s2,rfl,A3.at_,rN,dz,hW,h1,h2,(),hd5,(),(),λr0 G' a b c d e=>h _ _ #[r0,rfl,a,b,c,d,e]]) ?_;intro d G3 #[r0,rfl,p1,p2,p3,p4,a3];let k4:=a3.kp _ _ nq Rt k3;let A4:=A3.u a3;simp![k4];let er:bc rs++[df r0]=bc (rs++[r0]):=by rw[vD,vD,B7];rfl
      rw[er];let hl6:(bc (rs++[r0])).l=rs.l+1:=by rw[lO,B4];rfl
      let hl7:(bc rs).l=rs.l:=lO _;apply#[C6 (m:=1000) () ∅,ih _ _ #[i+1,c,rs++[r0],_,_,(),by congr 1,A4.put hq k4 nq Rt,ay,cN.mpr #[o1,p1,trivial],jW.mpr #[o2,p2,trivial],?_,?_,by rw[B4];show rs.l+1<=i+1;omega,rfl]]
      .rw[CL];show bS rs+(mK r0+0)<=room;omega
      .rw[AS];show max (aW rs) (max (lE r0) 0)<=deep;omega
     .exact ih _ _ #[i+1,c,rs,_,_,(),by congr 1,A3,k3,o1,o2,o3,o4,(),rfl]
    .exact ih _ _ #[i+1,c,rs,_,_,(),by congr 1,A3,k3,o1,o2,o3,o4,(),rfl]
def x86{n dp:br}(N:n<*T.gj.1<*fV dp):n+1<*T.gj.1<*fV (dp+1):=by
 apply dk T.gj.1 j9 (λ_ _ _ _ _ _ E =>
   (ar (aN 1 j9.nd (cw gX))
   (ar (jL (gY (!0)) (bY 2 j9.nd) (az (aH (bA (aP E) (¬2) aR (ag _)) (az (aN 1 j9.nd (aM cn (!1) (aM mL (ek N E #v[¬2]) (¬2))))) (az (aH (bA (aP E) (¬2) aR (ag _)) (az (dP (mM (!1) #v[(bh #v[aR,¬2,(iE ym rfl T.cj ∅ #v[(ek N E #v[¬2])]),(iE ym rfl T.cj ∅ #v[(ek N E #v[¬2])])])]))) (az (dP (mM (!1) #v[!2]))))))))
   (az (a_ (!1)))))) (λds G R h=>?_)
 .let#[u,rfl,hd,hb,hw,k0]:=h;simp!;apply#[∅,λp i=>?_];dsimp!;apply jO (λr L G'=>uG λ(l t:bf ai) (p:fy) (q:b0 D)=>yL (l++t=u) (r=bc t) (G p=dv) (aj G G') (G' p=du (.lst (bc (aF l)))) (L=[du (.tup (bc u)),du (.ref p),q])) #[[],u,p,dv,rfl,rfl,i,aj.j.S i,ay,rfl] ?_ ?_
  .intro L G1 #[l,t,p,q,e,J,i,g,y,rfl];let ht:t=[]:=by
    cases t with
    | nil=>rfl| cons x t=>cases J
   subst ht;rw[D7] at e;subst e;apply#[trivial,?_];dsimp!;exact k0 p G1 i y g
  .rintro x r L G1 ⟨l,t,p,q,e,J,i,g,y,rfl⟩ ih;cases t with
   | nil=>cases J
   | cons j t =>
    cases J;apply#[trivial,?_];let S:j∈u:=by rw[<- e];simp
    let Y:=Ho (Ts hd) j S;let ZW:=Qp S;let A:=PZ hb S;let vd:bS l+(mK j+bS t)=bS u:=by rw[<- e,CL];rfl
    let DS:=Hu l;let vf:(bc (aF l)).l=(aF l).l:=lO _;let DR:(eA j).l<=mK j:=by let:=Qf (eA j);rw[Xf] at this;exact this
    generalize Bu:forL _ _ _ _ (bc t)=FL at ih⊢;let I:∀B (C:fy),G C=dv->aj G B->B C=du (.lst (bc (aF l)++bc (eA j)))->∀(q:b0 D),FL [du (.tup (bc u)),du (.ref C),q] B:=λB C h2 g2 O q=>ih _ _ #[l++[j],t,C,q,by rw[<- e];simp,rfl,h2,g2,by rw[O,QO,<- CP];simp[aF],rfl];cases j with
    | is x a =>let U:(C5 "is" = C5 "choose")=b8:=c_ ∅;let H:(C5 "is" = C5 "times")=b8:=c_ ∅;simp![df,U,H,y];exact#[C6 (m:=10000000) () ∅,I _ p i (g.own i) (by rw[ay];rfl) _]| op x o a b =>let U:(C5 "op" = C5 "choose")=b8:=c_ ∅;let H:(C5 "op" = C5 "times")=b8:=c_ ∅;simp![df,U,H,y];exact#[C6 (m:=10000000) () ∅,I _ p i (g.own i) (by rw[ay];rfl) _]| e_ a f Z =>let H:(C5 "choose" = C5 "times")=b8:=c_ ∅;simp![df,H,y];let lC:1+max (aW f) (aW Z)<=dp:=Y;let DC:1+bS f+bS Z<=bS u:=ZW;apply bV #[_,rfl,(),A.1,(),λq1 B f1 Q g2=>?_];simp![Q,bt];apply bV #[_,rfl,(),A.2,(),λq2 G3 f2 O g3=>?_];let rX:=(g2.u g3).kp _ _ y;simp![O,bt,rX];exact#[∅,C6 (m:=10000000) () ∅,I _ p i ((g.u (g2.u g3)).own i) (by rw[ay];rfl) _]| fN k f =>
     let lC:1+aW f<=dp:=Y;simp![df];apply bV #[_,rfl,(),A.2.1,A.1,λq1 B f1 Q g2=>?_];let X:=g2.kp _ _ y;simp![Q];let hoy:=Hu f;let hk:k<=20:=A.2.2;let FY:(aF f).l*k=(eA (.fN k f)).l:=by show _=(C7 k (aF f)).C.l;rw[len_rep,Pb]
     let hz:=A.1;let M:(bc (aF f)).l*k=(eA (.fN k f)).l:=by rw[lO];exact FY
     let uE7:(C7 k (bc (aF f))).C.l=(eA (.fN k f)).l:=by rw[len_rep,Pb];exact M
     apply#[#[(),(),D4 (m:=10000001) () ∅],λq3 h3=>?_];let np:p≠q3:=aT X h3;let g4:=(g.u g2).S (o:=.lst (C7 k (bc (aF f))).C) h3;apply add_l (by rw[aA np];exact X) ay () λq4 h4=>I _ q4 (g4.none h4) (g4.S h4) ?_ _;rw[ay,Yx];rfl
def x92{n:br}(q:n<*T.cV.1<*qI)(kN:n<*T.ji.1<*mB)(mG:n<*T.il.1<*xk3)(kM:n<*T.gj.1<*Pz):n+1<*T.pL.1<*xk:=by
 apply dk T.pL.1 gC (λ_ _ _ _ _ _ f =>
   (ar (aN 1 gC.nd (aM cn ax (bH bF (cw #v[(ek q f #v[!0,ax]),(ek q f #v[!0,ax])]) (iE AQ rfl T.fL ∅ #v[(j0 (aP f) (ek q f #v[!0,ax]) ax (ag _))]))))
   (ar (aN 2 gC.nd (ek kN f #v[!0,(aM cn ax (bH bF (cw #v[(ek q f #v[!0,ax]),(ek q f #v[!0,ax])]) (iE AQ rfl T.fL ∅ #v[(j0 (aP f) (ek q f #v[!0,ax]) ax (ag _))])))]))
   (ar (aN 3 gC.nd (bH bF (cw #v[ax,ax]) (iE AQ rfl T.fL ∅ #v[(CA (j0 (aP f) (ek q f #v[!0,ax]) ax (ag _)) (AA (j0 (fE) (!1) ax (ag _))))])))
   (ar (aN 4 gC.nd (aM w06 (ek mG f #v[!0,!2,!1,ax,!3,(cw #v[ax])]) (ek mG f #v[!0,!2,!1,ax,ax,(cw #v[ax])])))
   (ar (aH (bA (aP f) (cM eG rfl T.aY ∅ #v[(ek kM f #v[!4])]) ax (ag _)) (az (aN 4 gC.nd (aM w06 (!4) (bh #v[(bh #v[aR,¬2,aR,(bH bF (!2) (sv EZ ax)),ax])])))) b_)
   (az (a_ (bh #v[!1,!2,!4]))))))))) (λds G R h=>?_)
 .let#[st,rfl,S,k0]:=h;simp!;apply dy S ∅ ∅ λL G1 a1 b1 b2=>?_;apply dy a1.at_ ∅ ∅ λJ G2 a2 b3 b4=>?_;apply#[∅,λp hp=>?_];let A2:=a1.u a2;let np:=A2.at_.ne hp;let A3:=A2.S (o:=.lst [D.int L,D.int J]) hp;apply dy A3.at_ ∅ ∅ λx3 G3 a3 b5 b6=>?_;let k3:=a3.kp _ _ np ay;let A4:=A3.u a3;let#[L,rfl]:=gv b1;let#[J,rfl]:=gv b3;simp!;obtain⟨W,hW1,hW2⟩:∃k:br,cS [D.int (L:bz),D.int (J:bz)] (if decide (x3=1)=dS then 1 else 0)=du (.int (k:bz))/\k<=15:=by
   by_cases z:x3=1
   .rw[cu (cA z)];exact#[J,rfl,()]
   .rw[cp (by simpa using z)];exact#[L,rfl,()]
  simp![k3,hW1];dsimp!;apply dy A4.at_ ∅ ∅ λI G5 a5 c1 c2=>?_;apply dy a5.at_ ∅ ∅ λH G6 a6 c3 c4=>?_;apply#[∅,λp6 sX=>?_];let A6:=(A4.u a5).u a6;let X:=A6.at_.ne sX;let A7:=A6.S (o:=.lst [D.int I,D.int H]) sX;apply dy A7.at_ ∅ ∅ λy3 G8 a8 c5 c6=>?_;let k8:=a8.kp _ _ X ay;let A8:=A7.u a8;let#[I,rfl]:=gv c1;let#[H,rfl]:=gv c3;simp!;obtain⟨mb,kX,fA⟩:∃k:br,cS [D.int (I:bz),D.int (H:bz)] (if decide (y3=1)=dS then 1 else 0)=du (.int (k:bz))/\k<=5:=by
   by_cases z:y3=1
   .rw[cu (cA z)];exact#[H,rfl,()]
   .rw[cp (by simpa using z)];exact#[I,rfl,()]
  simp![k8,kX];rw[show((1:bz)+(mb:bz))=((mb+1:br):bz) by omega];apply bV #[st,mb+1,rfl,A8.at_,(),(),λA G9 nC _ iI a9=>?_];let A9:=A8.u a9;simp!;dsimp!;apply#[∅,λp10 LD=>?_];let Ax:=A9.S (o:=.lst [D.int 5,D.int 9]) LD;let u6:=A9.at_.ne LD;apply dy Ax.at_ ∅ ∅ λz1 sF LX u1 u2=>?_;let zK:=LX.kp _ _ u6 ay;let Q:=Ax.u LX;generalize hu:fo (i9 (z9 PU _ _) (sH 4)) _=u;simp![zK,bt];let rest:∀U:br,U<=9->Go (u { nx:=λx G'=>R D.non G',rt:=R}) [du (.ref st),du (.int (1+(W:bz))),du (.tup (A.t .str)),du (.int (U:bz)),dv] sF:=by
   intro U hrm;subst hu;rw[show((1:bz)+(W:bz))=((W+1:br):bz) by omega];dsimp!;apply#[∅,λp12 N=>?_];let Z:=Q.at_.ne N;let S12:=Q.at_.S (o:=.lst [D.int 20]) N;apply bV #[_,_,_,3,_,_,_,rfl,S12,Z,ay,(),(),(),∅,∅,(),λt ON r1 r2 r3 r4 r5 Sg=>?_];let GD:cJ st G ON:=Q.u #[Sg.at_,λb o hb e=>Sg.kp _ _ hb (aT e N) (by rw[aA (aT e N)];exact e)];simp!;apply#[∅,λp14 O=>?_];let Y:=GD.at_.ne O;let S14:=GD.at_.S (o:=.lst [D.int 5]) O;apply bV #[_,_,_,1,3,_,_,rfl,S14,Y,ay,(),(),(),∅,∅,(),λr G15 q1 q2 q3 q4 q5 B=>?_];let A15:cJ st G G15:=GD.u #[B.at_,λb o hb e=>B.kp _ _ hb (aT e O) (by rw[aA (aT e O)];exact e)];rw[ut8,<- CP];apply#[D4 (m:=8) (by rw[lO,lO];omega) ∅,?_];let bd:gL (t++r):=jW.mpr #[r2,q2];let y:dF (W+1) A (t++r):=cN.mpr #[r1,q1];let dp3:aW (t++r)<=3:=by rw[AS];omega
   let wt3:bS (t++r)<=12:=by rw[CL];omega
   let ln3:(t++r).l<=8:=by rw[B4];omega
   generalize t++r=j at *;dsimp!;apply bV #[_,rfl,(),bd,(),λq16 C f16 k16 g16=>?_];let E:=A15.grow g16;simp![k16,bt];let hlo:(bc (aF j)).l=(aF j).l:=lO _;rw[hlo];by_cases M:(aF j).l=0
   .rw[cu (cA ())];obtain⟨g,i,rfl⟩:∃g i,A=g::i:=by
     cases A with
     | nil=>cases nC
     | cons a b=>exact#[a,b,rfl]
    obtain⟨bl,hb2,RL⟩:∃bl,cS ((g::i).t D.str) (-1)=du (.str bl)/\bl∈g::i:=by apply#[(g::i).getLast (by simp),?_,List.getLast_mem _];let e:=List.dropLast_concat_getLast (l:=g::i) (by simp);generalize (g::i).getLast (by simp)=z at e⊢;rw[<- e,B7];exact v75
    rw[hb2,C1,xj2];apply#[∅,∅,?_];rw[ut8];apply#[D4 (m:=1000) (by rw[lO];show _+1<=_;omega) ∅,?_];dsimp!;let er:bc j++[D.tup [.str (C5 "op"),.str g,.str (C5 "+"),.str bl,.int 1]]=bc (j++[ai.op g (C5 "+") (jt.box bl) (jt.num 1)]):=by rw[CP];rfl
    rw[er];apply#[∅,k0 (W+1) (g::i) (j++[ai.op g (C5 "+") (jt.box bl) (jt.num 1)]) C () () () () iI (cN.mpr #[y,#[#[by simp,by simp[signs],RL,Nat.one_lt_two_pow ()],trivial]]) (jW.mpr #[bd,show gL [ai.op g (C5 "+") (jt.box bl) (jt.num 1)] from #[show Bz (ai.op g (C5 "+") (jt.box bl) (jt.num 1)) from trivial,trivial]]) (by rw[AS];show max _ (max 0 0)<=3;omega) (by rw[CL];show _+(1+0)<=20;omega) ?_ E];rw[QO];intro e;let e2:=cv J1 e;rw[B4] at e2;simp[aF,eA] at e2
   .rw[cp (by rw[c7 ()];decide)];dsimp!;exact#[∅,k0 (W+1) A j C () () () () iI y bd dp3 () (λe=>M (by rw[e];rfl)) E]
  by_cases M:z1=1
  .rw[cu (cA M)];by_cases hw:(1:bz)+(W:bz)<5
   .rw[cA hw,cu rfl];exact rest 9 ∅
   .rw[c7 hw,cp ∅];exact rest 5 ∅
  .rw[cp (by simpa using M)];exact rest 5 ∅
def xa1{n:br}(U:n<*T.cV.1<*qI):n+1<*T.pQ.1<*xo:=by
 apply dk T.pQ.1 gF (λ_ _ _ _ _ _ M =>
   (ar (aN 3 gF.nd (aM cn ax (ek U M #v[!0,(cM w04 rfl T.qk ∅ #v[!1,!2])])))
   (ar (aN 4 gF.nd (cw gX))
   (ar (aN 5 gF.nd (!1))
   (ar (jL (uQ rfl T.bw #v[(aM fg (!3) ax)]) (bY 6 gF.nd) (ar (dP (mM (!4) #v[(aM cn ax (ek U M #v[!0,(aM fg (!5) (aM fg (aM fg (!3) ax) (!6)))]))]))
   (az (aN 5 gF.nd (aM fg (!5) (bH bF (!4) (sv EZ ax)))))))
   (az (a_ (aM cn (!4) (cw #v[!5]))))))))) (λds G R h=>?_)
 .let#[st,m,J,rfl,S,h1,x,u,h4,k0]:=h;simp!;apply dy S (by split <;> omega) (by split <;> omega) λj G1 H b1 Q=>?_;let#[g,rfl]:=gv b1;let b3:g+1<=m/\g+1<=J:=by revert Q;split <;> intro Q <;> omega
  simp!;dsimp!;apply#[∅,λp C=>?_];let B:=H.at_.ne C;let Ld:=H.none C B;let A1:=H.S (o:=.lst []) C;dsimp!;dsimp!;rw[show((1:bz)+(g:bz)-1)=(g:bz) by omega];apply#[#[(),()],?_];rw[O6];generalize hN:Go (kH _ _)=N;apply jO (λr y Y=>Ey λ(i c:br) (f:bf br) (left:br) (A:b0 D)=>BZ (i+c=g) (r=bW (i:bz) c) (cJ st G Y) (Y p=du (.lst ((nI f).t .int))) (f.l=i) (∀k∈f,1<=k) (f.sum+left=m) (c+1<=left) (y=[du (.ref st),du (.int (m:bz)),du (.int (J:bz)),du (.int (1+(g:bz))),du (.ref p),du (.int (left:bz)),A])) #[0,g,[],m,dv,(),rfl,A1,ay,rfl,(λk h=>nomatch h),by simp,(),rfl] ?_ ?_
  .intro y G2 #[i,c,f,left,A,e,l,t,q,O,E,hs,hc,rfl];let Ef:c=0:=by
    cases c with
    | zero=>rfl| succ c=>rw[jb] at l;cases l
   subst Ef;apply#[trivial,?_];rw[<- hN];dsimp!;apply#[∅,λp2 x=>?_];let n2:p≠p2:=aT q x;let n3:=t.at_.ne x;let A3:=t.S (o:=.lst [.int (left:bz)]) x;apply add_l (by rw[aA n2];exact q) ay (by unfold nI;rw[B0,B0];show _+1<=_;omega) λZ u=>?_;let I:=A3.at_.ne u;apply k0 Z (f++[left]) _ #[by simp,λk h=>?_,by rw[GF];simp;omega] (by rw[B4];show _+1<=_;omega) I (A3.none u I) (by rw[ay];unfold nI;rw[B7,B7];rfl) (A3.S u);rcases F7.mp h with h|h
   .exact E k h
   .rw[D8.mp h];omega
  .rintro z r y G2 ⟨i,c,f,left,A,e,l,t,q,O,E,hs,hc,rfl⟩ ih;cases c with
   | zero=>cases l
   | succ c =>
    rw[jb] at l;cases l;apply#[trivial,?_];simp![q];apply dy t.at_ () () λj G3 X d1 d2=>?_;let#[j,rfl]:=gv d1;let L:=X.kp _ _ B q;simp![L];apply#[C6 (m:=1000) (by unfold nI;rw[B0,B0];omega) ∅,?_];dsimp![ay,v75];rw[show((left:bz)-(1+(j:bz)))=((left-(j+1):br):bz) by omega];apply ih _ _ #[i+1,c,f++[j+1],left-(j+1),_,(),by congr 1,(t.u X).own Ld L B,by rw[ay];unfold nI;rw[B7,B7];simp;omega,by rw[B4,O];rfl,λk h=>?_,by rw[GF];simp;omega,(),rfl];rcases F7.mp h with h|h
    .exact E k h
    .rw[D8.mp h];omega
def xa2{n:br}:n+1<*T.mf.1<*qx:=by
 apply dk T.mf.1 w39 (λ_ _ _ _ _ _ i =>
   (ar (aH (bA (aP i) (!0) ax (ag _)) (az (a_ ax)) b_)
   (az (a_ (bH bF (cw #v[(aM fg (aM CF ax (!0)) ax),(aM CF ax (aM fg (!0) ax))]) (iE AQ rfl T.fL ∅ #v[!1])))))) (λq G R h=>?_)
 .let#[s,b,rfl,o,k0]:=h;cases s with
  | zero =>simp!;exact k0 _ aj.j| succ s =>
   let z:(((s+1:br):bz)=0)=b8:=c_ ();let m:lL 1 ((s+1:br):bz):=Qa () ();let f:lL 1 (s:bz):=Qa () ();let l:((s+1:br):bz)-1=(s:bz):=()
   simp![z];dsimp![m,f,l];apply#[∅,λp g=>?_];let k:(1*2^(s+1)-1:bz)=((2^(s+1)-1:br):bz):=by let:=W9 (s+1);rw[Int.natCast_sub ()];simp
   let j:(1*2^s:bz)=((2^s:br):bz):=by simp
   rw[k,j];cases b
   .exact k0 _ (aj.j.S g)
   .exact k0 _ (aj.j.S g)
def x87{n:br}:n+1<*T.kE.1<*kL:=by
 apply dk T.kE.1 mX (λ_ _ _ _ _ _ Q =>
   (ar (aN 1 mX.nd (cw gX))
   (ar (jL (gY (xi1 (!0))) (bY 2 mX.nd) (az (aH (bA (aP Q) (¬2) aR (ag _)) (az (dP (mM (!1) #v[!2]))) (az (dP (mM (!1) #v[(bh #v[(bH bF (cw #v[aR,aR]) (iE AQ rfl T.fL ∅ #v[(j0 (aP Q) (¬2) aR (ag _))])),¬2])]))))))
   (az (a_ (!1)))))) (λds G R h=>?_)
 .let#[a,w,rfl,S,hl,k0]:=h;simp!;apply#[∅,λp y=>?_];let Km:a≠p:=aT S y;let lX:∀{o:DO},aC G p o a=du (.lst (w.t bX)):=λ{o}=>by rw[aA Km];exact S
  dsimp![lX];intro H M;let I:p≠H:=λz=>by rw[<- z,ay] at M;cases M
  let g1:aj G (aC (aC G p (.lst [])) H (.lst (w.t bX).ff)):=(aj.j.S y).S M;apply jO (λr C i=>kY λ(l t:bf Pm) (E:b0 D)=>yL (t++l=w) (r=(t.t bX).ff) (aj G i) (i H=du (.lst (w.t bX).ff)) (i p=du (.lst ((n_ l).t bX))) (C=[du (.ref a),du (.ref p),E])) #[[],w,dv,by simp,rfl,g1,ay,by rw[aA I,ay];rfl,rfl] ?_ ?_
  .intro C i #[l,t,E,e,B,g,x,q,rfl];let j:t=[]:=by simpa using B.M
   subst j;rw[J6] at e;subst e;apply#[by rw[x];rfl,?_];dsimp!;exact k0 p i y q g
  .rintro z r C i ⟨l,t,E,e,B,g,x,q,rfl⟩ O;rcases W0 t with j|⟨t,f,j⟩
   .subst j;cases B
   .rw[W4] at j;subst j;rw[B7,KH] at B;cases B;apply⟨by rw[x];rfl,?_⟩;let A:=cv J1 e;rw[B4,B4] at A;let nC:=wv1 (w:=l);let U:n_ (f::l)=n_ l++[fB f]:=by unfold n_;rw[C1,X6]
    let N:((n_ l).t bX).l<iZ:=by rw[B0,nC];exact C6 (m:=10000) () ∅
    cases f with
    | none =>
     simp![bX,q];apply#[N,O _ _ #[dv::l,t,_,by rw[<- e,D5];rfl,rfl,?_,?_,by rw[ay,U,B7];rfl,rfl]]
     .exact#[λb u k=>by rw[aA (aT k y)];exact g.kp _ _ k]
     .rw[aA (E1 I)];exact x
    | some f =>
     let Y:((if f.1=dS then("lay" :gq) else "clear") = "show")=b8:=c_ (by cases f.1 <;> decide);let J:cS [D.str "lay",D.str "clear"] (if decide ((if f.1=dS then("lay" :gq) else "clear") = "lay")=dS then 1 else 0)=du (D.str (mP (!f.1,f.2)).1):=by cases h:f.1 <;> rfl
     simp![bX,mD,pD,mP,Y];rw[q];apply#[trivial,∅,λZ L=>?_];let X:∀{o:DO},aC i Z o p=du (.lst ((n_ l).t bX)):=λ{o}=>by rw[aA (aT q L)];exact q
     simp only[J,X];apply#[∅,N,O _ _ #[du f::l,t,_,by rw[<- e,D5];rfl,rfl,?_,?_,by rw[ay,U,B7];rfl,rfl]]
     .exact#[λb u k=>by rw[aA (aT k y),aA (aT (g.kp _ _ k) L)];exact g.kp _ _ k]
     .rw[aA (E1 I),aA (aT x L)];exact x
def x85{n dp:br}(aE:n<*T.cV.1<*qI)(t7:n<*T.mf.1<*qx)(mF:n<*T.kE.1<*kL)(qE:n<*T.ij.1<*eU dp):n+1<*T.ij.1<*eU (dp+1):=by
 apply Fc T.ij.1 gA (λds G R h=>?_) (λ_ _ _ _ _ _ hr =>
   (ar (aH (bA (aP hr) (aM fg (!2) (!1)) ax (ag _)) (az (a_ (cw #v[(bh #v[aR,!2])]))) b_)
   (ar (aN 5 gA.nd (cw gX))
   (ar (jL (WV rfl T.bw #v[(aM cn (!1) ax),(aM cn (aM cn (!1) ax) (aM PX (aM cn (aM fg (!2) (!1)) ax) ax))]) (bY 6 gA.nd) (az (aH (sL (w_and (bA (GH) (aM fg (!6) (!1)) (ek t7 hr #v[(aM fg (!3) (iE AQ rfl T.fL ∅ #v[!4])),gJ]) (ag _)) (CI (bA (GH) (aM fg (!2) (!6)) (ek t7 hr #v[(aM fg (!3) ax),!4]) (ag _))))) (az (dP (mM (!5) #v[!6]))) b_)))
   (ar (aN 6 gA.nd (bH bF (!5) (ek aE hr #v[!0,(cM eG rfl T.aY ∅ #v[!5])])))
   (ar (aN 7 gA.nd (aM cn (ek qE hr #v[!0,!1,!6,!3,gJ]) (ek qE hr #v[!0,!6,!2,(aM fg (!3) ax),!4])))
   (ar (aH (lb (!4)) (az (aN 7 gA.nd (aM cn (!7) (ek mF hr #v[(ek qE hr #v[!0,!1,!6,(aM fg (!3) ax),gJ])])))) b_)
   (az (a_ (!7)))))))))) (λds G R h=>?_)
 .let#[st,f,l,s,b,rfl,_]:=h;rfl
 .let#[st,f,l,s,b,rfl,S,h1,h2,h3,h4,h5,k0]:=h;by_cases uA5:l-f=1
  .have e1:((l:bz)-(f:bz)=1)=dm:=eq_true ();simp![e1];apply#[∅,∅,λp hp=>?_];let hl:l=f+1:=()
   subst hl;let hs:1<=s:=by
    cases s with
    | zero=>simp[gK] at h4| succ s=>omega
   exact k0 p [(dS,f+1)] _ ((cJ.j S).S hp) hp (S.ne hp) ay (wa3 hs) (by simp)
  .have h2l:f+2<=l:=()
   let e1:((l:bz)-(f:bz)=1)=b8:=c_ ();let#[s',hs',Gb,vY]:=vl9 (by omega:2<=l-f) h4;subst hs';simp![e1];dsimp!;apply#[∅,λp hp=>?_];let S1:=S.S (o:=.lst []) hp;let nps:=S.ne hp;let cd:ER ((l:bz)-(f:bz)+1) 2:=#[∅,∅];obtain⟨hh,R_⟩:∃hh:br,hh=(l-f+1) / 2:=#[_,rfl];rw[<- R_] at Gb vY;let hA:l<=f+2*hh/\f+2*hh<=l+1:=by let a:=Nat.div_add_mod (l-f+1) 2;let b:=vj (l-f+1) (show 0<2 by decide);rw[<- R_] at a;generalize (l-f+1)%2=r at a b;omega
   let ed:((l:bz)-(f:bz)+1) / 2=(hh:bz):=()
   let en:((f:bz)+1+(hh:bz)-((f:bz)+1)).i=hh:=()
   dsimp![cd,ed,en];clear cd ed en R_ e1 uA5;let#[hA2,hA3]:=hA;apply#[#[(),(),(),()],?_];let hh1:1<=hh:=()
   let hhl:f+hh<l:=()
   let eb:((s'+1:br):bz)-(if b=dS then 1 else 0)=((if b=dS then s' else s'+1:br):bz):=by cases b <;> simp
   let es:((s'+1:br):bz)-1=(s':bz):=()
   let sb:(if b=dS then s' else s'+1)<=100:=by split <;> omega
   apply jO (λr σ G'=>∃(i c:br) (ms:bf br) (v:b0 D),i+c=hh/\r=bW ((f:bz)+1+(i:bz)) c/\cJ st G G'/\G' p=du (.lst (ms.t nD))/\ms.l<=i/\(∀x∈ms,f<x/\x<=f+hh/\x-f<=gK (if b=dS then s' else s'+1) dS/\l-x<=gK s' b)/\(i=hh->f+hh∈ms)/\σ=[du (.ref st),du (.int (f:bz)),du (.int (l:bz)),du (.int ((s'+1:br):bz)),du (.bl b),du (.ref p),v,dv]) #[0,hh,[],dv,(),by simp,(cJ.j S).S hp,ay,by simp,(by simp),(λz=>()),rfl] ?_ ?_
   .rintro σ G1 ⟨i,c,ms,v,e,e2,A1,k1,RD,RC,Bo,rfl⟩;apply#[trivial,?_];let ec:c=0:=by
     cases c with
     | zero=>rfl| succ c=>rw[jb] at e2;cases e2
    subst ec;let Ea:=Bo ();let hmp:0<ms.l:=TM Ea;dsimp![k1,B0];apply dy A1.at_ () () λv1 G2 a2 p1 q1=>?_;let k2:=a2.kp _ _ nps k1;let#[d,hd,vk]:=at_getD (xs:=ms.t nD) p1 (by rw[B0];exact q1);let#[m,hm,rfl]:=D6.mp hd;let#[m1,m2,m3,m4]:=RC m hm;let A2:=A1.u a2;let mc:m-f<=gK (s'+1) dS:=by
     cases b
     .exact m3
     .exact D4 m3 v71
    simp![k2,vk,nD];dsimp!;apply PD (dp:=dp) A2.at_ m1 () () mc h5 λq1 w1 G3 a3 f3 n3 k3 W1 l1=>?_;simp![es];apply PD (dp:=dp) a3.at_ (by omega:m<l) () h3 m4 () λq2 w2 G4 a4 f4 n4 k4 W2 l2=>?_;let ZL:=a4.kp _ _ n3 k3;let A4:=A2.u (a3.u a4);let L1:(m-f)*(m-f)<=24*24:=Z2 () ();let L2:(l-m)*(l-m)<=24*24:=Z2 () ();simp!;apply AR ZL k4 (by rw[B0,B0];omega) λp5 oH=>?_;let A5:=A4.S (o:=.lst (w1.t mD++w2.t mD)) oH;let n5:=A4.at_.ne oH;let f5:G p5=dv:=A4.none oH n5;rw[<- B7] at A5⊢;simp!;dsimp!;cases b with
    | false =>simp!;dsimp!;apply k0 p5 (w1++w2) _ A5 f5 n5 ay (vr9 m1 () W1 W2) ?_;let:=v35 (a:=m-f) (L:=l-f) (x:=w1.l) (y:=w2.l) (z:=0) () ((Nu (show 0<2 by decide)).mpr ()) () l1 (by rw[Nq (O4 m1)];exact l2) (J8 _);rw[B4];omega| true =>simp![es];apply PD (dp:=dp) A5.at_ m1 () () m3 () λq3 w3 G6 a6 f6 n6 k6 W3 l3=>?_;simp!;apply QW k6 () λq7 G7 f7 h7 g7=>?_;let k57:G7 p5=du (.lst ((w1++w2).t mD)):=g7.kp _ _ (a6.kp _ _ n5 ay);let A7:=(A5.u a6).grow g7;simp!;apply AR k57 h7 (by rw[B0,B0,B4,Fl];omega) λp8 Lf=>?_;let A8:=A7.S (o:=.lst ((w1++w2).t mD++(gp w3).t mD)) Lf;let n8:=A7.at_.ne Lf;rw[<- B7] at A8⊢;simp!;dsimp!;apply k0 p8 (w1++w2++gp w3) _ A8 (A7.none Lf n8) n8 ay (vc2 m1 () W1 W2 W3) ?_;let:=v35 (a:=m-f) (L:=l-f) (x:=w1.l) (y:=w2.l) (z:=w3.l) () ((Nu (show 0<2 by decide)).mpr ()) () l1 (by rw[Nq (O4 m1)];exact l2) l3;rw[B4,B4,Fl];omega
   .rintro z r σ G1 ⟨i,c,ms,v,e,e2,A1,k1,RD,RC,Bo,rfl⟩ ih;cases c with
    | zero=>cases e2
    | succ c =>
     rw[jb] at e2;cases e2;apply#[trivial,?_];obtain⟨x,hx⟩:∃x:br,x=f+1+i:=#[_,rfl];let ex:(f:bz)+1+(i:bz)=(x:bz):=()
     let en2:(x:bz)+1=(f:bz)+1+((i+1:br):bz):=()
     rw[ex] at ih;simp![ex,eb];apply Ut sb λG2 g2=>?_;let k2:=g2.kp _ _ k1;let A2:=A1.grow g2;let no:∀(G3:Gp),cJ st G G3->G3 p=du (.lst (ms.t nD))->¬ (x-f<=gK (if b=dS then s' else s'+1) dS/\l-x<=gK s' b)->∃(i' c':br) (ms:bf br) (v:b0 D),i'+c'=hh/\bW ((x:bz)+1) c=bW ((f:bz)+1+(i':bz)) c'/\cJ st G G3/\G3 p=du (.lst (ms.t nD))/\ms.l<=i'/\(∀x∈ms,f<x/\x<=f+hh/\x-f<=gK (if b=dS then s' else s'+1) dS/\l-x<=gK s' b)/\(i'=hh->f+hh∈ms)/\[du (D.ref st),du (.int (f:bz)),du (.int (l:bz)),du (.int ((s'+1:br):bz)),du (.bl b),du (.ref p),du (.int (x:bz)),dv]=[du (.ref st),du (.int (f:bz)),du (.int (l:bz)),du (.int ((s'+1:br):bz)),du (.bl b),du (.ref p),v,dv]:=λG3 a3 k3 hno=>by
      apply#[i+1,c,ms,_,(),by rw[en2],a3,k3,(),RC,λz=>?_,rfl];apply cz #[?_,?_] hno
      .rw[show x=f+hh by omega];exact Gb
      .rw[show x=f+hh by omega];exact vY
     simp![es];apply fq (λhy=>?_) (λhy=>?_)
     .apply Ut () λG3 g3=>?_;let k3:=g3.kp _ _ k2;let A3:=A2.grow g3;simp!;apply fq (λDA=>?_) (λDA=>?_)
      .simp![k3];apply#[by rw[B0];exact C6 (m:=1000) () ∅,ih _ _ #[i+1,c,ms++[x],_,(),by rw[en2],A3.own hp k3 nps,by rw[ay,B7];rfl,by simp;omega,λy hy=>?_,λz=>?_,rfl]]
       .rcases F7.mp hy with z|z
        .exact RC y z
        .have z:y=x:=by simpa using z
         subst z;exact⟨(),(),(),()⟩
       .have:f+hh=x:=()
        rw[this];simp
      .exact ih _ _ (no G3 A3 k3 ())
     .exact ih _ _ (no G2 A2 k2 ())
def x96{n:br}:n+1<*T.pN.1<*xl:=by
 apply dk T.pN.1 mZ (λ_ _ _ _ _ _ M =>
   (ar (aN 3 mZ.nd (cw gX))
   (ar (jL (WV rfl T.bw #v[ax,(aM cn (!1) ax)]) (bY 4 mZ.nd) (az (aH (sL (w_or (bA (aP M) (!4) ax (ag _)) (CC (bA (k_ M) (aM fg (!4) ax) (!0) (by with_unfolding_all rfl))))) (az (aH (bA (k_ M) (!4) (!0) (by with_unfolding_all rfl)) (az (dP (mM (!3) #v[(bh #v[aR,!4])]))) (az (aH (bA (fE) (cM eG rfl T.aY ∅ #v[!0]) (!2) (ag _)) (az (dP (mM (!3) #v[(bh #v[aR,!4])]))) b_)))) b_)))
   (az (a_ (!3)))))) (λds G R h=>?_)
 .let#[a,m,f,s,rfl,S,X,Y,k0]:=h;let Z:((f:bz)+1-1).i=f:=()
  let FI:(-2^62<=(1:bz)/\(1:bz)<2^62/\-2^62<=(f:bz)+1/\(f:bz)+1<2^62):=#[∅,∅,(),()];simp!;apply#[∅,λI x=>?_];let Km:a≠I:=aT S x;let B:∀{o:DO},aC G I o a=du (.lst ((fz m).t .int)):=λ{o}=>by rw[aA Km];exact S
  dsimp![Z];apply#[FI,?_];let y:((fz m).t D.int).l=mx f m:=by rw[B0,Qy,w86 Y X]
  apply jO (λr L O=>uG λ(i c:br) (j:bf Mv) (v:b0 D)=>yL (i+c=f) (r=bW ((i:bz)+1) c) (O=aC G I (.lst (j.t mD))) (j.l<=i) (∀p,p∈j↔nY f s m p/\p.2<=i) (L=[du (.ref a),du (.int (f:bz)),du (.int (s:bz)),du (.ref I),v])) #[0,f,[],dv,(),rfl,rfl,by simp,(λp=>#[λz=>by simp at z,λz=>by let:=z.1.1.1;omega]),rfl] ?_ ?_
  .intro L O #[i,c,j,v,e,E,rfl,cq,q,rfl];apply#[trivial,?_];dsimp!;let ec:c=0:=by
    cases c with
    | zero=>rfl| succ c=>rw[jb] at E;cases E
   subst ec;exact k0 I j _ x ay (λp=>(q p).u #[λz=>z.1,λz=>#[z,by let:=z.1.2;omega]]) () (aj.j.S x)
  .rintro z r L O ⟨i,c,j,v,e,E,rfl,cq,q,rfl⟩ u;cases c with
   | zero=>cases E
   | succ c =>
    rw[jb] at E;cases E;apply#[trivial,?_];let ei:(i:bz)+1=((i+1:br):bz):=()
    let N:((i+1:br):bz)-1=(i:bz):=()
    let J:(j.t mD).l<iZ:=by rw[B0];exact C6 (m:=1000) () ∅
    let tail:(i=0\/m.p (i-1)=dS)->(m.p i=dS->nY f s m (eH,i+1))/\(m.p i=eH->mx f m<s->nY f s m (dS,i+1))/\(m.p i=eH->¬ mx f m<s->∀b,¬ nY f s m (b,i+1)):=λh=>by
     let U:(i+1=1\/m.p (i+1-2)=dS):=by
      rcases h with h|h
      .left;omega
      .by_cases C:i=0
       .left;omega
       .right;let:i+1-2=i-1:=()
        rw[this];exact h
     apply⟨λg=>#[#[(),by show i+1<=f;omega],U,?_,λz=>by cases z],λg A=>#[#[(),by show i+1<=f;omega],U,?_,λ_=>A],λg A b y=>?_⟩
     .show eH=!m.testBit i;rw[g];rfl
     .show dS=!m.testBit i;rw[g];rfl
     .have l:b=!m.testBit i:=y.2.2.1;rw[g] at l;exact A (y.2.2.2 l)
    let t:¬ i=0->¬ m.p (i-1)=dS->∀b,¬ nY f s m (b,i+1):=λC l b y=>by
     rcases y.2.1 with z|z
     .have z:i+1=1:=z;omega
     .have z:m.p (i+1-2)=dS:=z;let:i+1-2=i-1:=()
      rw[this] at z;exact l z
    simp![ei,N,B];by_cases C:i=0
    .rw[cu (cA ())];apply Yq (ns:=fz m) (by rw[B];rfl) ?_;rw[cp D1];by_cases g:m.p i=dS
     .rw[cA ((ze (k:=i+1) () ()).mpr g)];simp!;apply⟨∅,J,u _ _ ⟨i+1,c,j++[(eH,i+1)],_,(),rfl,?_,by simp;omega,Qx q ((tail (.inl C)).1 g),rfl⟩⟩;rw[gb,B7];rfl
     .have H:m.p i=eH:=by simpa using g
      rw[c7 λz=>g ((ze (k:=i+1) () ()).mp z)];simp![B,y];apply fq (λA=>?_) (λA=>?_)
      .apply⟨∅,J,u _ _ ⟨i+1,c,j++[(dS,i+1)],_,(),rfl,?_,by simp;omega,Qx q ((tail (.inl C)).2.1 H ()),rfl⟩⟩;rw[gb,B7];rfl
      .exact u _ _ ⟨i+1,c,j,_,(),rfl,rfl,(),W_ q ((tail (.inl C)).2.2 H ()),rfl⟩
    .rw[cp (by rw[c7 ()];decide)];apply Yq (ns:=fz m) (by rw[B];rfl) ?_;rw[cp D1];by_cases l:m.p (i-1)=dS
     .rw[cA ((ze (k:=i) () ()).mpr l)];simp!;apply Yq (ns:=fz m) (by rw[B];rfl) ?_;rw[cp D1];by_cases g:m.p i=dS
      .rw[cA ((ze (k:=i+1) () ()).mpr g)];simp!;apply⟨∅,J,u _ _ ⟨i+1,c,j++[(eH,i+1)],_,(),rfl,?_,by simp;omega,Qx q ((tail (.inr l)).1 g),rfl⟩⟩;rw[gb,B7];rfl
      .have H:m.p i=eH:=by simpa using g
       rw[c7 λz=>g ((ze (k:=i+1) () ()).mp z)];simp![B,y];apply fq (λA=>?_) (λA=>?_)
       .apply⟨∅,J,u _ _ ⟨i+1,c,j++[(dS,i+1)],_,(),rfl,?_,by simp;omega,Qx q ((tail (.inr l)).2.1 H ()),rfl⟩⟩;rw[gb,B7];rfl
       .exact u _ _ ⟨i+1,c,j,_,(),rfl,rfl,(),W_ q ((tail (.inr l)).2.2 H ()),rfl⟩
     .rw[c7 λz=>l ((ze (k:=i) () ()).mp z)];simp!;exact u _ _ ⟨i+1,c,j,_,(),rfl,rfl,(),W_ q (t C l),rfl⟩
def xa3{n:br}:n+1<*T.pR.1<*xq:=by
 apply dk T.pR.1 w40 (λ_ _ _ _ _ _ L =>
   (ar (aH (bA (aP L) (¬1) aR (ag _)) (az (a_ (cM vr0 rfl T.iB ∅ #v[(aM cn (!0) (cw #v[¬1]))]))) b_)
   (az (a_ (jM (N':=["_law_k", "_law_move"]) (ix:=[dv,du 1]) (iA rfl rfl rfl) (gY (!0)) (λ_ _ _ _=>(bY 0 (show(["_law_k", "_law_move"]:bf gq).Nodup by decide))) (λ_ _ _ _=>(XD (bA (mI L) (!0) (¬1) (ag _)))) (λ_ _ _ _=>(!0))))))) (λds G R h=>?_)
 .let#[a,m,p,rfl,k,#[C,u],k0]:=h;let M:((fz m).t D.int).l<=24:=by rw[B0,Qy];exact Ha
  cases t:p.1 with
  | true =>
   rw[t] at u;let B:d_ p.2 m=eH:=by simpa using u.M
   simp![mD,pD,mP,t];apply#[∅,λl i=>?_];apply AR (by rw[aA (aT k i)];exact k) ay (by show _+1<=100000;omega) λQ N=>?_;apply#[Q,fz m++[(p.2:bz)],rfl,by rw[ay,B7];rfl,by rw[B4,Q5];rw[B0] at M;omega,λO jd I Y Z=>?_];let e:=vi5 C.1 C.2 B Y Z;subst e;exact k0 O _ ((((aj.j.S i).S N)).none I) ay (((aj.j.S i).S N).S I)
  | false =>
   rw[t] at u;let B:d_ p.2 m=dS:=by simpa using u.M
   let S:(("clear" :gq) = "lay")=b8:=c_ ∅;simp![mD,pD,mP,t,S];dsimp![k];intro l i;let H:∀{o:DO},aC G l o a=du (.lst ((fz m).t .int)):=λ{o}=>by rw[aA (aT k i)];exact k
   apply jP (λr A E=>kY λ(g f:bf bz) (v:b0 D)=>jX (g++f=fz m) (r=f.t .int) (E=aC G l (.lst ((g.filter λx=>!decide (x=(p.2:bz))).t .int))) (A=[v,du (.tup [.str "clear",.int (p.2:bz)])])) #[[],fz m,dv,rfl,rfl,rfl,rfl] ?_ ?_
   .intro A E #[g,f,v,e,y,rfl,rfl];let U:f=[]:=by simpa using y.M
    subst U;rw[D7] at e;subst e;apply#[by rw[H];rfl,?_];rw[uv3 C.1 B];exact k0 l _ i ay (aj.j.S i)
   .rintro z r A E ⟨g,f,v,e,y,rfl,rfl⟩ J;cases f with
    | nil=>cases y
    | cons x f =>
     cases y;apply#[by rw[H];rfl,?_];let j:=cv J1 e;rw[B4,C0] at j;rw[B0] at M;let X:=TL (λx=>!decide (x=(p.2:bz))) g;simp!;by_cases q:x=(p.2:bz)
     .rw[cp (by rw[cA q];decide)];apply J _ _ #[g++[x],f,_,by rw[<- e,D5];rfl,rfl,?_,rfl];rw[Z9];simp[q]
     .rw[cu (by rw[c7 q];rfl)];simp!;apply#[by rw[B0];exact C6 (m:=1000) () ∅,J _ _ #[g++[x],f,_,by rw[<- e,D5];rfl,rfl,?_,rfl]];rw[gb,Z9];simp[q]
def xa5{n:br}(aE:n<*T.cV.1<*qI)(mF:n<*T.kE.1<*kL)(Ol:n<*T.pN.1<*xl)(Oq:n<*T.pR.1<*xq):n+1<*T.pT.1<*xt:=by
 apply dk T.pT.1 eL (λ_ _ _ _ _ _ y =>
   (ar (aN 4 eL.nd (cw gX))
   (ar (aN 5 eL.nd (cw gX))
   (ar (jL (gY (!1)) (bY 6 eL.nd) (ar (aH (bA (aP y) (ek aE y #v[!0,ax]) ax (ag _)) (ar (aN 7 eL.nd (ek Ol y #v[!5,!2,!3]))
   (ar (aN 8 eL.nd (bH bF (!7) (ek aE y #v[!0,(cM eG rfl T.aY ∅ #v[!7])])))
   (az (aN 4 eL.nd (aM cn (aM cn (!4) (cw #v[!8])) (ek mF y #v[(cw #v[!8])])))))) b_)
   (ar (dP (mM (!4) #v[!6]))
   (az (aN 5 eL.nd (ek Oq y #v[!5,!6]))))))
   (az (a_ (!4))))))) (λds G R h=>?_)
 .let#[st,a,w,j,s,rfl,S,jA,ha,hw,vV,qN,hs,hl,k0]:=h;simp!;apply#[∅,λp hp=>?_];dsimp!;apply#[∅,λp1 cq=>?_];let A0:=((cJ.j S).S (o:=.lst []) hp).S (o:=.lst []) cq;let ns:=S.ne hp;let n1s:=(S.S (o:=.lst []) hp).ne cq;let H:p≠p1:=λz=>by rw[<- z,ay] at cq;cases cq
  let ha0:=A0.kp _ _ jA ha;dsimp![ha0];apply jO (λr σ G'=>Sh λ(l t F:bf Mv) (q g:fy) (v6 v7 v8:b0 D)=>OY (l++t=w) (r=t.t mD) (cJ st G G') (G q=dv) (q≠st) (q≠g) (G' q=du (.lst (F.t mD))) (G' g=du (.lst ((fz (l' 0 l)).t .int))) (g≠st) (gh j s 0 F) (l' 0 F=l' 0 l) (F.l<=3*l.l) (σ=[du (.ref st),du (.ref a),du (.int (j:bz)),du (.int (s:bz)),du (.ref q),du (.ref g),v6,v7,v8])) #[[],w,[],p,p1,dv,dv,dv,rfl,rfl,A0,hp,ns,H,by rw[aA H];exact ay,ay,n1s,trivial,rfl,by simp,rfl] ?_ ?_
  .rintro σ G1 ⟨l,t,F,q,g,v6,v7,v8,e,e2,A,f1,E,C,k1,k2,Ru,hF,Q,hlF,rfl⟩;let ht:t=[]:=by simpa using e2.M
   subst ht;rw[D7] at e;subst e;apply#[by rw[A.kp _ _ jA ha];rfl,?_];dsimp!;exact k0 q F G1 A f1 E k1 hF Q ()
  .rintro z r σ G1 ⟨l,t,F,q,g,v6,v7,v8,e,e2,A,f1,E,C,k1,k2,Ru,hF,Q,hlF,rfl⟩ ih;cases t with
   | nil=>cases e2
   | cons x t =>
    cases e2;apply#[by rw[A.kp _ _ jA ha];rfl,?_];simp!;generalize hN:Go (fo (Cz _) _ _)=N;let Bm:gh j s 0 (l++x::t):=by rw[e];exact hw
    let#[vd,o1,_]:=dt.mp Bm;let Zm:Bg (l' 0 l) (du x):=#[#[o1.1.1,by let:=o1.1.2;omega],o1.2.2.1];let M:=cv J1 e;rw[B4,C0] at M;let rest:∀(u:bf Mv) (i U:fy) (k:Gp) (w7 w8:b0 D),cJ st G k->G i=dv->i≠st->i≠U->k i=du (.lst (u.t mD))->k U=du (.lst ((fz (l' 0 l)).t .int))->gh j s 0 u->l' 0 u=l' 0 l->u.l<=3*l.l+2->N [du (.ref st),du (.ref a),du (.int (j:bz)),du (.int (s:bz)),du (.ref i),du (.ref U),du (mD x),w7,w8] k:=by intro u i U k w7 w8 Y f2 n2 n21 k3 k4 hF' Lq uE9;rw[<- hN];dsimp![k3];apply#[by rw[B0];exact C6 (m:=2000) () ∅,?_];let A3:cJ st G (aC k i (.lst (u.t mD++[mD x]))):=Y.own f2 k3 n2;dsimp!;apply bV #[U,l' 0 l,x,rfl,by rw[aA (E1 n21)];exact k4,Zm,λq3 X f4 h4 g4=>?_];simp!;apply ih _ _ #[l++[x],t,u++[x],i,q3,_,_,_,by rw[<- e,D5];rfl,rfl,A3.grow g4,f2,n2,aT ay f4,by rw[B7];exact g4.kp _ _ ay,by rw[ud];exact h4,A3.at_.ne f4,dt.mpr #[hF',by rw[Lq];exact#[o1,trivial]],by rw[ud,ud,Lq],by rw[B4,B4];show u.l+1<=3*(l.l+1);omega,rfl]
    let Ef:mx j (l' 0 l)<=s:=vk1 (by rw[zg];exact J8 _) vd;apply dy A.at_ ∅ ∅ λv1 k a2 b1 b2=>?_;let Y:=A.u a2;let yw:=a2.kp _ _ E k1;let ZM:=a2.kp _ _ Ru k2;simp!;apply fq (λhv=>?_) (λhv=>rest F q g k _ _ Y f1 E C yw ZM hF Q ());let dO:=xe5 vd;let#[pm0,uA1]:=vd7 vV hs vd;simp!;apply bV #[g,l' 0 l,j,s,rfl,ZM,qN,dO,λq2 ps G3 f3 h3 L cG g3=>?_];let Bn:0<ps.l:=TM ((L pm0).mpr uA1);let A3:=Y.grow g3;let n3:=Y.at_.ne f3;simp!;dsimp![h3,B0];apply dy A3.at_ () () λv3 X a4 d1 d2=>?_;let h34:=a4.kp _ _ n3 h3;let J:=a4.kp _ _ E (g3.kp _ _ yw);let I:=a4.kp _ _ Ru (g3.kp _ _ ZM);let A4:=A3.u a4;let#[d,hd,vk]:=at_getD (xs:=ps.t mD) d1 (by rw[B0];exact d2);let#[f,yy,rfl]:=D6.mp hd;let opm:=(L f).mp yy;let O:gh j s (l' 0 l) [f]:=#[opm,trivial];let#[B1,B2]:=Hl Ef O;simp![h34,vk];dsimp!;apply#[∅,λp5 oH=>?_];let A5:=A4.S (o:=.lst [mD f]) oH;apply AR (xs:=F.t mD) (ys:=[mD f]) (by rw[aA (aT J oH)];exact J) ay (by rw[B0];show F.l+1<=_;omega) λZ sX=>?_;let A6:=A5.S (o:=.lst (F.t mD++[mD f])) sX;apply#[∅,λp7 yz=>?_];let A7:=A6.S (o:=.lst [mD f]) yz;let kT7:aC (aC (aC X p5 (.lst [mD f])) Z (.lst (F.t mD++[mD f]))) p7 (.lst [mD f]) g=du (.lst ((fz (l' 0 l)).t .int)):=by
     let k5:aC X p5 (.lst [mD f]) g=du (.lst ((fz (l' 0 l)).t .int)):=by rw[aA (aT I oH)];exact I
     let k6:aC (aC X p5 (.lst [mD f])) Z (.lst (F.t mD++[mD f])) g=du (.lst ((fz (l' 0 l)).t .int)):=by rw[aA (aT k5 sX)];exact k5
     rw[aA (aT k6 yz)];exact k6
    let k67:aC (aC (aC X p5 (.lst [mD f])) Z (.lst (F.t mD++[mD f]))) p7 (.lst [mD f]) Z=du (.lst (F.t mD++[mD f])):=by rw[aA (aT ay yz),ay]
    apply QW (w:=[f]) ay (by show 1<=_;decide) λq8 G8 f8 h8 g8=>?_;let A8:=A7.grow g8;apply AR (g8.kp _ _ k67) h8 (by rw[B4,B0,B0,Fl];show F.l+1+1<=_;omega) λp9 B=>?_;let ZK:=g8.kp _ _ kT7;let n9:=A8.at_.ne B;apply rest (F++[f]++gp [f]) p9 g _ _ _ (A8.S B) (A8.none B n9) n9 (λz=>aT ZK B z.M) (by rw[ay,B7,B7];rfl) (by rw[aA (aT ZK B)];exact ZK) ?_ ?_ ?_
    .rw[dt,dt,ud,Q];exact#[#[hF,O],B1]
    .rw[ud,ud,Q,B2]
    .rw[B4,B4,Fl];show F.l+1+1<=_;omega
def x93{n:br}(mF:n<*T.kE.1<*kL)(qE:n<*T.ij.1<*xk2)(Cc:n<*T.pT.1<*xt):n+1<*T.pM.1<*tL:=by
 apply dk T.pM.1 gD (λ_ _ _ _ _ _ p =>
   (ar (aN 5 gD.nd (ek qE p #v[!0,ax,!1,!2,!3]))
   (ar (aN 6 gD.nd (!5))
   (ar (aN 7 gD.nd (ek mF p #v[!5]))
   (ar (aH (yZ (lb (!4))) (ar (aN 7 gD.nd (ek mF p #v[(ek Cc p #v[!0,!5,!1,!2])]))
   (az (aN 6 gD.nd (ek Cc p #v[!0,!5,!1,!2])))) b_)
   (ar (aH (lb (!3)) (az (a_ (!6))) b_)
   (az (a_ (aM cn (aM cn (!6) (cw #v[(bh #v[aR])])) (!7)))))))))) (λds G R h=>?_)
 .let#[st,g,s,b,Y,rfl,S,h1,q,hc,h3,h4,h5,k0]:=h;let X:g<=24:=()
  let sq:g * g<=400:=Z2 q q;simp!;apply PD (f:=0) (dp:=26) S () () X () h4 λt w G1 a1 f1 A k1 W J=>?_;let#[C,B1]:=W.start (n:=g) (S:=s) (B9 _) (B9 _);let J:w.l<=400:=D4 J sq;let l2:Y=eH->w.l<=121:=λe=>D4 (show w.l<=g * g from by let:=‹w.l<=(g-0)*(g-0)›;simpa using this) (Z2 (hc e) (hc e));simp!;dsimp!;dsimp!;let hw:w.l<=400:=J;apply QW k1 () λq2 G2 f2 wg g2=>?_;let A2:=a1.grow g2;let H:=g2.kp _ _ k1;let n2:q2≠st:=a1.at_.ne f2;simp!;generalize hu:fo (uE (dB (fK 3)) _ _) _=u;let rest:∀(k l:fy) (x y:bf Mv) (i:Gp),cJ st G i->G k=dv->k≠st->i k=du (.lst (x.t mD))->i l=du (.lst ((gp y).t mD))->gh g s 0 x->l' 0 x=l' 0 w->x.l<=900->gh g s 0 y->l' 0 y=l' 0 w->y.l<=900->Go (u { nx:=λx G'=>R D.non G',rt:=R}) [du (.ref st),du (.int (g:bz)),du (.int (s:bz)),du (.bl b),du (.bl Y),du (.ref t),du (.ref k),du (.ref l)] i:=by
   intro k l x y i A3 f6 n6 L k7 B r Q N j O;subst hu;cases b with
   | true =>dsimp!;apply k0 k (x.t du) i A3 f6 n6 (by rw[HD];exact L) ?_ (by rw[B0];omega);unfold lI;rw[cu rfl];exact#[x,rfl,B,r.u (W.left (n:=g) (S:=s) () (B9 _) (B9 _))]| false =>
    dsimp!;dsimp!;apply#[∅,∅,λp5 I=>?_];let A5:=A3.S (o:=.lst [.tup [.str "show"]]) I;apply AR (xs:=x.t mD) (ys:=[.tup [.str "show"]]) (by rw[aA (aT L I)];exact L) ay (by rw[B0];show x.l+1<=_;omega) λp6 sX=>?_;let Z:=A5.S (o:=.lst (x.t mD++[.tup [.str "show"]])) sX;let M:aC (aC i p5 (.lst [.tup [.str "show"]])) p6 (.lst (x.t mD++[.tup [.str "show"]])) l=du (.lst ((gp y).t mD)):=by
     let m:aC i p5 (.lst [.tup [.str "show"]]) l=du (.lst ((gp y).t mD)):=by rw[aA (aT k7 I)];exact k7
     rw[aA (aT m sX)];exact m
    simp!;apply AR ay M (by rw[B4,B0,B0,Fl];show x.l+1+_<=_;omega) λp7 E=>?_;let n7:=Z.at_.ne E;apply k0 p7 (x.t du++[dv]++(gp y).t du) _ (Z.S E) (Z.none E n7) n7 ?_ ?_ (by simp[Fl];omega)
    .rw[ay,B7,B7,HD,HD];rfl
    .unfold lI;rw[cp D1];exact#[x,y,rfl,B,N,r.u j.M,by rw[r];exact B1]
  cases Y with
  | true =>dsimp!;exact rest t q2 w w G2 A2 f1 A H wg C rfl () C rfl ()| false =>let hw:=l2 rfl;dsimp!;dsimp!;apply bV #[st,t,w,g,s,rfl,A2.at_,A,H,C,h1,X,h3,(),λq3 y i a3 f3 n3 k3 N j O=>?_];let A3:=A2.u a3;simp!;apply QW k3 () λq4 G4 f4 U g4=>?_;let A4:=A3.grow g4;let n4:q4≠st:=A3.at_.ne f4;simp!;dsimp!;apply bV #[st,t,w,g,s,rfl,A4.at_,A,g4.kp _ _ (a3.kp _ _ A H),C,h1,X,h3,(),λq5 x G5 a5 f5 n5 k5 B r Q=>?_];simp!;exact rest q5 q4 x y G5 (A4.u a5) (A4.none f5 n5) n5 k5 (a5.kp _ _ n4 U) B r () N j ()
def x88{n:br}(l:n<*T.cV.1<*qI)(M:n<*T.mf.1<*qx):n+1<*T.pI.1<*tK:=by
 apply dk T.pI.1 j_ (λ_ _ _ _ _ _ f =>
   (ar (aN 2 j_.nd (j0 (aP f) (ek l f #v[!0,ax]) ax (ag _)))
   (ar (aN 3 j_.nd ax)
   (ar (QD (bA (fE) (ek M f #v[!3,!2]) (!1) (ag _)) (az (aN 3 j_.nd (aM cn (!3) ax))))
   (az (a_ (cw #v[(aM cn (!3) (bH bF (cw #v[(ek l f #v[!0,ax]),(ek l f #v[!0,(aM fg ax (!3))])]) (iE AQ rfl T.fL ∅ #v[(j0 (aP f) (ek l f #v[!0,ax]) ax (ag _))]))),!2]))))))) (λds G R h=>?_)
 .let#[st,Y,rfl,S,h1,h20,k0]:=h;simp!;apply dy S ∅ ∅ λL G1 a1 p1 q1=>?_;simp!;generalize decide (L=0)=b;dsimp!;apply cR ?_;apply Q_ (λm u H=>∃(j:br),Ta (m=7-j) (1<=j) (j<=6) (cJ st G H) (u=[du (.ref st),du (.int (Y:bz)),du (.bl b),du (.int (j:bz))])) (m:=6) #[1,rfl,B9 _,∅,a1,rfl] ?_;rintro m u H N ⟨j,em,j1,j6,A,rfl⟩ ih;simp!;apply Ut () λG2 g2=>?_;simp!;let hc6:gK 6 b ≥ 32:=by cases b <;> decide
  let t:=A.grow g2;apply fq (λhk=>?_) (λhk=>?_)
  .have j5:j<=5:=by
    by_cases e:j=6
    .subst e;omega
    .omega
   simp!;exact ih _ _ (7-(j+1)) () #[j+1,rfl,(),(),t,rfl]
  .apply cR ?_;simp!;apply dy t.at_ ∅ ∅ λi G3 E U q3=>?_;simp!;apply dy E.at_ () () λg G4 a4 Q q4=>?_;apply#[∅,λp B=>?_];let J:=(t.u E).u a4;let X:=J.at_.ne B;let I:=J.S (o:=.lst [D.int i,D.int g]) B;apply dy I.at_ ∅ ∅ λx G5 C p5 q5=>?_;let Z:=C.kp _ _ X ay;let#[i,rfl]:=gv U;let#[g,rfl]:=gv Q;simp!;obtain⟨d,Lx,hd2⟩:∃k:br,cS [D.int (i:bz),D.int (g:bz)] (if decide (x=1)=dS then 1 else 0)=du (.int (k:bz))/\j+k<=8:=by
    by_cases z:x=1
    .rw[cu (cA z)];exact#[g,rfl,()]
    .rw[cp (by simpa using z)];exact#[i,rfl,()]
   simp![Z,Lx];rw[show(j:bz)+(d:bz)=((j+d:br):bz) by omega];apply#[∅,λO q=>?_];let r:=I.u C;let y:=r.at_.ne q;apply k0 O (j+d) b _ (r.S q) (r.none q y) y ay () () (D4 () (LR b j1 d))
def xa6{n:br}(aE:n<*T.cV.1<*qI)(kN:n<*T.ji.1<*mB):n+1<*T.pU.1<*xu:=by
 apply dk T.pU.1 iT (λ_ _ _ _ _ _ u =>
   (ar (aN 1 iT.nd (ek kN u #v[!0,ax]))
   (ar (aN 2 iT.nd (aM cn ax (ek aE u #v[!0,ax])))
   (ar (aN 3 iT.nd (iE ym rfl T.cj ∅ #v[(jM (N':=["_law_k", "_law_names_here", "_law_state"]) (ix:=[dv,du 1,du 0]) (iA rfl rfl rfl) (uQ rfl T.bw #v[!2]) (λ_ _ _ _=>(bY 0 (show(["_law_k", "_law_names_here", "_law_state"]:bf gq).Nodup by decide))) (λ_ _ _ _=>jN) (λ_ _ _ _=>(bh #v[aR,¬1,(bH bF aR (ek aE u #v[!2,ax])),¬1,(ek aE u #v[!2,ax])])))]))
   (ar (aN 4 iT.nd (aM cn (aM cn (jM (N':=["_law_k"]) (ix:=[dv]) (iA rfl rfl rfl) (WV rfl T.bw #v[ax,(aM cn (!2) ax)]) (λ_ _ _ _=>(bY 0 (show(["_law_k"]:bf gq).Nodup by decide))) (λ_ _ _ _=>jN) (λ_ _ _ _=>(bh #v[aR,!0]))) (cw #v[(bh #v[aR])])) (jM (N':=["_law_k"]) (ix:=[dv]) (iA rfl rfl rfl) (xg6 rfl T.bw #v[!2,ax,(sv EZ ax)]) (λ_ _ _ _=>(bY 0 (show(["_law_k"]:bf gq).Nodup by decide))) (λ_ _ _ _=>jN) (λ_ _ _ _=>(bh #v[aR,!0])))))
   (az (a_ (cw #v[(bh #v[ax,!1,!3]),(iE FA rfl T.di ∅ #v[!3]),(aM mL (cw #v[ax]) (!2)),!2,!4,gJ])))))))) (λds G R h=>?_)
 .let#[st,rfl,S,k0]:=h;simp!;apply bV #[st,1,rfl,S,∅,∅,λbs G1 nC _ iI a1=>?_];obtain⟨b,rfl⟩:∃b,bs=[b]:=by
   rcases bs with _|⟨b,_|⟨_,_⟩⟩
   .cases nC
   .exact⟨b,rfl⟩
   .cases nC
  simp!;dsimp!;apply dy a1.at_ ∅ ∅ λH G2 a2 b1 b2=>?_;let#[H,rfl]:=gv b1;let A2:=a1.u a2;simp!;rw[show((5:bz)+(H:bz))=((H+5:br):bz) by omega];generalize hn:H+5=n;apply cR ?_;simp!;apply#[#[(),()],λp hp=>?_];let J:=A2.at_.ne hp;let A3:=A2.S (o:=.lst []) hp;apply jP (λr N G'=>uG λ(i c:br) (f:bf ai) (v:b0 D)=>OV (i+c=n) (r=bW (i:bz) c) (cJ st G G') (G' p=du (.lst (bc f))) (f.l=i) (dF 1 [b] f) (∀r∈f,∃x o a b,r=.op x o a b) (N=[v,du (.tup [.str b]),du (.ref st)])) #[0,n,[],dv,(),by congr 1,A3,ay,rfl,trivial,(λ_ h=>nomatch h),rfl] ?_ ?_
  .intro N G4 #[i,c,f,v,ei,A,E,Y,hl,ho,O,rfl];apply#[trivial,?_];let Ef:c=0:=by
    cases c with
    | zero=>rfl| succ n=>rw[jb] at A;cases A
   subst Ef;simp![Y,bt];let n5:5<=n:=()
   let n8:n<=8:=()
   apply cR ?_;simp!;apply#[#[∅,∅,(),()],λp4 Z=>?_];rw[show bW 1 ((n:bz)+1-1).i=((D3 n).t (·+1)).t nD by rw[show((n:bz)+1-1).i=n by omega];unfold bW;rw[L9];exact L5 λk _=>cv D.int (show(1:bz)+(k:bz)=((k+1:br):bz) by omega)];apply vo2 (by rw[B0,F0];omega) ?_;apply#[∅,∅,λp5 oH=>?_];let g5:=(aj.j (G:=G4) |>.new (o:=.lst (((D3 n).t (·+1)).t (kr "lay"))) Z).S (o:=.lst [.tup [.str "show"]]) oH;apply add_l (by rw[aA (aT ay oH),ay]) ay (by rw[B0,B0,F0];show _+1<=_;omega) λp6 sX=>?_;let g6:=g5.S (o:=.lst (((D3 n).t (·+1)).t (kr "lay")++[.tup [.str "show"]])) sX;simp![WH];apply#[#[(),(),∅,∅],λp7 yz=>?_];rw[show jx (n:bz) (-1) ((n:bz)-0).i=((D3 n).t λj=>n-j).t nD by rw[show((n:bz)-0).i=n by omega];unfold jx;rw[L9];exact L5 λk hk=>cv D.int (show(n:bz)+(k:bz)*(-1)=((n-k:br):bz) by let:=K0.mp hk;omega)];apply vo2 (by rw[B0,F0];omega) ?_;let g7:=g6.S (o:=.lst (((D3 n).t λj=>n-j).t (kr "clear"))) yz;apply add_l (by rw[aA (aT ay yz),ay]) ay (by simp;omega) λC cG=>?_;let e8:((D3 n).t (·+1)).t (kr "lay")++[.tup [.str "show"]]++((D3 n).t λj=>n-j).t (kr "clear")=(((D3 n).t λj=>du (dS,j+1))++[dv]++((D3 n).t λj=>du (eH,n-j))).t bX:=by rw[B7,B7,L9,L9,L9,L9];rfl
   rw[e8];let g8:=g7.S (o:=.lst ((((D3 n).t λj=>du (dS,j+1))++[dv]++((D3 n).t λj=>du (eH,n-j))).t bX)) cG;let Zs:C≠st:=(E.at_.grow g7).ne cG;let M:=E.grow g8;generalize hG:aC _ C (.lst ((((D3 n).t λj=>du (dS,j+1))++[dv]++((D3 n).t λj=>du (eH,n-j))).t bX))=l at *;let je:l C=du (.lst ((((D3 n).t λj=>du (dS,j+1))++[dv]++((D3 n).t λj=>du (eH,n-j))).t bX)):=by rw[<- hG,ay]
   clear g8 g7 g6 g5 hG;apply cR ?_;simp!;simp only[P1];apply#[∅,λg X=>#[∅,λI U=>#[#[(),(),D4 (m:=10) () ∅],λt L=>#[∅,λQ B=>?_]]]];let B1:=M.S (o:=.lst (bc f)) X;let B2:=B1.S (o:=.lst [.int 1]) U;let B3:=B2.S (o:=.lst (C7 n (.int 1))) L;let m4:=B3.at_.ne B;let t1:∀{o:DO},aC (aC (aC (aC l g (.lst (bc f))) I (.lst [.int 1])) t (.lst (C7 n (.int 1)))) Q o g=du (.lst (bc f)):=λ{o}=>by
    let c2:aC (aC l g (.lst (bc f))) I (.lst [.int 1]) g=du (.lst (bc f)):=by rw[aA (aT ay U),ay]
    let c3:aC (aC (aC l g (.lst (bc f))) I (.lst [.int 1])) t (.lst (C7 n (.int 1))) g=du (.lst (bc f)):=by rw[aA (aT c2 L),c2]
    rw[aA (aT c3 B),c3]
   let t2:∀{o:DO},aC (aC (aC (aC l g (.lst (bc f))) I (.lst [.int 1])) t (.lst (C7 n (.int 1)))) Q o t=du (.lst (C7 n (.int 1))):=λ{o}=>by rw[aA (aT ay B),ay]
   let t3:=((((aj.j (G:=l)).S (o:=.lst (bc f)) X).S (o:=.lst [.int 1]) U).S (o:=.lst (C7 n (.int 1))) L).S (o:=.lst [.tup [.int 1,.tup [.str b],.tup (bc f)],.ref g,.ref t,.int (n:bz),.ref C,.bl eH]) B;exact k0 [b] f n Q g t C _ rfl ho O () n5 n8 (B3.none B m4) m4 ay (M.at_.ne X) t1 (B2.at_.ne L) (by rw[t2];unfold nI;rw[V9,V9];rfl) Zs (t3.kp _ _ je) (B3.S B)
  .rintro z r N G4 ⟨i,c,f,v,ei,A,E,Y,hl,ho,O,rfl⟩ ih;cases c with
   | zero=>cases A
   | succ c =>
    rw[jb] at A;cases A;apply#[trivial,?_];simp!;apply dy E.at_ ∅ ∅ λx6 G6 a6 f1 f2=>?_;let#[y,rfl]:=gv f1;obtain⟨o,eo,lA⟩:∃o:br,cS (C5 "+-^").cps.L (y:bz)=du o/\(⟨[o].e⟩:gq)∈L3.signs:=by
     let:y=0\/y=1\/y=2:=()
     rcases this with e|e|e <;> subst e
     .exact⟨43,∅,∅⟩
     .exact⟨45,∅,∅⟩
     .exact⟨94,∅,∅⟩
    let hx:∀(G:Gp) (q:DK),yU (.str (C5 "+-^")) (.int (y:bz)) G q=(((C5 "+-^").l<=iZ)/\q (.str ⟨[o].e⟩) G):=λG q=>by show(_/\(match cS (C5 "+-^").cps.L (y:bz) with|some c=>q (.str #[[c].e]) G|none=>b8))=_;rw[eo]
    simp![hx];apply#[∅,?_];apply dy a6.at_ ∅ ∅ λx8 l a8 h1 h2=>?_;let#[v,rfl]:=gv h1;let M:=(E.u a6).u a8;let k8:=a8.kp _ _ J (a6.kp _ _ J Y);let KW:ou 1 [b] (.op b #[[o].e] (.box b) (.num v)):=#[D0,lA,D0,(show v<2^1 by omega)];simp![k8];apply#[∅,by rw[lO];exact C6 (m:=100) () ∅,ih _ _ #[i+1,c,f++[.op b #[[o].e] (.box b) (.num v)],_,(),by congr 1,M.own (A2.none hp J) k8 J,by rw[ay,CP];rfl,by rw[B4,hl];rfl,cN.mpr #[ho,KW,trivial],λr u=>?_,rfl]];rcases F7.mp u with h|h
    .exact O r h
    .rw[D8.mp h];exact⟨_,_,_,_,rfl⟩
def x91{n:br}(m:n<*T.cV.1<*qI)(I:n<*T.ji.1<*mB):n+1<*T.pK.1<*xj:=by
 apply dk T.pK.1 mY (λ_ _ _ _ _ _ i =>
   (ar (aN 1 mY.nd (ek I i #v[!0,(aM cn ax (ek m i #v[!0,ax]))]))
   (ar (aN 2 mY.nd (bh #v[aR,¬1,(bH bF aR (ek m i #v[!0,ax])),(bH bF (!1) (sv EZ ax)),(ek m i #v[!0,ax])]))
   (az (a_ (bh #v[(aM cn ax (ek m i #v[!0,ax])),!1,(bh #v[(bh #v[aR,ax,(bh #v[!2])])])])))))) (λds G R h=>?_)
 .let#[st,rfl,S,k0]:=h;simp!;apply dy S ∅ ∅ λj G1 A U b2=>?_;let#[j,rfl]:=gv U;simp!;rw[show((1:bz)+(j:bz))=((j+1:br):bz) by omega];apply bV #[st,j+1,rfl,A.at_,(),(),λg G2 nC _ J a2=>?_];let C:=A.u a2;let k:1<=g.l:=()
  simp!;obtain⟨l,RI,t⟩:∃l,cS (g.t D.str) 0=du (.str l)/\l∈g:=by
   cases g with
   | nil=>cases k
   | cons b r=>exact#[b,rfl,D0]
  obtain⟨bl,E,Bp⟩:∃bl,cS (g.t D.str) (-1)=du (.str bl)/\bl∈g:=by
   obtain⟨x,y,rfl⟩:∃x y,g=y++[x]:=by
    rcases W0 g with e|⟨u,p,e⟩
    .rw[e] at k;cases k
    .exact⟨p,u,by rw[e,W4]⟩
   exact⟨x,by rw[B7];exact v74 _ _,by simp⟩
  dsimp![RI];apply dy C.at_ ∅ ∅ λx3 G3 Z Q d2=>?_;let A3:=C.u Z;let#[f,rfl]:=gv Q;obtain⟨o,N,H⟩:∃o:br,cS (C5 "+-&|^<=").cps.L (f:bz)=du o/\(⟨[o].e⟩:gq)∈L3.signs:=by
   let:f=0\/f=1\/f=2\/f=3\/f=4\/f=5\/f=6:=()
   rcases this with e|e|e|e|e|e|e <;> subst e
   .exact⟨43,∅,∅⟩
   .exact⟨45,∅,∅⟩
   .exact⟨38,∅,∅⟩
   .exact⟨124,∅,∅⟩
   .exact⟨94,∅,∅⟩
   .exact⟨60,∅,∅⟩
   .exact⟨61,∅,∅⟩
  let L:∀(G:Gp) (q:DK),yU (.str (C5 "+-&|^<=")) (.int (f:bz)) G q=(((C5 "+-&|^<=").l<=iZ)/\q (.str ⟨[o].e⟩) G):=λG q=>by show(_/\(match cS (C5 "+-&|^<=").cps.L (f:bz) with|some c=>q (.str #[[c].e]) G|none=>b8))=_;rw[N]
  simp![L,E];apply#[∅,?_];apply dy A3.at_ ∅ ∅ λx4 G4 Y O e2=>?_;let B:=A3.u Y;let#[v,rfl]:=gv O;simp!;apply#[∅,?_];dsimp!;apply dy B.at_ ∅ ∅ λx5 G5 X f1 f2=>?_;let#[w,rfl]:=gv f1;simp!;apply#[∅,∅,∅,∅,?_];let M:v<2^(1+w):=C9 (show v<2^1 by omega) (U5 ∅ ());let:=k0 (1+w) g l bl #[[o].e] v G5 () () k () J #[t,H,Bp,M] (B.u X);rw[Pg] at this;exact this
def x97{n:br}(y:n<*T.cV.1<*qI)(kN:n<*T.ji.1<*mB):n+1<*T.pO.1<*xm:=by
 apply dk T.pO.1 iS (λ_ _ _ _ _ _ j =>
   (ar (aN 1 iS.nd (ek kN j #v[!0,(aM cn ax (ek y j #v[!0,ax]))]))
   (ar (aN 2 iS.nd (cw gX))
   (ar (jL (uQ rfl T.bw #v[(aM cn ax (ek y j #v[!0,ax]))]) (bY 3 iS.nd) (ar (aN 4 iS.nd (bH bF (!1) (ek y j #v[!0,(cM eG rfl T.aY ∅ #v[!1])])))
   (az (dP (mM (!2) #v[(bh #v[aR,!4,(bH bF aR (ek y j #v[!0,ax])),(bH bF (!1) (ek y j #v[!0,(cM eG rfl T.aY ∅ #v[!1])])),(ek y j #v[!0,ax])])])))))
   (az (a_ (bh #v[ax,!1,(bh #v[(bh #v[aR,ax,(iE ym rfl T.cj ∅ #v[!2])])])]))))))) (λds G R h=>?_)
 .let#[st,rfl,S,k0]:=h;simp!;apply dy S ∅ ∅ λA G1 a1 b1 b2=>?_;let#[A,rfl]:=gv b1;simp!;rw[show((1:bz)+(A:bz))=((A+1:br):bz) by omega];apply bV #[st,A+1,rfl,a1.at_,(),(),λf G2 nC _ iI a2=>?_];let A2:=a1.u a2;let m1:1<=f.l:=()
  let l:∀z:bz,0<=z->z<f.l->∃b,cS (f.t D.str) z=du (.str b)/\b∈f:=λz h0 h1=>by
   let#[z,rfl]:=gv h0;let hz:z<f.l:=()
   exact#[f[z],vy (by rw[F5,B6 hz];rfl),M4 hz]
  simp!;dsimp!;apply#[∅,λp U=>?_];let g:=A2.at_.ne U;let A3:=A2.S (o:=.lst []) U;dsimp!;apply dy A3.at_ ∅ ∅ λI G3 a3 d1 d2=>?_;let#[I,rfl]:=gv d1;simp!;apply#[#[(),()],?_];let n2:p≠st:=g;apply jO (λr H G'=>Ey λ(i c:br) (k:bf ai) (L J:b0 D)=>OV (i+c=2+I) (r=bW (i:bz) c) (cJ st G G') (G' p=du (.lst (bc k))) (k.l=i) (dF 1 f k) (∀r∈k,∃x o a b,r=.op x o a b) (H=[du (.ref st),du (.tup (f.t .str)),du (.ref p),L,J])) #[0,2+I,[],dv,dv,(),by congr 1,A3.u a3,a3.kp _ _ g ay,rfl,trivial,(λ_ h=>nomatch h),rfl] ?_ ?_
  .intro H G4 #[i,c,k,L,J,ei,t,E,B,hl,X,M,rfl];apply#[trivial,?_];let Ef:c=0:=by
    cases c with
    | zero=>rfl| succ n=>rw[jb] at t;cases t
   subst Ef;dsimp![B,bt];apply#[∅,∅,∅,?_];exact k0 f k G4 m1 () iI X M () () E
  .rintro z r H G4 ⟨i,c,k,L,J,ei,t,E,B,hl,X,M,rfl⟩ ih;cases c with
   | zero=>cases t
   | succ c =>
    rw[jb] at t;cases t;apply#[trivial,?_];simp![B0];apply dy E.at_ () () λx5 G5 C e1 t=>?_;let#[bx,Q,O]:=l x5 e1 t;let k5:=C.kp _ _ g B;simp![Q];dsimp![k5];apply dy C.at_ ∅ ∅ λx6 G6 Z f1 f2=>?_;let#[u,rfl]:=gv f1;obtain⟨o,eo,lA⟩:∃o:br,cS (C5 "+-^<").cps.L (u:bz)=du o/\(⟨[o].e⟩:gq)∈L3.signs:=by
     let:u=0\/u=1\/u=2\/u=3:=()
     rcases this with e|e|e|e <;> subst e
     .exact⟨43,∅,∅⟩
     .exact⟨45,∅,∅⟩
     .exact⟨94,∅,∅⟩
     .exact⟨60,∅,∅⟩
    let hx:∀(G:Gp) (q:DK),yU (.str (C5 "+-^<")) (.int (u:bz)) G q=(((C5 "+-^<").l<=iZ)/\q (.str ⟨[o].e⟩) G):=λG q=>by show(_/\(match cS (C5 "+-^<").cps.L (u:bz) with|some c=>q (.str #[[c].e]) G|none=>b8))=_;rw[eo]
    simp![hx,B0];apply#[∅,?_];apply dy Z.at_ () () λx7 G7 Y g1 g2=>?_;let#[Sf,N,DA]:=l x7 g1 g2;simp![N];apply dy Y.at_ ∅ ∅ λx8 G8 a8 h1 h2=>?_;let#[v,rfl]:=gv h1;let A8:=(((E.u C).u Z).u Y).u a8;let k8:=a8.kp _ _ g (Y.kp _ _ g (Z.kp _ _ g (C.kp _ _ g B)));let KW:ou 1 f (.op bx #[[o].e] (.box Sf) (.num v)):=#[O,lA,DA,(show v<2^1 by omega)];simp![k8];apply#[∅,by rw[lO];exact C6 (m:=100) () ∅,ih _ _ #[i+1,c,k++[.op bx #[[o].e] (.box Sf) (.num v)],_,_,(),by congr 1,A8.own (A2.none U g) k8 g,by rw[ay,CP];rfl,by rw[B4,hl];rfl,cN.mpr #[X,KW,trivial],λr j=>?_,rfl]];rcases F7.mp j with h|h
    .exact M r h
    .rw[D8.mp h];exact⟨_,_,_,_,rfl⟩
def xa0{n:br}(aE:n<*T.cV.1<*qI)(kM:n<*T.gj.1<*Pz)(Oi:n<*T.pL.1<*xk)(Ca:n<*T.pQ.1<*xo)(Oj:n<*T.pM.1<*tL)(Oe:n<*T.pI.1<*tK)(Ot:n<*T.pU.1<*xu)(Oh:n<*T.pK.1<*xj)(Om:n<*T.pO.1<*xm):n+1<*T.pP.1<*xn:=by
 apply dk T.pP.1 cF (λ_ _ _ _ _ _ l =>
   (ar (aN 1 cF.nd (ek aE l #v[!0,ax]))
   (ar (aH (bA (aP l) (!1) ax (ag _)) (az (a_ (ek Ot l #v[!0]))) b_)
   (ar (aN 2 cF.nd (ek Oi l #v[!0]))
   (ar (aH (bA (k_ l) (!1) (bh #v[ax,ax]) (by with_unfolding_all rfl)) (az (aN 2 cF.nd (ek Oh l #v[!0]))) b_)
   (ar (aH (bA (aP l) (!1) ax (ag _)) (az (aN 2 cF.nd (ek Om l #v[!0]))) b_)
   (ar (aN 3 cF.nd (ek kM l #v[¬2]))
   (ar (aN 4 cF.nd (ek Ca l #v[!0,(cM eG rfl T.aY ∅ #v[!3]),ax]))
   (ar (aH (bA (aP l) (!1) ax (ag _)) (az (aN 4 cF.nd (ek Ca l #v[!0,(cM eG rfl T.aY ∅ #v[!3]),ax]))) b_)
   (ar (aH (bA (aP l) (!1) ax (ag _)) (ar (aN 3 cF.nd (z0 Cn (!3) Xe (Fi (aM cn ax (ek aE l #v[!0,ax])))))
   (ar (aN 2 cF.nd (bh #v[¬2,¬2,(iE ym rfl T.cj ∅ #v[!3])]))
   (az (aN 4 cF.nd (aM mL (cw #v[ax]) (cM eG rfl T.aY ∅ #v[!3])))))) b_)
   (ar (uP (ek Oe l #v[!0,(cM eG rfl T.aY ∅ #v[!4])]) (yY (n:=2) rfl (jv (bY 5 cF.nd) (jv (bY 6 cF.nd) za))))
   (ar (aN 7 cF.nd (ek Oj l #v[!0,(cM eG rfl T.aY ∅ #v[!4]),!5,!6,(LK (j0 (qT) (¬2) ax (ag _)) (AA (j0 (k_ l) (!1) (bh #v[ax,ax,ax]) (by with_unfolding_all rfl))))]))
   (az (a_ (cw #v[!2,!3,!4,!5,!7,!6]))))))))))))))) (λds G R h=>?_)
 .let#[st,rfl,S,k0]:=h;simp!;apply dy S ∅ ∅ λt G1 a1 b1 b2=>?_;let#[t,rfl]:=gv b1;simp!;dsimp!;apply fq (λc1=>?_) (λc1=>?_)
  .simp!;apply bV #[st,rfl,a1.at_,λg N n q q1 q2 q3 G2 hb A rY hl n5 n8 Z nq kq Ru kq1 Rt kq2 nq3 kq3 a2=>?_];let#[d1,d2,d3,d4]:=PN rY;let u:g.Nodup:=by
    rcases g with _|⟨b,_|⟨_,_⟩⟩
    .cases hb
    .exact M5.mpr ⟨by simp,Pd⟩
    .cases hb
   let I:gd (C7 n 1) (aF N).l:=by rw[d4,hl];exact⟨λz=>by rw[Gh] at z;omega,λk X=>by rw[Y4 X];exact B9 _,by simp⟩
   let md:=Kp (n:=n) ∅ ∅ (show 1<=g.l by omega) (show g.l<=6 by omega) u A d3 () () O2 () I (wm6 n5 n8) n8 (by simp;omega);exact k0 1 g N (C7 n 1) _ n eH q q1 q2 q3 G2 (a1.none Z nq) nq kq Rt kq2 nq3 kq3 md (a1.u a2)
  .simp!;dsimp!;apply bV ⟨st,rfl,a1.at_,λW g f G2 C B H E u A Q jh Bl eK a2=>?_⟩;let A2:=a1.u a2;simp!;dsimp!;let h24:∀(G:Gp) (q:DK),gs eH (.int (t:bz)) (.tup [.int 2,.int 4]) G q=q (.bl (decide ((t:bz)∈[(2:bz),4]))) G:=λ_ _=>rfl;let uB6:∀(G:Gp) (q:DK),gs eH (.int (t:bz)) (.tup [.int 2,.int 3,.int 4]) G q=q (.bl (decide ((t:bz)∈[(2:bz),3,4]))) G:=λ_ _=>rfl;generalize hu4:fo (i9 (jo tK _ _) _) _=u4;let Ba:∀(W:br) (g:bf gq) (f:bf ai) (M p:fy) (i:bf br) (j:Gp),1<=W->W<=16->1<=g.l->g.l<=6->g.Nodup->dF W g f->gL f->aW f<=4->bS f<=120->gd i (aF f).l->i.l<=20->(t≠4->i.l<=4)->p≠st->j p=du (.lst ((nI i).t .int))->cJ st G j->Go (u4 { nx:=λx j=>R D.non j,rt:=R}) [du (.ref st),du (.int (t:bz)),du (.tup [.int (W:bz),.tup (g.t .str),.tup (bc f)]),du (.ref M),du (.ref p),dv,dv,dv] j:=by
    intro W g f M p i G3 C B H E u A Q jh Bl I D_ hk4 J U A3;subst hu4;let D':1<=i.l:=uw λz=>I.1 (E6 z);let hki:(nI i).l=i.l:=by unfold nI;rw[B0]
    apply cR ?_;simp![U,bt,B0];rw[hki];apply bV #[st,i.l,rfl,A3.at_,D',D_,λq5 s b G4 a4 f4 n4 k4 s1 s8 hc=>?_];let Kz:=a4.kp _ _ J U;let A4:=A3.u a4;simp![k4,bt];apply cR ?_;simp![Kz,bt,B0,uB6];rw[hki];generalize hv:Go (kH _ _)=V;let plan:∀cm:cg,(cm=eH->i.l<=11)->∃R1,tL [.ref st,.int (i.l:bz),.int (s:bz),.bl b,.bl cm] G4 R1/\∀d j,R1 d j->V [du (.ref st),du (.int (t:bz)),du (.tup [.int (W:bz),.tup (g.t .str),.tup (bc f)]),du (.ref M),du (.ref p),du (.int (s:bz)),du (.bl b),du d] j:=by intro cm RK;apply bV #[st,i.l,s,b,cm,rfl,A4.at_,D',D_,RK,s1,s8,hc,λpl w G5 a5 fp np je Zj wl=>?_];rw[<- hv];apply cR ?_;simp!;apply#[∅,λq Z=>?_];let A5:=A4.u a5;let nq:=A5.at_.ne Z;let Ky:=a5.kp _ _ J Kz;exact k0 W g f i w s b q M p pl _ (A5.none Z nq) nq ay J (by rw[aA (aT Ky Z)];exact Ky) np (by rw[aA (aT je Z)];exact je) (Kp C B H E u A Q jh Bl rfl D_ I Zj s8 wl) (A5.S Z)
    apply fq (λ_=>plan dS (λe=>nomatch e)) (λ_=>#[∅,plan _ (λe=>?_)]);let:t≠4:=λz=>by rw[z] at e;exact cz e ∅
    let:=hk4 this;omega
   generalize yx:fo (i9 (jo Pz _ _) (sH 3)) _=u2;let ot:∀(W:br) (g:bf gq) (f:bf ai) (j:Gp),1<=W->W<=16->1<=g.l->g.l<=6->g.Nodup->dF W g f->gL f->aW f<=4->bS f<=120->aF f≠[]->(t=4->∃x o y v,f=[.fN 20 [.op x o (.box y) (.num v)]])->cJ st G j->Go (u2 { nx:=λx j=>R D.non j,rt:=R}) [du (.ref st),du (.int (t:bz)),du (.tup [.int (W:bz),.tup (g.t .str),.tup (bc f)]),dv,dv,dv,dv,dv] j:=by
    intro W g f G3 C B H E u A Q jh Bl eK h4 A3;subst yx;apply cR ?_;simp!;apply bV #[f,rfl,(),Q,(),λM G4 no ko g4=>?_];let A4:=A3.grow g4;let uv:1<=(aF f).l:=uw λz=>eK (E6 z);let Bp:(aF f).l<=120:=D4 (Hu f) Bl;let Zw:M≠st:=A3.at_.ne no;simp!;apply cR ?_;simp![ko,bt];rw[lO];apply bV #[st,(aF f).l,4,rfl,A4.at_,uv,(),∅,∅,λp i G5 I X J fca U a5=>?_];let A5:=A4.u a5;let ZG:=a5.kp _ _ Zw ko;simp!;generalize hu3:fo (uE (dB (z9 (gu eH) (fK 1) (dC (.int 4)))) _ _) u4=u3;let Bb:∀(p:fy) (i:bf br) (Y:Gp),gd i (aF f).l->i.l<=4->p≠st->Y p=du (.lst ((nI i).t .int))->Y M=du (.lst (bc (aF f)))->cJ st G Y->Go (u3 { nx:=λx j=>R D.non j,rt:=R}) [du (.ref st),du (.int (t:bz)),du (.tup [.int (W:bz),.tup (g.t .str),.tup (bc f)]),du (.ref M),du (.ref p),dv,dv,dv] Y:=by
     intro p i Y I X J U Ry A6;subst hu3;apply cR ?_;simp!;apply fq (λe4=>?_) (λe4=>Ba W g f M p i Y C B H E u A Q jh Bl I () (λ_=>X) J U A6);let#[x,o,y,v,rfl]:=h4 ();let eo:aF [.fN 20 [.op x o (.box y) (.num v)]]=C7 20 (.op x o (.box y) (.num v)):=rfl;rw[eo] at Ry;generalize hO:C7 20 (ai.op x o (.box y) (.num v))=O at Ry;let hOl:O.l=20:=by rw[<- hO,O2]
     simp![Ry,bt];apply dy A6.at_ ∅ ∅ λd G7 a7 d1 d2=>?_;let#[d,rfl]:=gv d1;let ko7:=a7.kp _ _ Zw Ry;let A7:=A6.u a7;simp!;rw[show((10:bz)+(d:bz))=((d+10:br):bz) by omega];simp![ko7,bt];intro p8 Lf;let hT:O.fh (d+10)=C7 (d+10) (ai.op x o (.box y) (.num v)):=by rw[<- hO,List.take_replicate,W8 ()]
     rw[vo0 (),hT];let rY:∀r∈C7 (d+10) (ai.op x o (.box y) (.num v)),∃x o a b,r=ai.op x o a b:=λr l=>by rw[Y4 l];exact#[_,_,_,_,rfl]
     let hlr:(C7 (d+10) (ai.op x o (.box y) (.num v))).l=d+10:=O2;let DR:ou W g (.op x o (.box y) (.num v)):=A.1.2.1;let DS:∀k,dF W g (C7 k (ai.op x o (.box y) (.num v))):=λk=>by
      induction k with
      | zero=>exact trivial| succ k ih=>exact#[DR,ih]
     let DS:=DS (d+10);generalize C7 (d+10) (ai.op x o (.box y) (.num v))=L at *;let#[f1,f2,f3,f4]:=PN rY;let A8:=A7.S (o:=.lst (bc L)) Lf;dsimp![ay,bt];apply#[∅,?_];dsimp![ay,bt];apply#[∅,λp9 ve=>?_];let k8:aC (aC G7 p8 (.lst (bc L))) p9 (.lst [.int 1]) p8=du (.lst (bc L)):=by rw[aA (aT ay ve),ay]
     simp![k8];rw[lO,P1];apply#[#[(),(),D4 (m:=30) () ∅],λp10 Lg=>?_];let A9:=A8.S (o:=.lst [.int 1]) ve;let u6:=A9.at_.ne Lg;apply Ba W g L p8 p10 (C7 (d+10) 1) _ C B H E u DS f3 () () #[λz=>?_,λk X=>?_,?_] (by simp;omega) (λe=>cz () e) u6 (by rw[ay];unfold nI;rw[V9,V9,hlr];rfl) (A9.S Lg)
     .rw[Gh] at z;omega
     .rw[Y4 X];exact B9 _
     .rw[f4,hlr];simp
    apply cR ?_;simp!;apply fq (λ_=>?_) (λ_=>Bb p i G5 I X J U ZG A5);simp![ZG,bt];rw[lO];apply bV #[st,(aF f).l,2,rfl,A5.at_,uv,(),∅,∅,λp i Y I X J fca U a6=>?_];simp!;exact Bb p i Y I () J U (a6.kp _ _ Zw ZG) (A5.u a6)
   generalize RA:fo (uE (dB (z9 (gu eH) (fK 1) (dC (.int 3)))) _ _) u2=u1;let Bc:∀(W:br) (g:bf gq) (f:bf ai) (j:Gp),1<=W->W<=16->1<=g.l->g.l<=6->g.Nodup->dF W g f->gL f->aW f<=4->bS f<=120->aF f≠[]->(t=4->∃x o y v,f=[.fN 20 [.op x o (.box y) (.num v)]])->cJ st G j->Go (u1 { nx:=λx j=>R D.non j,rt:=R}) [du (.ref st),du (.int (t:bz)),du (.tup [.int (W:bz),.tup (g.t .str),.tup (bc f)]),dv,dv,dv,dv,dv] j:=by intro W g f G3 C B H E u A Q jh Bl eK h4 A3;subst RA;apply cR ?_;simp!;apply fq (λe3=>?_) (λ_=>ot W g f G3 C B H E u A Q jh Bl eK h4 A3);simp!;apply bV #[st,rfl,A3.at_,λg N G4 k1 k2 u A rY uv Bp a4=>?_];simp!;let#[d1,d2,d3,d4]:=PN rY;apply ot 1 g [.fN 20 N] G4 ∅ ∅ k1 k2 u #[#[∅,A],trivial] #[#[(),d3,B9 _],trivial] (by show max (1+aW N) 0<=4;omega) (by show 20*bS N+0<=120;omega) ?_ (λe=>()) (A3.u a4);intro z;let z:=cv J1 z;rw[show aF [.fN 20 N]=(C7 20 (aF N)).C++[] from rfl,D7,d4] at z;simp at z;rw[z] at uv;cases uv
   apply#[∅,?_];rw[h24];apply fq (λe2=>?_) (λe2=>?_)
   .simp!;apply bV #[st,rfl,A2.at_,λW g x y o v G3 C B H E u KW a3=>?_];simp!;exact Bc W g [.fN 20 [.op x o (.box y) (.num v)]] G3 C B H E u #[#[∅,KW,trivial],trivial] #[#[by show 1+0<=_;decide,#[trivial,trivial],B9 _],trivial] (by show max (1+max 0 0) 0<=4;decide) (by show 20*(1+0)+0<=120;decide) (λz=>nomatch z) (λ_=>#[x,o,y,v,rfl]) (A2.u a3)
   .simp!;apply Bc W g f G2 C B H E u A Q () () eK (λe=>?_) A2;rw[e] at e2;exact cz ∅ e2
def x43{n:br}(Oz:n<*T.p_.1<*xB)(xR:n<*T.ml.1<*tQ)(B_:n<*T.pG.1<*xg)(NN:n<*T.oY.1<*wN)(NU:n<*T.pd.1<*wU)(xO:n<*T.me.1<*tM)(Oo:n<*T.pP.1<*xn):n+1<*T.ic.1<*xj7:=by
 apply Fc T.ic.1 bG (λds G R h=>?_) (λ_ _ _ _ _ _ hr =>
   (ar (aN 1 bG.nd (cw #v[!0,ax,ax]))
   (ar (uP (ek Oo hr #v[!1]) (yY (n:=6) rfl (jv (bY 2 bG.nd) (jv (bY 3 bG.nd) (jv (bY 4 bG.nd) (jv (bY 5 bG.nd) (jv (bY 6 bG.nd) (jv (bY 7 bG.nd) za))))))))
   (ar (aN 8 bG.nd (cM eG rfl T.aY ∅ #v[¬2]))
   (ar (aN 9 bG.nd (ek B_ hr #v[!2,!4,!5,(iE FA rfl T.di ∅ #v[!6])]))
   (ar (aN 10 bG.nd (ek NN hr #v[!2,!4,!5,!6]))
   (ar (aN 11 bG.nd (ek xR hr #v[!2,!4]))
   (ar (aN 12 bG.nd (!8))
   (ar (jL (gY (!6)) (bY 13 bG.nd) (az (aH (bA (mI hr) (¬13) aR (ag _)) (az (aN 12 bG.nd (aM cn (!12) (bH bF (!11) (aM fg (¬13) ax))))) b_)))
   (ar (aH (sL (w_or (yZ (lb (cM QT rfl T.bQ ∅ #v[!10,(Hc (T:= "int") T.fL ∅)]))) (w_or (lb (cM QT rfl T.bQ ∅ #v[!10,(Hc (T:= "bool") T.sA ∅)])) (w_or (bA (mI hr) (!10) (!12) (ag _)) (CC (bA (vr2) (ek Oz hr #v[!9]) xr3 (ag _))))))) (az (a_ gJ)) b_)
   (ar (aH (sL (w_or (yZ (lb (cM vb7 rfl T.bQ ∅ #v[!9,(Hc (T:= "tuple") T.cj ∅)]))) (w_or (bA (mI hr) (cM eG rfl T.aY ∅ #v[!9]) ax (ag _)) (w_or (bA (fE) (¬9) (aM mL ax (!8)) (ag _)) (CC (yZ (lb (cM QT rfl T.bQ ∅ #v[¬9,(Hc (T:= "list") T.di ∅)])))))))) (az (a_ gJ)) b_)
   (ar (jL (uQ rfl T.bw #v[ax]) (bY 14 bG.nd) (ar (Xl 15 bG.nd (N':=["_law_x", "_law_state", "_law_program_here"]) (ix:=[dv,du 1,du 2]) (iA rfl rfl rfl) (gY (¬2)) (λ_ _ _ _=>(bY 0 (show(["_law_x", "_law_state", "_law_program_here"]:bf gq).Nodup by decide))) (λ_ _ _ _=>jN) (λ_ _ _ _=>(ek xO hr #v[!1,¬2])))
   (ar (uP (ek NU hr #v[!9,(aM cn (!15) (aM mL (cw #v[ax]) (aM fg (¬9) (!8)))),(aM cn (!12) ax)]) (yY (n:=4) rfl (jv (bY 16 bG.nd) (jv (bY 17 bG.nd) (jv (bY 18 bG.nd) (jv (bY 19 bG.nd) za))))))
   (az (aH (bA (mI hr) (bh #v[!16,!17,!19]) (bh #v[aR,(cM eG rfl T.aY ∅ #v[¬9]),!12]) (ag _)) (az (a_ gJ)) b_)))))
   (ar (aN 20 bG.nd (iE FA rfl T.di ∅ #v[¬9]))
   (ar (dP (vy3 (¬9)))
   (az (a_ (j0 (aP hr) (ek B_ hr #v[!2,!4,!5,!6]) (bh #v[¬9,!20]) (ag _)))))))))))))))))) (λds G R h=>?_)
 .let#[a,ns,rfl,_]:=h;rfl
 .let#[a,ns,rfl,ha,qM,k0]:=h;simp!;apply#[∅,λst jA=>?_];let LB:a≠st:=aT ha jA;let S0:b9 (aC G st (.lst [.ref a,.int 0,.int 0])) st:=#[a,ns,0,0,ay,by rw[aA LB];exact ha,(),(),LB,qM];generalize aC G st (.lst [.ref a,.int 0,.int 0])=G0 at *;apply cR ?_;simp!;apply bV #[st,rfl,S0,λW bs rs ks w s b qd oa ca pl G1 nq nqs kd vO iF Zs je md a1=>?_];let S1:=a1.at_;clear a1 S0;simp![kd,bt];apply cR ?_;simp![B0];apply cR ?_;simp![je,bt];intro Be zP;let S2:=S1.S (o:=.lst (w.t bX)) zP;let iF:=(aA (o:=.lst (w.t bX)) (aT iF zP)).u iF;let je:=(aA (o:=.lst (w.t bX)) (aT je zP)).u je;let u_:=(ay:aC G1 Be (.lst (w.t bX)) Be=_);generalize aC G1 Be (.lst (w.t bX))=G2 at *;apply bV #[W,bs,rs,ca,Be,ks,w,s,b,rfl,iF,u_,md,λqc sz rws cs G3 mr esz erw nc kc hp aB hln z1 z2 KO g3=>?_];let S3:=S2.grow g3;let nqc:qc≠st:=S2.ne nc;let ncq:ca≠qc:=aT iF nc;let npq:pl≠qc:=aT je nc;let iF:=g3.kp _ _ iF;let je:=g3.kp _ _ je;clear g3 S2 nc u_ zP S1 kd nq nqs;simp!;apply cR ?_;simp!;apply bV #[W,bs,rs,ca,pl,ks,w,s,b,rfl,iF,je,md,λG4 g4=>?_];let S4:=S3.grow g4;let kc:=g4.kp _ _ kc;let iF:=g4.kp _ _ iF;let je:=g4.kp _ _ je;clear g4 S3;simp!;apply cR ?_;simp!;apply bV #[W,bs,rs,ca,ks,rfl,iF,md.dp,md.wt,md.bd,by let:=md.kl;omega,md.gd,λp hp=>(md.pk.ok p hp).1,λqt G5 nt kt g5=>?_];let S5:=S4.grow g5;let kc:=g5.kp _ _ kc;let iF:=g5.kp _ _ iF;let je:=g5.kp _ _ je;clear g5 S4;simp!;apply cR ?_;simp!;apply cR ?_;simp![je,bt];let yy:∀p:Mv,du p∈w->1<=p.2/\p.2<=((gS ks (aF rs)).t (qj W bs)).l:=λp hp=>by rw[B0];exact vf9 md.pl hp
  let yC:=md.pk.yC;let nE:=md.pk.hb;let LC:W<=16:=by let#[p,hp]:=List.exists_mem_of_length_pos (l:=gS ks (aF rs)) md.len.1;exact(md.pk.ok p hp).1.hW
  generalize hPC:(gS ks (aF rs)).t (qj W bs)=PC at yy KO kt⊢;apply jO (λr σ G'=>kY λ(l t:bf Pm) (v:b0 D)=>jX (l++t=w) (r=t.t bX) (G'=G5) (σ=[du (.ref a),du (.ref st),du (.tup [.int (W:bz),.tup (bs.t .str),.tup (bc rs)]),du (.ref oa),du (.ref ca),du (.int (s:bz)),du (.ref pl),du (.bl b),du (.int (bs.l:bz)),du (.tup [.int (sz:bz),.ref qc]),du (.int (eh PC w+(bs.l:bz))),du (.ref qt),du (.int (eh PC l+(bs.l:bz))),v,dv,dv,dv,dv,dv,dv,dv])) #[[],w,dv,rfl,rfl,rfl,by rw[show eh PC []=0 from rfl,Int.zero_add]] ?_ ?_
  .rintro σ G' ⟨l,t,v,e,e2,rfl,rfl⟩;let ht:t=[]:=by
    cases t with
    | nil=>rfl| cons x t=>cases e2
   subst ht;rw[D7] at e;subst e;apply#[by rw[je],?_];dsimp only;apply cR ?_;simp![AE,j4];apply#[.inl trivial,?_];rw[cp ∅];apply#[.inr (.inr (.inl trivial)),?_];rw[cp ∅];apply bV #[qc,rws,sz,rfl,kc,aB,hp,λG6 g6=>?_];let S6:=S5.grow g6;let kc:=g6.kp _ _ kc;let iF:=g6.kp _ _ iF;let je:=g6.kp _ _ je;clear g6 S5;simp!;apply cR ?_;let is:∀(ds:bf D) (G:Gp) (q:DK),q (.bl dS) G->Yo [.tup ds,.ty "tuple"] G q:=λ_ _ _ h=>#[.inr (.inr (.inr (.inr (.inl rfl)))),h];simp![AE,j4];apply is _ _ _ ?_;simp![kc];rw[cp (show¬(!decide (((2:br):bz)=2))=dS by decide)];apply#[AJ () (),?_];rw[cp (by rw[c7 ()];decide)];apply#[.inr (.inr (.inr (.inl trivial))),?_];simp![beq_self_eq_true,P9,N7,Q1,P0];apply cR ?_;simp!;apply#[#[∅,∅],?_];apply jO (λr σ G'=>Sh λ(i c:br) (u0 u1 u2 u3 u4 u5:b0 D)=>jX (i+c=3) (r=bW (i:bz) c) (cJ st G6 G') (σ=[du (.ref a),du (.ref st),du (.tup [.int (W:bz),.tup (bs.t .str),.tup (bc rs)]),du (.ref oa),du (.ref ca),du (.int (s:bz)),du (.ref pl),du (.bl b),du (.int (bs.l:bz)),du (.tup [.int (sz:bz),.ref qc]),du (.int (eh PC l+(bs.l:bz))),du (.ref qt),du (.int (eh PC l+(bs.l:bz))),v,u0,u1,u2,u3,u4,u5,dv])) #[0,3,dv,dv,dv,dv,dv,dv,rfl,rfl,.refl S6,rfl] ?_ ?_
   .rintro σ G7 ⟨i,c,u0,u1,u2,u3,u4,u5,_,_,A7,rfl⟩;apply#[trivial,?_];let kc:=A7.kp _ _ nqc kc;let iF:=A7.kp _ _ vO iF;let je:=A7.kp _ _ Zs je;dsimp only;apply cR ?_;simp![kc,bt];intro p20 DP;let n20:qc≠p20:=aT kc DP;apply cR ?_;simp![aA n20,kc];apply cR ?_;simp!;apply bV #[W,bs,rs,ca,pl,ks,_,s,b,rfl,by rw[aA ncq,aA (aT iF DP)];exact iF,by rw[aA npq,aA (aT je DP)];exact je,md,λq2 sz2 uE2 cs2 G8 mr2 uC1 uC2 n2 k2 _ _ _ _ _ _ g8=>?_];let k20:=g8.kp _ _ ((aA (o:=.lst []) (E1 n20)).u ay);let#[e1,e2]:=mr2.qH mr;rw[uC2,e2,<- erw] at k2;simp!;apply#[∅,?_];rw[uC1,e1,<- esz];apply vz4 (rs:=rws) (by rw[k2];rfl) (by rw[k20];rfl) ?_;exact k0 _
   .rintro z r σ G7 ⟨i,c,u0,u1,u2,u3,u4,u5,hi,hr,A7,rfl⟩ ih;cases c with
    | zero=>cases hr
    | succ c =>
     rw[jb] at hr;cases hr;apply#[trivial,?_];let S7:=A7.at_;simp!;intro p9 ve;let n9:=S7.ne ve;generalize hN:forL _ _ _ _ _=N at ih⊢;apply jP (λr σ G'=>uG λ(l2 t2:bf gq) (vs:bf br) (v2:b0 D)=>S_ (l2++t2=bs) (r=t2.t .str) (vs.l=l2.l) (∀v∈vs,v<2^W) (cJ st G7 G') (G' p9=du (.lst (vs.t nD))) (σ=[v2,du (.ref st),du (.tup [.int (W:bz),.tup (bs.t .str),.tup (bc rs)])])) #[[],bs,[],dv,rfl,rfl,rfl,(λ_ h=>nomatch h),(cJ.j S7).S ve,ay,rfl] ?_ ?_
     .rintro σ G8 ⟨l2,t2,vs,v2,e,e2,ZZ,ZY,A8,k8,rfl⟩;apply#[trivial,?_];let ht:t2=[]:=by simpa using e2.M
      subst ht;rw[D7] at e;subst e;let A78:=A7.u A8;let kc8:=A78.kp _ _ nqc kc;apply cR ?_;simp!;apply#[∅,λRp zQ=>?_];simp![aA (aT k8 zQ),k8,bt,B0];rw[show((sz:bz)-(l2.l:bz)).i=sz-l2.l by omega,P1];apply#[#[(),(),D4 (m:=2000) () ∅],λZl DQ=>?_];let n17:p9≠Zl:=λz=>by rw[<- z,aA (aT k8 zQ),k8] at DQ;cases DQ
      apply add_l (by rw[aA n17,aA (aT k8 zQ)];exact k8) ay (by rw[B0,O2];omega) λKe uA4=>?_;let g18:aj G8 (aC (aC (aC G8 Rp (.lst [.int 0])) Zl (.lst (C7 (sz-l2.l) (.int 0)))) Ke (.lst (vs.t nD++C7 (sz-l2.l) (.int 0)))):=((aj.j.S zQ).S DQ).S uA4;let k18:aC (aC (aC G8 Rp (.lst [.int 0])) Zl (.lst (C7 (sz-l2.l) (.int 0)))) Ke (.lst (vs.t nD++C7 (sz-l2.l) (.int 0))) Ke=du (.lst ((vs.t (λ(v:br)=>(v:bz))++C7 (sz-l2.l) 0).t .int)):=by rw[ay,B7,L9,V9];rfl
      let#[RN,ZT]:=CZ (sz:=sz) LC ZZ ZY ();generalize vs.t (λ(v:br)=>(v:bz))++C7 (sz-l2.l) 0=X0 at *;generalize aC _ Ke _=G18 at *;let KA:=g18.kp _ _ kc8;let A18:=A78.grow g18;let#[X1,d,hd,hF]:=KO X0 RN ZT;rw[<- hd] at ih⊢;let uC9:kQ sz rws X0 0:=#[RN,aB,J8 _];let e9:=hF.thr rfl (d+9) ();rw[show(d:bz)+9=((d+9:br):bz) from rfl];apply bV #[_,qc,Ke,rws,X0,d+9,sz,rfl,KA,k18,uC9,hp,λq11 sF Kn zK wj=>?_];rw[e9] at zK⊢;let ya:=A18.grow wj;let ZI:=wj.kp _ _ KA;unfold outD;rw[show GU dS rws X1 rws.l = "end" from cu rfl];simp!;apply cR ?_;simp![ZI,bt,B0];apply#[∅,∅,?_];let#[sn,qL]:=aV (G:=sF) (n:=0) (ds:=[.str (C5 "end"),.int (rws.l:bz),.int (d:bz)]) (all2 zh (all2 mN (all1 mN)));apply#[1,sn,sn,dS,∅,qL,qL,Hj 1 qL,?_];rw[cp ∅];apply ih _ _ #[i+1,c,_,_,_,_,_,_,(),rfl,ya,rfl]
     .rintro z r σ G8 ⟨l2,t2,vs,v2,e,e2,ZZ,ZY,A8,k8,rfl⟩ vS;cases t2 with
      | nil=>cases e2
      | cons x t2 =>
       cases e2;apply#[trivial,?_];simp!;apply bV #[st,W,rfl,A8.at_,LC,λi G9 hi9 a9=>?_];let hlen:=cv J1 e;rw[B4,C0] at hlen;let k9:=a9.kp _ _ n9 k8;simp![k9];apply#[C6 (m:=100) (by rw[B0];omega) ∅,vS _ _ #[l2++[x],t2,vs++[i],_,by rw[<- e];simp,rfl,by rw[B4,B4,ZZ];rfl,λv hv=>?_,(A8.u a9).own ve k9 n9,by rw[ay,B7];rfl,rfl]];rcases F7.mp hv with hv|hv
       .exact ZY v hv
       .rw[D8.mp hv];exact hi9
  .rintro z r σ G' ⟨l,t,v,e,e2,rfl,rfl⟩ ih;cases t with
   | nil=>cases e2
   | cons p t =>
    cases e2;apply#[by rw[je],?_];let hw:∀q,p=du q->1<=q.2/\q.2<=PC.l:=λq e3=>yy q (by rw[<- e,e3];simp);let hs:eh PC (l++[p])=eh PC l+eh PC [p]:=Hx;rcases p with _|⟨c,k⟩
    .simp![bX,cW,C4];exact ih _ _ ⟨l++[dv],t,_,by rw[<- e];simp,rfl,rfl,by rw[hs,show eh PC [dv]=0 from rfl,SN]⟩
    .obtain⟨k1,k2⟩:1<=k/\k<=PC.l:=hw _ rfl;let ik:cS (PC.t D.int) ((k:bz)-1)=du (.int (PC.E (k-1) 0)):=by rw[show(k:bz)-1=((k-1:br):bz) by omega];exact vy (by rw[F5,B6 (),F4,B6 ()];rfl)
     cases c with
     | true =>simp![bX,mD,mP,pD,cW,C4,kt,bt,ik];exact ih _ _ #[l++[du (dS,k)],t,_,by rw[<- e];simp,rfl,rfl,by rw[hs,show eh PC [du (dS,k)]=PC.E (k-1) 0 from SN _,Eg]]| false =>simp![bX,mD,mP,pD,cW,C4,kt,bt,ik];exact ih _ _ #[l++[du (eH,k)],t,_,by rw[<- e];simp,rfl,rfl,by rw[hs,show eh PC [du (eH,k)]=PC.E (k-1) 0 from SN _,Eg]]
end
end Law
namespace Law
open PySem PySem.Spec PyProof.Rows L2 L3
def Kk:eM->cg
 | []=>dS| p::r=>(match p.2.data with|.seq _ _=>(match p.2.cls with|.type s=>!(s == "list")|_=>dS)|_=>dS)&&Kk r
theorem w72:∀{K:eM} {a:fy} {o:jC} {its:dc fx} {n:br},Kk K=dS->K.q a=du o->o.cls=.type "list" -> o.data=.seq its n->b8
 | [],a,o,its,n,_,e,_,_=>by cases e
 | p::r,a,o,its,n,h,e,g,f=>by
  unfold Kk at h;rw[K9] at h;rw[J0] at e;split at e
  .cases e;let q:=h.1;rw[f] at q;simp only[g] at q;exact cz q ∅
  .exact w72 h.2 e g f
def Gk{P:bf fx->ck}(h:P []):∀us:bf fx,us.l=0->P us:=λus e=>by rw[E6 e];exact h
def lF{n:br}{P:bf fx->ck}(h:∀(a:fx) (us:bf fx),us.l=n->P (a::us)):∀us:bf fx,us.l=n+1->P us:=λus e=>by
 cases us with
 | nil=>cases e
 | cons a us=>exact h a us (Q2 e)
def ar1{P:bf fx->ck}(h:∀f,P [f]):∀us:bf fx,us.l=1->P us:=lF λf=>Gk (h f)
def ar2{P:bf fx->ck}(h:∀g f,P [g,f]):∀us:bf fx,us.l=2->P us:=lF λg=>lF λf=>Gk (h g f)
def ar3{P:bf fx->ck}(h:∀i g f,P [i,g,f]):∀us:bf fx,us.l=3->P us:=lF λi=>lF λg=>lF λf=>Gk (h i g f)
def ar4{P:bf fx->ck}(h:∀j i g f,P [j,i,g,f]):∀us:bf fx,us.l=4->P us:=lF λj=>lF λi=>lF λg=>lF λf=>Gk (h j i g f)
def ar5{P:bf fx->ck}(h:∀k j i g f,P [k,j,i,g,f]):∀us:bf fx,us.l=5->P us:=lF λk=>lF λj=>lF λi=>lF λg=>lF λf=>Gk (h k j i g f)
def ar6{P:bf fx->ck}(h:∀l k j i g f,P [l,k,j,i,g,f]):∀us:bf fx,us.l=6->P us:=lF λl=>lF λk=>lF λj=>lF λi=>lF λg=>lF λf=>Gk (h l k j i g f)
def vl7{K:eM}{x g:gq}{st:hC}{ps:bf gq}{f:fy}{j:fx}{od an:b0 fy}{m:dc (b0 fx)}{kV doc i h ct:fx}(l:K.q f=du #[j,od,.func (fv x g (uS st) (sJ st) (bj st) .none kV doc i an h ct),m]) (c:W.codeIn K h g=dS) (k:W.keepIn K (.ref f)=dS) (n:∀us:bf fx,us.l=ps.l->Sw (fv x g (uS st) (sJ st) (bj st) .none kV doc i an h ct) #[us,[]]=pure (ps.zip us)):FnAt K x g st ps:=#[f,_,#[j,od,.none,kV,doc,i,an,h,ct,m,rfl,l,c],k,.all n]
def DF(K:eM)(x:gq)(st:hC):ck:=∃(p:fy) (h:fx) (od an:b0 fy) (f:dc (b0 fx)) (kV i g cd j:fx),fm K J5 x=du (du (.ref p))/\K.q p=du #[h,od,.func (fv x x (uS st) (sJ st) (bj st) .none kV i g an cd j),f]/\W.codeIn K cd x=dS/\W.keepIn K (.ref p)=dS
def DM(K:eM)(C:fy)(x q:gq)(st:hC):ck:=∃(p:fy) (h:fx) (od an:b0 fy) (f:dc (b0 fx)) (kV i g cd j:fx),ff K (.ref C) x=du (du (.ref p))/\W.isFn K (.ref p)=dS/\K.q p=du #[h,od,.func (fv x q (uS st) (sJ st) (bj st) .none kV i g an cd j),f]/\W.codeIn K cd q=dS/\W.keepIn K (.ref p)=dS
section
variable{K:eM}{h:hR}{mg:gq->b0 fx}{C:fy}{x q:gq}{st:hC}{ps:bf gq}
def uC5{p:fy}{i:fx}{od an:b0 fy}{f:dc (b0 fx)}{kV j g cd ct:fx}(a:fm K J5 x=du (du (.ref p)))(l:K.q p=du #[i,od,.func (fv x x (uS st) (sJ st) (bj st) .none kV j g an cd ct),f])(c:W.codeIn K cd x=dS)(k:W.keepIn K (.ref p)=dS):DF K x st:=#[p,i,od,an,f,kV,j,g,cd,ct,a,l,c,k]
def uC4{p:fy}{j:fx}{od an:b0 fy}{f:dc (b0 fx)}{kV m g cd ct:fx}(a:ff K (.ref C) x=du (du (.ref p)))(i:W.isFn K (.ref p)=dS)(l:K.q p=du #[j,od,.func (fv x q (uS st) (sJ st) (bj st) .none kV m g an cd ct),f])(c:W.codeIn K cd q=dS)(k:W.keepIn K (.ref p)=dS):DM K C x q st:=#[p,j,od,an,f,kV,m,g,cd,ct,a,i,l,c,k]
def ln4{f:Type}:∀{us:bf f},us.l=4->∃a b c d,us=[a,b,c,d]
 | [a,b,c,d],_=>#[a,b,c,d,rfl]
def ln3{f:Type}:∀{us:bf f},us.l=3->∃a b c,us=[a,b,c]
 | [a,b,c],_=>#[a,b,c,rfl]
def aK{N:bf gq}(_:ae N ps (bj st))(X:K.In h)(G:h.Ns J5 mg)(d:DF K x st)(j:∀kV i g an cd ct,∀us:bf fx,us.l=ps.l->Sw (fv x x (uS st) (sJ st) (bj st) .none kV i g an cd ct) #[us,[]]=pure (ps.zip us):=by intro _ _ _ _ _ _;first|exact ar1 λ_=>rfl|exact ar2 λ_ _=>rfl|exact ar3 λ_ _ _=>rfl|exact ar4 λ_ _ _ _=>rfl|exact ar5 λ_ _ _ _ _=>rfl|exact ar6 λ_ _ _ _ _ _=>rfl):
  ∃f:Fg K mg x st ps,∀(s:fC) (us:bf fx),us.l=ps.l->EH s f.fd #[us,[]] (ps.zip us):=by
 let#[p,n,od,an,m,kV,i,g,cd,ct,a,l,c,k]:=d;exact#[#[vl7 l c k (j kV i g an cd ct),W.mg_of X G a],λs us e=>.of_eq (j kV i g an cd ct us e)]
def lD{N:bf gq}(_:ae N ps (bj st))(d:DM K C x q st)(m:∀kV j g an cd ct,∀us:bf fx,us.l=ps.l->Sw (fv x q (uS st) (sJ st) (bj st) .none kV j g an cd ct) #[us,[]]=pure (ps.zip us):=by intro _ _ _ _ _ _;first|exact ar1 λ_=>rfl|exact ar2 λ_ _=>rfl|exact ar3 λ_ _ _=>rfl|exact ar4 λ_ _ _ _=>rfl|exact ar5 λ_ _ _ _ _=>rfl|exact ar6 λ_ _ _ _ _ _=>rfl):
  ∃f:FnAt K x q st ps,ff K (.ref C) x=du (du (.ref f.a))/\W.isFn K (.ref f.a)=dS:=by
 let#[p,o,od,an,n,kV,j,g,cd,ct,a,i,l,c,k]:=d;exact#[vl7 l c k (m kV j g an cd ct),a,i]
end
def w23:fS:=λg G R=>∃(a:fy) (f:bf bz),g=[.ref a]/\G a=du (.uB (f.t .int))/\f.l<=63/\∀h,R (.bl dS) h
theorem v39{K:eM}{H:Hp}:∀ns:bf bz,ah K H (ns.t D.int) (ns.t V.int)
 | []=>.nil| _::ns=>.cons af.c8 (v39 ns)
def xe6{K:eM}{H:Hp}{a:fy}{ns:bf bz}(l:Kk K=dS)(i:ns.l<=63)(k:Only H)(j:fb K H a (ns.t V.int)):cU K w23 [.ref a] H (λv _=>v=.bl dS) λ_ _ _=>b8:=by
 let f:∃o,H a=du (.dR o (.lst (ns.t V.int))):=by
  rcases j with(h|h)|⟨o,its,n,q,p,_,m,_⟩
  .rcases k a with z|⟨o,xs,z⟩
   .rw[h] at z;cases z
   .rw[h] at z;cases z
  .exact h
  .exact(w72 l q p m).n
 let#[o,f]:=f;apply#[[.ref a],aC (λ_=>dv) a (.uB (ns.t .int)),λd _=>d=.bl dS,.cons ?_ .nil,λb u e=>?_,#[a,ns,rfl,ay,i,λ_=>rfl],λd x v t r _ _ e=>?_]
 .rw[af]
 .by_cases g:b=a
  .subst g;rw[ay] at e;cases e;exact#[o,_,f,v39 ns]
  .rw[aA g] at e;cases e
 .subst e;rw[af] at r;exact r
end Law
namespace Law
open PySem PySem.Spec PyProof.Rows L2 L3 Rw
def CU{K:eM}{h:hR}{mg:gq->b0 fx}(X:K.In h)(G:h.Ns J5 mg) {g:fy} {Zo j:b0 fy} {YK:dc (b0 fx)} {Zp ZJ l Y' LQ k:fx} {hE:fy} {g_:jC} {mO:br} {gZ:Tok} {Z:Tok} {Y:Tok} {fF:Tok} (Ae:fm K J5 "Loom" = du (du (.ref bM))) (Ad:fm K J5 "Ride" = du (du (.ref de))) (JU:DF K "check_code" Vc) (JW:DF K "boxes_read" Va) (J_:DF K "bits_of" UY) (Jc:DF K "numbers_of" VT) (JL:DF K "is_within" Vk) (JM:DF K "is_apart" Vj) (JO:DF K "has_fellow" Vh) (JK:DF K "joined" Vl) (Jd:DF K "moved" VS) (IE:DF K "turned" Wo) (ID:DF K "turned_row" Wq) (Zg:DM K bM "__init__" "Loom.__init__" UM) (Zh:DM K bM "fresh_box" "Loom.fresh_box" UL) (Zf:DM K bM "put" "Loom.put" UN) (Ze:DM K bM "put_by_choice" "Loom.put_by_choice" UO) (Zd:DM K bM "put_unless" "Loom.put_unless" UP) (IA:DF K "weave" Wt) (Iy:DF K "weave_rows" Ww) (Iz:DF K "weave_choose" Wu) (I_:DF K "place_of" VX) (Iw:DF K "weave_sign" Wx) (IJ:DF K "total" Wl) (JR:DF K "difference" Vf) (JP:DF K "gap" UK) (JY:DF K "bits_of_both" U_) (JZ:DF K "bits_of_any" UZ) (JX:DF K "bits_of_one" U') (IK:DF K "sum_without_both" Wj) (IS:DF K "smaller" Wd) (Ka:DF K "alike" UW) (II:DF K "truth" Wm) (Jj:DF K "marking" VM) (Ji:DF K "marking_steps" VN) (Ja:DF K "pieces" VW) (IC:DF K "unrolled" Wr) (IB:DF K "unrolled_row" Ws) (IL:DF K "stretches" Wi) (JS:DF K "costs" Ve) (JT:DF K "checked" Vd) (Jh:DF K "may_do" VO) (IY:DF K "set_of" VZ) (IQ:DF K "stands" Wf) (Jk:DF K "many_in" VL) (J':DF K "behind" UX) (IX:DF K "sets_along" V_) (Jg:DF K "most_marks" VP) (Iu:DF K "work" Wz) (Jl:DF K "made" VJ) (IP:DF K "steps" Wg) (IV:DF K "slots_along" Wa) (IU:DF K "slots_behind" Wc) (JQ:DF K "free_slot" Vg) (Je:DF K "move_codes" VR) (Jf:DF K "move_code" VQ) (IW:DF K "shown_code" V') (Jm:DF K "left_code" VI) (J:ff K (.ref de) "__init__" = du (du (.ref g))) (p:W.isFn K (.ref g)=dS) (m:K.q g=du #[Zp,Zo,.func (fv "__init__" "Ride.__init__" (uS EV) (sJ EV) (bj EV) (.ref hE) ZJ l Y' j LQ k),YK]) (H:W.codeIn K LQ "Ride.__init__" = dS) (n:W.keepIn K (.ref g)=dS) (iw:K.q hE=du g_) (iu:g_.data=.seq [.int 0 gZ].e mO) (Kb:DM K de "place" "Ride.place" UU) (Zb:DM K de "boxes" "Ride.boxes" UR) (Za:DM K de "forth" "Ride.forth" US) (Zc:DM K de "at_end" "Ride.at_end" UQ) (Y_:DM K de "may_forth" "Ride.may_forth" UT) (JN:DF K "holds" Vi) (JV:DF K "change" Vb) (Jb:DF K "operand_value" VU) (IG:DF K "turn_bit" Wn) (IZ:DF K "run_forth" VY) (Iv:DF K "word_of" Wy) (JB:DF K "_law_draw" Vt) (Jx:DF K "_law_names" Vx) (Jw:DF K "_law_number" Vy) (JG:DF K "_law_atom" Vo) (JA:DF K "_law_heavy" Vu) (Js:DF K "_law_row" VC) (Jr:DF K "_law_rows" VD) (Jo:DF K "_law_unrolled" VG) (Ju:DF K "_law_program" VA) (JD:DF K "_law_cuts" Vr) (JE:DF K "_law_cap" Vq) (Jp:DF K "_law_turned" VF) (Jn:DF K "_law_way" VH) (Jy:DF K "_law_moves" Vw) (JF:DF K "_law_behind_move" Vp) (JH:DF K "_law_aside" Vn) (Jv:DF K "_law_plan" Vz) (Jq:DF K "_law_size" VE) (JI:DF K "_law_all_at_once" Vm) (Jt:DF K "_law_round" VB) (Jz:DF K "_law_long" Vv) (JC:DF K "_law_done" Vs) (JJ:DF K "law" WA) (zB:W.plainGet K bM yb=dS) (zU:W.hasDictIn K bM=dS) (zy:W.plainOver K bM=dS) (zw:ff K (.ref bM) "__setattr__" = du (du (.builtin "object.__setattr__"))) (nk:W.makesIn K bM=dS) (zJ:W.keepIn K (.ref bM)=dS) (oz:ff K (.ref bM) "wide" = du dv) (ng:ff K (.ref bM) "fresh" = du dv) (oA:ff K (.ref bM) "rows" = du dv) (m_:ff K (.ref bM) "steps" = du dv) (zA:W.plainGet K de yb=dS) (zT:W.hasDictIn K de=dS) (zx:W.plainOver K de=dS) (zu:ff K (.ref de) "__setattr__" = du (du (.builtin "object.__setattr__"))) (nj:W.makesIn K de=dS) (zI:W.keepIn K (.ref de)=dS) (ox:ff K (.ref de) "rows" = du dv) (oy:ff K (.ref de) "held" = du dv) (ow:ff K (.ref de) "spot" = du dv) (t_:fm K J5 "NUMBERS" = du (du (.int 4294967296 Z))) (Cv:fm K J5 "BITS" = du (du (.int 32 Y))) (jZ:fm K J5 "BELOW_NOUGHT" = du (du (.int 31 fF))) (wF:fm K J5 "abs" = du dv)
  (qm:fm K J5 "all" = du dv)
  (sA:fm K J5 "bool" = du dv)
  (gN:fm K J5 "dict" = du dv)
  (kK:fm K J5 "divmod" = du dv)
  (cK:fm K J5 "enumerate" = du dv)
  (fL:fm K J5 "int" = du dv)
  (bQ:fm K J5 "isinstance" = du dv)
  (aY:fm K J5 "len" = du dv)
  (di:fm K J5 "list" = du dv)
  (ql:fm K J5 "max" = du dv)
  (qk:fm K J5 "min" = du dv)
  (bw:fm K J5 "range" = du dv)
  (gM:fm K J5 "reversed" = du dv)
  (iB:fm K J5 "sorted" = du dv)
  (wD:fm K J5 "str" = du dv)
  (tj:fm K J5 "sum" = du dv)
  (cj:fm K J5 "tuple" = du dv)
  (wC:fm K J5 "zip" = du dv):
  ∃T:n' K mg,∀(s:fC) (v:fx),EH s T.ic.fd #[[v],[]] [("_law_script",v)]:=by
 let#[p_,_]:=aK m7 X G JU;let#[mn,_]:=aK w46 X G JW;let#[qf,_]:=aK w49 X G J_;let#[pq,_]:=aK w35 X G Jc;let#[pV,_]:=aK w42 X G JL;let#[pW,_]:=aK w43 X G JM;let#[pX,_]:=aK rD X G JO;let#[mh,_]:=aK ke X G JK;let#[px,_]:=aK w36 X G Jd;let#[oU,_]:=aK rg X G IE;let#[oS,_]:=aK w29 X G ID;let#[my,S,A]:=lD w56 Zg;let#[bL,U,B]:=lD w57 Zh;let#[bU,R,y]:=lD w55 Zf;let#[jm,Q,x]:=lD w54 Ze;let#[iq,O,u]:=lD rJ Zd;let#[lY,_]:=aK mQ X G IA;let#[ie,_]:=aK j7 X G Iy;let#[oQ,_]:=aK gx X G Iz;let#[l_,_]:=aK rq X G I_;let#[oP,_]:=aK w27 X G Iw;let#[oX,_]:=aK mT X G IJ;let#[pZ,_]:=aK m6 X G JR;let#[kG,_]:=aK rK X G JP;let#[mq,_]:=aK rF X G JY;let#[qe,_]:=aK w48 X G JZ;let#[qb,_]:=aK w47 X G JX;let#[lZ,_]:=aK mU X G IK;let#[oZ,_]:=aK mV X G IS;let#[qg,_]:=aK kg X G Ka;let#[oW,_]:=aK mS X G II;let#[pF,_]:=aK iQ X G Jj;let#[pE,_]:=aK mW X G Ji;let#[pe,_]:=aK w33 X G Ja;let#[ig,_]:=aK mR X G IC;let#[oR,_]:=aK w28 X G IB;let#[l0,_]:=aK gy X G IL;let#[ml,_]:=aK w45 X G JS;let#[mm,_]:=aK dY X G JT;let#[pC,_]:=aK rB X G Jh;let#[kC,_]:=aK w32 X G IY;let#[l9,_]:=aK w30 X G IQ;let#[ma,_]:=aK j8 X G Jk;let#[mw,_]:=aK w50 X G J';let#[pb,_]:=aK iO X G IX;let#[pB,_]:=aK w37 X G Jg;let#[oN,_]:=aK w25 X G Iu;let#[pG,_]:=aK iR X G Jl;let#[oY,_]:=aK rj X G IP;let#[o9,_]:=aK iN X G IV;let#[o7,_]:=aK rl X G IU;let#[pY,_]:=aK kf X G JQ;let#[pz,_]:=aK dX X G Je;let#[pA,_]:=aK rA X G Jf;let#[o_,_]:=aK w31 X G IW;let#[pH,_]:=aK w38 X G Jm;refine let_delayed kF:FnAt K "__init__" "Ride.__init__" EV ["self", "code", "boxes", "place"]:=#[g,_,#[_,_,_,_,_,_,_,_,_,_,rfl,m,H],n,λs f E C=>by let#[_,_,_,_,rfl]:=ln4 (us:=f) (by simpa using C);exact W.binds_K E rfl iw iu rfl rfl];?_;let#[jj,i,ZR]:=lD w51 Kb;let#[jl,M,r]:=lD w52 Zb;let#[jk,L,q]:=lD rH Za;let#[gn,N,t]:=lD w53 Zc;let#[gm,I,o]:=lD rG Y_;let#[mj,_]:=aK w44 X G JN;let#[qa,_]:=aK rE X G JV;let#[pj,_]:=aK w34 X G Jb;let#[oV,_]:=aK rh X G IG;let#[pd,_]:=aK iP X G IZ;let#[oO,_]:=aK w26 X G Iv;let#[cV,_]:=aK dE X G JB;let#[ji,_]:=aK dD X G Jx;let#[me,_]:=aK rC X G Jw;let#[pS,_]:=aK w41 X G JG;let#[ip,_]:=aK gE X G JA;let#[pJ,_]:=aK gB X G Js;let#[il,_]:=aK j' X G Jr;let#[gj,_]:=aK j9 X G Jo;let#[pL,_]:=aK gC X G Ju;let#[pQ,_]:=aK gF X G JD;let#[mf,_]:=aK w39 X G JE;let#[kE,_]:=aK mX X G Jp;let#[ij,_]:=aK gA X G Jn;let#[pN,_]:=aK mZ X G Jy;let#[pR,_]:=aK w40 X G JF;let#[pT,_]:=aK eL X G JH;let#[pM,_]:=aK gD X G Jv;let#[pI,_]:=aK j_ X G Jq;let#[pU,_]:=aK iT X G JI;let#[pK,_]:=aK mY X G Jt;let#[pO,_]:=aK iS X G Jz;let#[pP,_]:=aK cF X G JC;let#[ic,LV]:=aK bG X G JJ;exact#[#[#[#[p_,mn,qf,pq,pV,pW,pX,mh,px,oU,oS,my,bL,bU,jm,iq,lY,ie,oQ,l_,oP,oX,pZ,kG,mq,qe,qb,lZ,oZ,qg,oW,pF,pE,pe,ig,oR,l0,ml,mm,pC,kC,l9],ma,mw,pb,pB,oN,pG,oY,o9,o7,pY,pz,pA,o_,pH,kF,jj,jl,jk,gn,gm,mj,qa,pj,oV,pd,oO,cV,ji,me,pS,ip,pJ,il,gj,pL,pQ,mf,kE,ij,pN,pR,pT],pM,pI,pU,pK,pO,pP,ic,#[#[zB,zU,zy,zw],W.mg_of X G Ae,oz,ng,oA,m_],#[#[zA,zT,zx,zu],W.mg_of X G Ad,ox,oy,ow],#[nk,S,A,zJ],#[U,B,bL.kp],#[R,y,bU.kp],#[Q,x,jm.kp],#[O,u,iq.kp],#[nj,J,p,zI],#[gZ,λs f E C=>by let#[_,_,_,rfl]:=ln3 (us:=f) (show f.l=3 by simpa using C);exact W.binds_K E rfl iw iu rfl rfl],#[i,ZR,jj.kp],#[M,r,jl.kp],#[L,q,jk.kp],#[N,t,gn.kp],#[I,o,gm.kp],#[Z,W.mg_of X G t_],#[Y,W.mg_of X G Cv],#[fF,W.mg_of X G jZ],W.mg_none_of X G wF,W.mg_none_of X G qm,W.mg_none_of X G sA,W.mg_none_of X G gN,W.mg_none_of X G kK,W.mg_none_of X G cK,W.mg_none_of X G fL,W.mg_none_of X G bQ,W.mg_none_of X G aY,W.mg_none_of X G di,W.mg_none_of X G ql,W.mg_none_of X G qk,W.mg_none_of X G bw,W.mg_none_of X G gM,W.mg_none_of X G iB,W.mg_none_of X G wD,W.mg_none_of X G tj,W.mg_none_of X G cj,W.mg_none_of X G wC],λs v=>LV s [v] rfl]
def xj5{P:hH}{w:hL}{K:eM}{mg:gq->b0 fx}{base:hR}(T:n' K mg):30<*T.ic.1<*xj7:=by
 let u:=@xb8 P w K mg base T 0;let Np:=@xc2 P w K mg base T 0;let MG:=@x73 P w K mg base T 0;let Nf:=@xa8 P w K mg base T 1 (km u) (km Np) (km MG);let Ng:=@xa9 P w K mg base T 1 (km u);let Nh:=@xb1 P w K mg base T 0;let Nk:=@xb6 P w K mg base T 2 (km Nf) (km Ng) (km Nh);let O:=@xd4 P w K mg base T 0;let i:=@xd5 P w K mg base T 0;let j:=@xd3 P w K mg base T 0;let I:=@x70 P w K mg base T 1 (km i) (km j);let Mu:=@x56 P w K mg base T 1 (km i) (km j);let l:=@xd6 P w K mg base T 1 (km i) (km j);let Nj:=@xb3 P w K mg base T 2 (km i) (km j) (km l);let t:=@xc0 P w K mg base T 1 (km i) (km j);let M:=@x57 P w K mg base T 2 (km i) (km j) (km t);let Nn:=@xc1 P w K mg base T 3 (km M);let Nm:=@xb9 P w K mg base T 3 (km M);let My:=@x61 P w K mg base T 2 (km i) (km j) (km l);let Z:=@xc4 P w K mg base T 2 (km i) (km j) (km l);let Mm:=@x46 P w K mg base T 4 (km Mu) (km Nj) (km t) (km Nn) (km Nm) (km My) (km Z);let R:=@xd1 P w K mg base T 0;let Q:=@xd2 P w K mg base T 1 (km R);let Mt:=@x55 P w K mg base T 1 (km i) (km j);let L_:∀f,5+2*f<*T.ie.1<*fT f:=by
  intro f;induction f with
  | zero=>exact xk9 T| succ f h=>exact bJ.mono (x47 T (n:=5+2*f+1) (dp:=f) (x48 T (n:=5+2*f) (dp:=f) (bJ.mono i ()) (bJ.mono Q ()) h (bJ.mono I ()) (bJ.mono Mt ())) (bJ.mono I ()) (bJ.mono Mm ())) ()
 let Mn:21<*T.ie.1<*xj8:=L_ 8;let N:=@x49 P w K mg base T 20 (km O) (km Mn);let MM:=@x80 P w K mg base T 22 (km N);let L':∀f,0+2*f<*T.ig.1<*fU f:=by
  intro f;induction f with
  | zero=>exact xl0 T| succ f h=>exact bJ.mono (x51 T (n:=0+2*f+1) (dp:=f) (x50 T (n:=0+2*f) (dp:=f) h)) ()
 let Mp:16<*T.ig.1<*xj9:=L' 8;let ME:=@x71 P w K mg base T 16 (km Mp);let L:=@x58 P w K mg base T 17 (km ME);let y:=@xb4 P w K mg base T 23 (km MM) (km L);let MH:=@x74 P w K mg base T 0;let B:=@xa7 P w K mg base T 1 (km MH);let o:=@x66 P w K mg base T 0;let J:=@x60 P w K mg base T 1 (km o);let H:=@x82 P w K mg base T 0;let ML:=@x79 P w K mg base T 2 (km J) (km H);let r:=@xc3 P w K mg base T 1 (km o);let x:=@xb5 P w K mg base T 3 (km ML) (km o) (km J) (km r);let Ni:=@xb2 P w K mg base T 0;let Mz:=@x62 P w K mg base T 1 (km Ni);let MA:=@x63 P w K mg base T 2 (km Mz);let MC:=@x65 P w K mg base T 2 (km r);let MK:=@x77 P w K mg base T 3 (km H) (km MC);let Mq:=@x52 P w K mg base T 0;let Mr:=@x53 P w K mg base T 1 (km Mq);let MN:=@x81 P w K mg base T 22 (km B) (km Mr) (km N);let MB:=@x64 P w K mg base T 0;let MJ:=@x76 P w K mg base T 23 (km MN) (km MB);let MI:=@x75 P w K mg base T 24 (km MK) (km MJ);let MP:=@x84 P w K mg base T 0;let MO:=@x83 P w K mg base T 25 (km B) (km L) (km x) (km MA) (km MI) (km MP);let Mj:=@x44 P w K mg base T 0;let Mx:=@x59 P w K mg base T 24 (km y) (km x) (km Mj);let X:=@xc7 P w K mg base T 0;let Y:=@xc5 P w K mg base T 0;let S:=@xc9 P w K mg base T 0;let p:=@xd0 P w K mg base T 0;let A:=@xb0 P w K mg base T 0;let q:=@xc6 P w K mg base T 1 (km p) (km A);let MF:=@x72 P w K mg base T 0;let Ms:=@x54 P w K mg base T 0;let Nl:=@xb7 P w K mg base T 1 (km MF) (km Ms);let U:=@xc8 P w K mg base T 2 (km q) (km A) (km Nl);let Ml:=@x45 P w K mg base T 0;let MD:=@x67 P w K mg base T 2 (km X) (km Y) (km S) (km U) (km p) (km q) (km Ml);let g:=@x99 P w K mg base T 0;let E:=@x94 P w K mg base T 1 (km g);let Mb:∀f,0+f<*T.gj.1<*fV f:=by
  intro f;induction f with
  | zero=>exact xl2 T| succ f h=>exact x86 T (n:=0+f) (dp:=f) h
 let G:8<*T.gj.1<*Pz:=Mb 8;let k:=@x95 P w K mg base T 1 (km g);let Md:∀f,0+f<*T.ip.1<*fX f:=by
  intro f;induction f with
  | zero=>exact xl4 T| succ f h=>exact x98 T (n:=0+f) (dp:=f) h
 let MY:8<*T.ip.1<*xk4:=Md 8;let Nb:=@xa4 P w K mg base T 2 (km g) (km E);let Mc:∀f,8+2*f<*T.il.1<*fW f:=by
  intro f;induction f with
  | zero=>exact xl3 T| succ f h=>exact bJ.mono (x89 T (n:=8+2*f+1) (dp:=f) (bJ.mono g ()) (bJ.mono MY ()) (x90 T (n:=8+2*f) (dp:=f) (bJ.mono g ()) (bJ.mono Nb ()) h)) ()
 let MS:24<*T.il.1<*xk3:=Mc 8;let MU:=@x92 P w K mg base T 24 (km g) (km k) (km MS) (km G);let M_:=@xa1 P w K mg base T 1 (km g);let m:=@x87 P w K mg base T 0;let C:=@xa2 P w K mg base T 0;let Ma:∀f,1+f<*T.ij.1<*eU f:=by
  intro f;induction f with
  | zero=>exact xl1 T| succ f h=>exact x85 T (n:=1+f) (dp:=f) (bJ.mono g ()) (bJ.mono C ()) (bJ.mono m ()) h
 let MQ:27<*T.ij.1<*xk2:=Ma 26;let MW:=@x96 P w K mg base T 0;let Na:=@xa3 P w K mg base T 0;let Nc:=@xa5 P w K mg base T 1 (km g) (km m) (km MW) (km Na);let MV:=@x93 P w K mg base T 27 (km m) (km MQ) (km Nc);let MR:=@x88 P w K mg base T 1 (km g) (km C);let Nd:=@xa6 P w K mg base T 2 (km g) (km k);let MT:=@x91 P w K mg base T 2 (km g) (km k);let MX:=@x97 P w K mg base T 2 (km g) (km k);let MZ:=@xa0 P w K mg base T 28 (km g) (km G) (km MU) (km M_) (km MV) (km MR) (km Nd) (km MT) (km MX);let Mi:=@x43 P w K mg base T 29 (km Nk) (km y) (km MO) (km Mx) (km MD) (km E) (km MZ);exact Mi
def walk{l:W.OpenLaw}{q:hH}{i:bf gq}{G:(gq->b0 fx)->hR->ck}{o:hL->hR->ck}{d:DefRec}{K:Params->eM}(r:l.most=du 63)(I:d.params.defaults=[]) (y:∀(w:hL) (h:hR),o w h->(K w.params).In h) (C:∀w:hL,Kk (K w.params)=dS) (F:∀(w:hL) (mg:gq->b0 fx) (m:fy) (h:hR),(K w.params).In h->h.Ns J5 mg->mg d.name=du (.ref m)->∃T:n' (K w.params) mg,∀(s:fC) (v:fx),EH s T.ic.fd #[[v],[]] [("_law_script",v)]) (p:d.name = "law" := by rfl):
  W.WalkO q i G o l.row.toRowW d [] (λf vs=>xV f vs):=by
 apply L2.yV (n:=63) (k:=30) (x:= "_law_script") (CX:=λ_=>qR) (sp:=λw=>cU (K w.params) w23) r ∅ I #[rfl,∅,∅] y (λw mg m h E hN j=>?_) (λw H a L t B A=>xe6 (C w) t B A) λ_ _ _ _ _ z=>z;let#[T,u]:=F w mg m h E hN j;rw[p] at j;let e:=j.M.u T.ic.g;cases e;exact#[T.ic.fd,u,λbase _ _=>xj5 T]
end Law
end
namespace PySem.W.Fast
local macro_rules|`(#check $f $a*)=>do pure (Lean.mkNullNode (<-([f].toArray++a).mapM fun(n:Lean.Term)=>`(theorem $(Lean.mkIdent (.mkSimple s!"tw{n.raw.getId.toString.foldl (fun n c=>n*52+c.toNat-if c.isUpper then 65 else 71) 0}")):ident:True:=⟨⟩)))
#check BFgizaOHiFJf BvBxXZwqACXN CAwHcIrRIwZE cqRJcVsJVdn IQBfJrLHrNK okiaHZzvwoz CSKgKmWcqqco CFMJMIdLyhaT BionibomYxDM CTRtOZPmxKJt BhycSAykBnWP COobANSiwixg mSgDNRhLMuz iPkCjVmktyv CHRtybGfgJIa ByNKTJgkseUS CVQSqxqcHjEp xeOhkjyBejz BwVrqcCqhPPM jRIwHTHXsnU BGEatFbpjYfj CFetYxLVwOeq CVXyUMiJOnaz rcRlNBkDDyY OBVWcitcijU BlvrVOJBxmKH BDZrsDROaGzy BNPrXxSxYKcA CCYdadaeBiQU eNzqiEQtEPS xjWKmTnKMxt CBIYfAfPLYhB BnVafDZyerSK BUcCKNSaJvme ZsSSCdoKGlI CRShdBkqQeeB JRpDxnxxwDz lrvlWKtqcrv BzSdkEbSLNLK UGdgoXzZMxV OTZFNLkubV ocyPbFbSeSr UorOWMgXqei BpFOgSXdgSMS LtoGXmAmjbd BPTaNoKRhHtx BTmpxOYNhpRd fhZRtVZVcsH BAOCIlLLFiRu kbLbMHbuLxT BkSWhlrXpTyS FCFIWJAQOHS qKCCuqwWGrb CAtYNKCbjhrC CItyFFOLYEbO COvfvtwbZlUj PylkFRhlxGf BryBOsenrcCp wbrAoteswla BgqTaSEtSgoH ToSjqtXprpy BkBgjMUjiotc jsURpRzeBZl BuenmePXoHNg BwaBdvinVQJU VPdgzjklr wljfeCPoPDb BkKjnUNzufkO esmpmDtxxoQ BJBVHOynLFAy BlcwNyIWYcKr BvHVptVvjcuB BLZYJBgiUnkR VtQeTYrqDIa SYQLrZskygN CBIXfpNyNoAQ CVPHlSYudClX CWgwvbQuKOVa BeFZpQfLmvdM BbKyWouFRwcC wpibmyJtpHr ByEyTbxATpfu ERJzdWeQiuW BizYaCVifyo BKLEIMicjLJf SPEsbSzgStM BsNcTVAMiDAF LpQKCwtlKpi JzZtQVwdUgn OIkjUpyQUSa CGrDpygxeJcM BhSpNprnNmtH lXxIPmYvKyp COVarolXLBjd BjErMvxvtVBc CJgartWNCieh vKTqMJEYXdE oCIGNDkCqoD BbvarUIGgmXb dHwERFahjmh BaokwaYZjfqB BoxAKruLoWih rthetoLiTUh ggxsOiaDYnZ CISYRoFeIOhV CPDzAtqYdlHJ CLbzCoIyUQNE BVpJWxcvCWkQ fxKPURXonfX BZmvYsFkQYri BhyTTfyxZcNg CCsrDdbXZUFd BInUWmnxMbzX CKJuKkvWyAlj ioJjaHBqrKi BYEPRLWtLcgI CTaottacxGca BZJaTmtJFzCB XWIQoLTgOum CNhskaBZsbvJ BLzudzmVUEpE BTNeLtGDqBOB SEZAwUfKkWd BxLICVxrUwOh GRPClCkEyCj CBAtYzqaTauq FdSattVZLZt BhskcsqGAiJg LTuYPzLSuDu BqoYpGHmPlWp KtGlbZiAZLX BHyHIoeSzAJq UyCIEZfltKy BRMuivjfpPEY CEWeLseLGyOS tzSdtOSQkRb CCwOZfjOdyVy BeJcECnCMUwi CBtKZdeccbnf CFCgYNPeZwfx esjLmdLjVxx CUWvxefmFdI BnIXlgvYYtqx BJpAMIjfoYef OvgqOdAdlef gngIfZUubON BDJFbWFSUyLg HHNPCOhxyri BRSdreEXXHpN CMjxTonrZUpy CVKWvNqZWnKU BoEAVTztZyZm BJKxcbWhEVbn jRWPDTWGqPv soneAcFzMU jtHEdGlLaMZ CHPtrhVPYrfp CEfCySoieWHI BqagdIMjpTsy BHTwcAUiIAQU UeVnqQtLsrI LoEiSPSIyCm XkmpdjWCBII DTqmkhyYoDE NePKEMpjwzD BnYIpKJBVwRm CUZHxwSFVKlW BOtkGUXuuohh VPSoNHvOiUK CIgzpRldemQj CHFrkpfJedEF BCklkNLyBIXq COaVSxwAEYWR ivKdSfUFYoh VvvbeunUTTu BjfGWTZydQds BzGNKqibYAsT FDdhBZfHKWu BeOFbeqDFeqI TdoTUXhbeny CNSPPIYesFfz BnMTbRqbuFdL BOCOBkXCisws tblcrxFzIRU CXTuEourHWXJ ISfdKdqFVUP cBCaOhpNohK BkjdUmkFhIdZ BkECxubSgcMH YBNlDBdQNHq BYNFRmlupioy zgGpKnscwHA CIFFdYqtJmBx CDWRSRVafCvy BcQBprjsNWCj BhQKnedfVSyv CUYLWnHDiEIF BLWfYFkvmZyT CMRLqZmOntUn BpdeISwVZxwo gIFvxaGjfvl iGlbwrWWLSm yLmMCZLRWrE xMJfgZJXEbT lnCLljAUthc CVGHQwWtwmya gwbMIbsspr BYvCVvTBrtEm JkSHztnaYzy BaTsuAuuOctM CTFQTTKEXRof QAmuUdiieJA vNbjoJJRFTg BWwPexxbTPJG BmYdNCIkWQTh CCcnOVXqZtNh GzENylkkKjl qipnFGqAVNZ COOnJELtNoI BxMDioPVqyCN FzOXDvJhwKi CDKCQrAblEAU CWMOqktgoLhW CIlFaToJeDGi CBPXlbEKNAfy yApuyizgrrp dAKRhvUgiXm CTGQRIwkealV BoKdmuFtocOB BEcgVFEdOedx CNySEPnxkAbW BSRxHqGkwlew BKWhGZINJqrZ CAJPWxbzEKRa motmkZUTHPK BVrzyOVNQStn BiaWFYlHoXnU anjnSsQWtJR CSaUIvLpUFtA CRLzomKSAcFq WIHPisxVYux BCEdwJeKVbaV BhdnsGWzsVsy OuxBKVkfISF BNNeMKKOsOpG BpRVrMWWZCot BYhMUcPbSMKf QPDCelnYuAs qpYXFQmTvdg WdnFrUVGIgb BTEKcIXRemlB FVhThOJnIYr tuRhjeKsBaW CEhCFkzizsJU CVFFKYzCtYQg BFtorLtUpSHl BijdsdSRTSqn VLpGyYmDYCy ooccXqKtwjG CWDBerIMXMEH CKLzXZzIWuXU CPVMRtEbFEHW SpoLARTpBht CWsHCHsQUvux BMELIhWpwIfW ZSwNGPLJqRH BhEwiANPZIaO ldAmOAQqQCF BzCOmNhshHvc ZkWHXmvMXWt cccWHEgqeKw XCpfyLxFgfA BcSAeJGmixHM wsUgpRbAvoC BRZasojvTpVL BGMcRwYvJOrG BaWKDSGvXlcT BhspLlzMwIMu BhoVZUATKcEK rYQbbGuEmVD CPIEaByumetZ BdLcbyGUMJTE BCkRPloJPgyD CQEMkFhavbXb XCYLZglrWSd BfHBqRzDAaHb CIVfoVeguKnx CPdNZbYRrXsh BmRTNvbmPqmW BncuibaNuCAT wMSUYbNFoWQ CJXGTtXMakTG CHSulYmTWNOu YLaJBhobeWX BJHcfMSUYmOq ODCmYZEdFbi BOkzeGwnrVaZ BYIebEGgQpIT JWuFMmJWcSu CFYiCpIHTDX CHSIqYKdiRMm BOUPZJAMFVFg BWYFitqldQlH CFVAIRXGHMrX gXVnGqONYSC CPleRTKWJmwO BsmzlKockTZO BoxUMBpCleZM BaXSOqDxRCNW BUTFtkVdkPbB BzzfHTPQSfSK BTssVLAAbfDv TchlvyMPyID CQcOYelvucgo vttRanaQiqC fiITqPkhbBK BYdURJmRKTnh BCuZwjmdSsSg BvzpUcskCRQQ pOTxQnOONoB BcvpMqHvHTFA BcmLTWXuhQrn mPtPUjvpBIm CAyUrMqtsDCv CLBONClswWIv BWEVUwNADgfF BsAEfanwLMwb PBVyURvVoCE BgEtNqOZkBCr BMfNJnYwTEjH CNvZugmJhrEC vlgUadLIJrH BFsHPvwXxSdM BZcUqpGOvcH BtgLSEBgucTi BcKlkAXaSrgp slcejXbnJsI PgyxNzhmQZX BbHKHUoYbBTR mIuLEntBGpT CIfxcmwvRtVl ZTQdnOTRUzJ CXRVuBHBrfvB QAkefTdLSym HjyjndrBKSH BUxImTtyoakO HsDueBwlQNU BsdrnrPoEFXE BJEmxJdCKdeg gMJDsVMUlQA VCkgAbxgZvr mEdoCKIAGez dmyQWhmxCeL BtGZcBFShnDq CBXVKVHYFFtx nwrwbMCkstp BeXjobQPAfRB CJdaOPLxxYZE BQeNtLndxbvP xnyCaSWFUdr BMQKoooaqeKv tOrrQoUzFRd YLxcRUvklhE BNqFakgPWWGd rePUXjEDcxO BbqoJHbzhVFj BxbhDAKHjBfb kkEuOsLeCCN QpvobgKqWYs CRdnkXhpGTpr CNSAXiKFvEUf ykpbHooPhCQ BjHCRViCWhyR zJMKXRAgyxr mLbGQsUCtYI zVswRWWCfWa wzbcBuwCzui NnmMxrsrIwI CIYdvyNiVoiu BwzZcjjiAfPN yutguBElGVS BQxJalBNZaBI BjHdPUOkEbQC tEfJfPAREZZ kvvXBLewDWG BupzeKaDyaXG XrBrBYMmjmE BxIbMdEwlNuw EgMxGKQaLML COdiuSAeUkYA CUphYnuvuRms KaKDRqtafTc JMGMhCtQsqM CIXKENuIfCzH CAumsyJgprxu CHKxuhhhIfAr CDkCHrzYBShh zEbyXsFWiPV CLyijZvItIBJ nmLthLvogge pKOvSBpiIzv MFTxmStmwcv GxrsJlIcBil CHffufipjvjr BNKOZluSfecH OzWPadymzjZ BVLfFWQRCdiV TQxthBqhdpp YlGjGlaZDHM BqUGeDaCcola GiuWmWipVgM ZGVyEFxNpeE
end PySem.W.Fast
open PySem PySem.W PyProof.Rows
local macro_rules|`(tactic|left)=>`(tactic|(refine' Law.uC5 ?a ?b ?c ?d; (case a => k_is); (case b => k_is); (case c => k_is); (case d => k_is)))
local macro_rules|`(tactic|right)=>`(tactic|(refine' Law.uC4 ?a ?b ?c ?d ?e; (case a => k_is); (case b => k_is); (case c => k_is); (case d => k_is); (case e => k_is)))
set_option maxHeartbeats 0 in
theorem PySem.Challenge.cw_nolitter_k51_steps_told_ahead_holds : PySem.Challenge.rw_nolitter_k51_steps_told_ahead.Holds := by
 w_on; o_law; k_head; (case hw => w_witness2)
 k_fill
 refine Law.walk (l := PySem.Challenge.rw_nolitter_k51_steps_told_ahead) rfl rfl (fun w h Y => PySem.W.kIn_of Y) ?L ?F
 case L => exact fun w => rfl
 case F =>
  intro w mg fa h KX G RE
  refine' Law.CU KX G ..
  all_goals try (refine @id (_ : Prop) ?_; first | left | right | k_is | exact rfl)
