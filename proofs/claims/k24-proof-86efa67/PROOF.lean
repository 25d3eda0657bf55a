import PyProof.Rows.All
import Wide.All
import OpenK.AllK
import Wide.FinOn
import Lean
import PyProof.EqAt
import PyProof.EqKinds
import PyProof.TupleCall
import PyProof.NeKinds
import PyProof.Rows.SeqMore
import PyProof.FactsAll.tuple_2
import KE.KDictOf
import PyProof.ExcInit
import PyProof.ExcClass3
import PyProof.NsDelKeeps
import PyProof.RulesAs
import PyProof.Rows.CountFlat
import PyProof.AutoListH
import KE.KIntText
import PyProof.Rows.CatFin
import PyProof.Rows.Range3
import PyProof.Rows.CallKwBuiltin
import PyProof.NoPylong
import PyProof.EnumMake
import PyProof.Draws
import PyProof.DictWalks
import PyProof.DictUpdate
import PySem.Challenge.RW_nolitter_k24_whole_any_pieces_woven
set_option Elab.async false
set_option linter.all false
set_option maxRecDepth 100000
set_option maxHeartbeats 4000000
local macro_rules | `(tactic| decide) => `(tactic| decide +kernel)
open And renaming intro->C60
open Array renaming getElem?_toList->W6,length_toList->A20,getElem?_eq_getElem->A41,size_append->A42,toList_append->B10,append_assoc->B16,forIn_toList->B22,toList->C11
open Bool renaming false_ne_true->C7,and_eq_true->L7,false_or->N7,or_false->P9,true_or->Q7,or_true->R0,false_eq_true->V7,eq_iff_iff->W1,and_true->B12
open False renaming elim->P0
open ForInStep renaming yield->Q4
open Int renaming fdiv_eq_ediv_of_nonneg->R5,toNat_natCast->T7,mul_le_mul_of_nonneg_left->V4,emod_lt_of_pos->V8,emod_nonneg->Y3,natCast_pow->Y5,natCast_emod->Z8,fmod_eq_emod_of_nonneg->A32,eq_ofNat_of_zero_le->A59,le_of_lt->A71,natCast_add->A91,ediv_nonneg->A93,mul_one->A96,one_mul->A98,mul_add->A99,ofNat_sub->C07,mul_comm->C14,ne_of_gt->C15,mul_sub->C29,neg_mul->C30
open List renaming length_append->B0,length_map->B5,getElem?_eq_getElem->B6,length_cons->C0,replicate->C2,mem_cons_of_mem->C6,map_cons->C8,mem_cons->D1,map_append->D2,size_toArray->D3,mem_cons_self->D7,mem_singleton->D9,append_assoc->E1,lookup_cons->E7,getElem?_append_left->E9,getElem?_append_right->F0,eq_nil_of_length_eq_zero->F4,getElem?_map->F6,append_nil->F7,nil_append->F8,lookup->I0,length_set->J0,length->J1,cons_append->J2,mem_of_getElem?->J5,range->J6,getElem?_eq_some_iff->J7,length_replicate->J9,mem_append->K2,mem_append_right->K6,getElem?_eq_none->K9,mapM_cons->L0,getD_eq_getElem?_getD->L4,not_mem_nil->L8,replicate_succ->M4,nodup_cons->M8,lookup_nil->M9,all_eq_true->N0,mem_or_eq_of_mem_set->N1,length_range->N5,find?_cons->O2,zip_cons_cons->O5,any_cons->O8,mem_range->O9,mem_map->P1,map_congr_left->P6,getElem_mem->P7,getElem?_cons_succ->Q1,drop_eq_nil_of_le->Q8,length_singleton->R8,drop_eq_getElem_cons->S8,flatten_cons->T8,replicate_succ'->T9,flatten_replicate_singleton->U0,all_cons->U6,getElem?_replicate->V2,nodup_append->W8,getElem?_zip_eq_some->X6,forIn_cons->Y2,getElem?_set_self->Y9,getElem?_set->Z0,take_of_length_le->Z2,eraseIdxIfInBounds_toArray->Z4,length_take->Z6,mem_append_left->A02,getElem?_set_ne->A03,mem_iff_getElem->A05,range_succ->A08,filterMap_cons->A17,set_set->A28,forIn_nil->A35,mem_replicate->A37,getElem?_eq_none_iff->A40,getElem?_take_of_lt->A45,set_comm->A47,length_drop->A57,filter_cons_of_neg->A60,filter_cons_of_pos->A61,map_map->A72,length_nil->A81,of_mem_zip->A82,foldl_cons->A84,length_zip->A86,dropLast_eq_take->A95,drop_zero->A97,mem_filterMap->B17,set_cons_zero->B20,set_cons_succ->B23,filter_append->B26,map_replicate->B27,map_nil->B36,map_set->B39,ext_getElem?->B42,filter_cons->B46,zipIdx_cons->B50,nodup_range->B53,mem_filter->B61,zipIdx_nil->B65,filter_nil->B66,foldl->B69,sum_cons->C05,map->C33
open List.Pairwise renaming nil->C51
open List.Perm renaming append_left->C19,refl->C62,swap->C63
open List.cons renaming inj->A48,injEq->A85
open Nat renaming lt_of_lt_of_le->B8,le_refl->B9,lt_of_le_of_lt->C4,le_trans->D4,ne_of_lt->E6,lt_succ_self->F5,le_add_right->K0,add_sub_cancel->K8,le_of_lt->L5,le_succ->M0,zero_le->N4,le_of_ble_eq_true->N6,add_assoc->O0,add_comm->Q0,zero_add->Q9,ne_of_gt->T6,testBit_two_pow->V0,sub_self->V9,lt_irrefl->W2,eq_of_testBit_eq->X1,mod_eq_of_lt->X4,two_pow_pos->Y4,testBit_eq_decide_div_mod_eq->Z3,testBit_zero->Z7,add_lt_add_left->A21,sub_zero->A29,mod_two_eq_zero_or_one->A36,le_of_lt_succ->A43,pow_succ->A73,mod_lt->A75,add_zero->A76,lt_or_ge->A77,testBit_xor->A88,testBit_and->A89,xor_div_two->A90,and_le_left->A92,pow_le_pow_right->B01,and_lt_two_pow->B24,mod_eq_sub_mod->B25,succ_mul->B37,min_self->B38,lt_of_succ_lt->B41,min_eq_right->B49,div_eq_of_lt->B51,and_le_right->B52,min_eq_left->B64,testBit_or->B72,not_lt->B73,add_le_add->B74,le_of_eq->C12,lt_trans->C13,le_total->C16,two_mul->C32
open Nat.succ renaming inj->O4
open Ne renaming symm->D6
open Option renaming map_eq_some_iff->E4,bind_some->X3,bind_eq_some_iff->Y6,map_some->A87,getD_none->B47
open Option.some renaming inj->E2,injEq->C52
open Or renaming inr->B19,inl->B48
open PyProof renaming noPylong_small->A65
open PyProof.Rows renaming callWith_type1->K4,slot_tuple_getitem->U9,AllBare->A44,subscriptTail->B13,callWith_builtin1->B45,IntsAre->B67,Subscript_->B77,assign_Tuple->B90
open PySem renaming wpAny_bind->B4,starEach->C5,wpAny_pure->C9,NameKind->E8,Spec->F3,mainGlobals->F9,compareOp->K1,wpAny_field->K3,binaryOp->K7,attributeBase->L9,keywordEach->M5,wpAny_callSpecial?_slot->M6,wpAny_seqItems->M7,wpAny_holding->O1,wpAny_Call_Name_kw->O6,wpAny_setField_rec->O7,bootBuiltins->P3,wpAny_mono->P4,mem_of_lookup->P5,assignEach->P8,wpAny_newObj_type->Q2,backToKw->Q5,wpAny_call_entry->R4,wpAny_passesOwn->S9,wpAny_truthy_bool->U1,foldedSetIterable->U2,wpAny_pyIter_list->U4,sysModules->U8,wpAny_pyIter_tuple->W0,swapsWith->W5,call_meets->X2,behindInMarks->X9,FuncData->Y0,ZipApart->Y1,getMethod->Y7,sliceBounds->Y8,standAt->A00,codeAny->A01,wpAny_updateSeq_pair->A07,wpAny_execs_nil->A14,letOwnedTupleGo->A16,inplaceOp->A30,callWith->A38,tupleKind_room_in1->A39,wpAny_standAt->A50,wpAny_onRaise->A51,wpAny_attempt->A52,tupleKind->A62,PassesOwn->A63,wpAny_pyIter_zip->A64,codeAny_mono->A78,getItem->A79,wpAny_typeOf->A80,BindsTo->B06,valueAt->B07,callerA->B08,builtinsNs->B28,typeLookup->B29,typeIs_str->B30,wpAny_rule->B31,Within->B33,call_meetsIn->B43,seqIndex_neg->B44,DictEntry->B54,sizeLine_eq->B58,seqIndex_of->B59,wpAny_letGo->B60,call->B70,wpAny_Name->B75,bindArgs->B76,typeIs_int->B78,storeName->C08,cellsFrom->C09,seqIndex?->C10,setItem->C17,compEnvC->C34
open PySem.Around renaming under_plainId->B00,under->B34
open PySem.AutoListH renaming list___mul___list_int_3->B32
open PySem.Builtin renaming bitAnd->V1,bitXor->X0,bitNot->Z1,bitOr->Z9
open PySem.Builtin.Dict renaming updateFrom->A58,pairItems->A74,selfAndRest->C06
open PySem.Builtin.List renaming listTooLong->U7
open PySem.Builtin.Range renaming rangeSize->A53
open PySem.Builtin.Slice renaming slicePlaces->R9,sliceAdjust->X5,sliceApplied->A33,slicePartIndex->B62,sliceFields->B89
open PySem.Builtin.SmallTypes renaming nextOf->J8,ownedTupleIsFree->K5,ownedTupleHandOut->X8
open PySem.Builtin.Str renaming tooLong->X7,glued->C54
open PySem.Builtin.Tuple renaming tupleExact->U5,tupleItemsOf->B68
open PySem.Calls renaming spliced_cons->R6,callWith_builtin->V6,spliced_nil->W7,evalArgs_plain->A04,Name_function_global->A31
open PySem.Challenge renaming pw_nolitter_k24_whole_any_pieces_woven->A09
open PySem.Code renaming isFrame->B35,frames->C23
open PySem.Data renaming cell->B05,fields->B56,seq->C28
open PySem.DictEntry renaming refKey->C56
open PySem.EqMixed renaming eq_bool_str->B82,eq_str_bool->B83,ne_bool_str->B87,ne_str_bool->B88,eq_int_str->B95,eq_str_int->B97,ne_int_str->C01,ne_str_int->C03
open PySem.EqNone renaming eq_none_none->B79,eq_none_bool->B80,eq_bool_none->B81,ne_none_none->B84,ne_none_bool->B85,ne_bool_none->B86,eq_none_int->B92,eq_none_str->B93,eq_int_none->B94,eq_str_none->B96,ne_none_int->B98,ne_none_str->B99,ne_int_none->C00,ne_str_none->C02
open PySem.F renaming plainAttrs_list->V3,slot_dict_get->Z5,args_tuple_add_2->A46,slot_dict_update->A49,args_dict_get_3->A54,plainAttrs_dict->A55,entry_tuple_add->A56,entry_dict_get->A66,slot_tuple_add->A67
open PySem.Heap renaming get?_push_of_some->B7,lt_size->D5,get?_push_size->D8,size_push->L6,SameBut->Q6,get?_update_other->A69,get?_update_self->A94,IsTuple->B40,IsList->B57,ExtBut->C31
open PySem.Heap.DictOf renaming new->C61
open PySem.Heap.IsSliceOf renaming new->C45
open PySem.Heap.SameBut renaming update->B09,refl->C55
open PySem.IsL renaming update->C57
open PySem.IsRange renaming new->C22
open PySem.NameKind renaming free->E5,cell->N8
open PySem.Obj renaming mapSeq->A68,data_mapFields->B21
open PySem.Paired renaming length->B11,snoc->C24
open PySem.PassesOwn renaming never->B63
open PySem.SeqAt renaming EqAt->A70
open PySem.SeqAt.EqAt renaming of_refs->A34,same->A83,int_str->B14,str_int->B15,none_bool->C25,bool_none->C26,bool_bool->C27,none_int->C35,none_str->C36,bool_int->C37,bool_str->C38,int_none->C39,int_bool->C40,str_none->C41,str_bool->C42,int_int->C46,str_str->C47
open PySem.SeqAt.RcAt renaming lists_lengths->C04,tuples->C53,lists->C59
open PySem.SeqAt.RcNeAt renaming lists_lengths->B71,tuples->C43,lists->C49
open PySem.Shared renaming heap->A06
open PySem.Str renaming ofString->C1,empty->W4,length->B18
open PySem.Value renaming ref->J4,none->V5,bool->W9,int->B03,str->B04,float->B55,isStrOf->B91,isInt->C20,bytes->C21,type->C44
open PySem.W renaming OpenLaw->C18
open PySem.W.WData renaming int->C58
open PySem.W.WShape renaming has->C48
open PySem.Within renaming cons->C50
open Sum renaming inr->R7,inl->B02
open True renaming intro->Q3
noncomputable section
namespace L2
open PySem PySem.Spec PyProof.Rows
abbrev Key:=Sum Int Str
def v19:Key->Value->Bool
 | .inl k,v=>C20 k v
 | .inr x,v=>B91 x v
def keyH(w:World):Key->Int
 | .inl k=>hashInt k
 | .inr x=>hashStr w x
theorem u42:∀{k:Key} {v:Value},v19 k v=true->(∃i t,k=B02 i/\v=B03 i t)\/(∃x t,k=R7 x/\v=B04 x t)
 | .inl i,v,h=>by
  obtain⟨t,e⟩:=Value.isInt_shape (k:=i) (v:=v) h;exact .inl ⟨i,t,rfl,e⟩
 | .inr x,v,h=>by
  obtain⟨t,e⟩:=Value.isStrOf_shape (x:=x) (v:=v) h;exact .inr ⟨x,t,rfl,e⟩
theorem v99(i:Int)(t:Tok):v19 (.inl i) (.int i t)=true:=by simp[v19,C20]
theorem v98(x:Str)(t:Tok):v19 (.inr x) (.str x t)=true:=by simp[v19,B91]
theorem wp4(a b:Int):decide ((B02 a:Key)=B02 b)=(a==b):=by
 by_cases e:a=b
 ·subst e;simp
 ·have h:¬ (B02 a:Key)=B02 b:=λq=>e (B02.inj q)
  rw[decide_eq_false h];exact(beq_eq_false_iff_ne.mpr e).symm
theorem wp1(a b:Str):decide ((R7 a:Key)=R7 b)=decide (a=b):=by
 by_cases e:a=b
 ·subst e;simp
 ·have h:¬ (R7 a:Key)=R7 b:=λq=>e (R7.inj q)
  rw[decide_eq_false h,decide_eq_false e]
theorem wp3(a:Int)(b:Str):decide ((B02 a:Key)=R7 b)=false:=decide_eq_false (λq=>nomatch q)
theorem wp2(a:Str)(b:Int):decide ((R7 a:Key)=B02 b)=false:=decide_eq_false (λq=>nomatch q)
def u39(prog:Program)(w:World):PySem.KeyKind prog w Key where
 is:=v19
 hash:=keyH w
 inj:=λv a b ha hb=>by
  rcases u42 ha with⟨i,t,rfl,rfl⟩|⟨x,t,rfl,rfl⟩
  ·rcases u42 hb with⟨j,u,rfl,e⟩|⟨y,u,rfl,e⟩
   ·injection e with e1 _;rw[e1]
   ·exact nomatch e
  ·rcases u42 hb with⟨j,u,rfl,e⟩|⟨y,u,rfl,e⟩
   ·exact nomatch e
   ·injection e with e1 _;rw[e1]
 byValue:=λk v h=>by
  rcases u42 h with⟨i,t,rfl,rfl⟩|⟨x,t,rfl,rfl⟩ <;> rfl
 pyHash:=λhv h=>by
  rcases u42 hv with⟨i,t,rfl,rfl⟩|⟨x,t,rfl,rfl⟩
  ·exact wpAny_pyHash_int h
  ·exact wpAny_pyHash_str h
 eqBool:=λhu hv h=>by
  rcases u42 hu with⟨i,t,rfl,rfl⟩|⟨x,t,rfl,rfl⟩
  ·rcases u42 hv with⟨j,u,rfl,rfl⟩|⟨y,u,rfl,rfl⟩
   ·rw[wp4] at h;exact wpAny_eqBool_int h
   ·rw[wp3] at h;exact B14 i t y u _ _ _ _ h
  ·rcases u42 hv with⟨j,u,rfl,rfl⟩|⟨y,u,rfl,rfl⟩
   ·rw[wp2] at h;exact B15 x t j u _ _ _ _ h
   ·rw[wp1] at h;exact wpAny_eqBool_str h
 «strs»:=λk x t v h=>by
  rcases u42 h with⟨i,u,rfl,e⟩|⟨y,u,rfl,e⟩
  ·exact nomatch e
  ·injection e with e1 _
   subst e1;cases v <;> rfl
theorem ut6(prog:Program)(w:World)(i:Int)(t:Tok):(u39 prog w).is (.inl i) (.int i t)=true:=v99 i t
theorem ut5(prog:Program)(w:World)(x:Str)(t:Tok):(u39 prog w).is (.inr x) (.str x t)=true:=v98 x t
inductive V where
 | non|bl (b:Bool)|int (i:Int)|str (x:Str)|byt (b:Array UInt8)|flt (b:UInt64)|ref (a:Addr)|ty (n:String)
 deriving DecidableEq
def RelV:V->Value->Prop
 | .non,u=>u=V5
 | .bl b,u=>u=W9 b
 | .int i,u=>∃t,u=B03 i t
 | .str x,u=>∃t,u=B04 x t
 | .byt b,u=>∃t,u=C21 b t
 | .flt b,u=>∃t,u=B55 b t
 | .ref a,u=>u=J4 a
 | .ty n,u=>u=C44 n
abbrev Vals:List V->List Value->Prop:=Paired RelV
theorem Vals.length{xs:List V}{us:List Value}(r:Vals xs us):xs.length=us.length:=B11 r
theorem Vals.get:∀{xs:List V} {us:List Value} {i:Nat} {x:V},Vals xs us->xs[i]?=some x->∃u,us[i]?=some u/\RelV x u
 | _,_,_,_,.nil,e=>by simp at e
 | _,_,0,_,.cons r _,e=>by simp at e;subst e;exact⟨_,rfl,r⟩
 | _,_,i+1,x,.cons _ t,e=>by
  obtain⟨u,h1,h2⟩:=Vals.get (i:=i) (x:=x) t (by simpa using e);exact⟨u,by simpa using h1,h2⟩
theorem Vals.set{x:V}{u:Value}(r:RelV x u):∀{xs:List V} {us:List Value} (i:Nat),Vals xs us->Vals (xs.set i x) (us.set i u)
 | _,_,_,.nil=>.nil
 | _,_,0,.cons _ t=>.cons r t
 | _,_,i+1,.cons q t=>.cons q (Vals.set r i t)
theorem Vals.append:∀{xs ys:List V} {us ws:List Value},Vals xs us->Vals ys ws->Vals (xs++ys) (us++ws)
 | _,_,_,_,.nil,s=>s
 | _,_,_,_,.cons r t,s=>.cons r (Vals.append t s)
theorem Vals.take:∀{xs:List V} {us:List Value} (n:Nat),Vals xs us->Vals (xs.take n) (us.take n)
 | _,_,0,_=>.nil
 | _,_,_+1,.nil=>.nil
 | _,_,n+1,.cons r t=>.cons r (Vals.take n t)
theorem Vals.drop:∀{xs:List V} {us:List Value} (n:Nat),Vals xs us->Vals (xs.drop n) (us.drop n)
 | _,_,0,r=>r
 | _,_,_+1,.nil=>.nil
 | _,_,n+1,.cons _ t=>Vals.drop n t
theorem Vals.none_of:∀{xs:List V} {us:List Value} {i:Nat},Vals xs us->xs[i]?=none->us[i]?=none:=λ{xs us i} r e=>by
 have h1:=r.length;have h2:xs.length<=i:=A40.mp e;exact A40.mpr (by omega)
def RelO:Option V->Option Value->Prop
 | some v,some u=>RelV v u
 | none,none=>True
 | _,_=>False
def KV{κ:Type}:List (κ×V)->List (κ×Value)->Prop:=Paired λ(p:κ×V) (q:κ×Value)=>p.1=q.1/\RelV p.2 q.2
def kV:Key->V
 | .inl i=>.int i
 | .inr x=>.str x
inductive HO where
 | lst (xs:List V)
 | tup (xs:List V)
 | dK (kvs:List (Key×V))|dT (kvs:List (List Key×V))
 | set (S:Int->Bool) (n:Nat)
 | ins (C dx:Addr) (fs:List (Str×V))
 | own (x:Addr)
 | xd (fs:List (Str×V))
 | met (f x:Addr)
 | rng (lo hi:Int)
 | frz (o:Obj) (u:HO)
 | tbl (ps:Array Value)
 | ext (φ:Heap->Prop)
abbrev Hp:=Addr->Option HO
def upd(H:Hp)(a:Addr)(o:HO):Hp:=λb=>if b=a then some o else H b
theorem u30{H:Hp}{a:Addr}{o:HO}:upd H a o a=some o:=by unfold upd;rw[if_pos rfl]
theorem u22{H:Hp}{a b:Addr}{o:HO}(h:b≠a):upd H a o b=H b:=by unfold upd;rw[if_neg h]
theorem x22{H:Hp}{a b:Addr}{o u:HO}(h:H a=some o)(h':H b=some u)(d:o≠u):a≠b:=by
 intro e;subst e;rw[h] at h';exact d (E2 h')
theorem u55{H:Hp}{a b:Addr}{o:HO}(h:H a=some o)(h':H b=none):a≠b:=by
 intro e;subst e;rw[h] at h';cases h'
section
variable(P:Program)(w:World)
def TupD(h:Heap)(a:Addr)(its:Array Value):Prop:=∃o,h.get? a=some o/\o.cls=.type "tuple" /\ (∃n,o.data=.seq its n)/\o.dict=none
theorem TupD.tup{h:Heap}{a:Addr}{its:Array Value}(x:TupD h a its):IsTup h a its:=let ⟨o,e,c,d,_⟩:=x;⟨o,e,c,d⟩
theorem TupD.new(h:Heap)(its:Array Value):TupD (h.push { cls:=.type "tuple",data:=.seq its}) h.objs.size its:=⟨_,D8 _ rfl,rfl,⟨_,rfl⟩,rfl⟩
def ObjOk(H:Hp)(h:Heap)(a:Addr):HO->Prop
 | .lst xs=>xs.length<=sizeLine/\∃(its:List Value) (n:Nat),Vals xs its/\h.get? a=some { cls:=.type "list",data:=.seq its.toArray n}
 | .tup xs=>xs.length<=sizeLine/\∃its:List Value,Vals xs its/\TupD h a its.toArray
 | .dK kvs=>kvs.length<=sizeLine/\(a==U8)=false/\∃vs,KV kvs vs/\h.DictOf (u39 P w) a vs
 | .dT kvs=>kvs.length<=sizeLine/\(a==U8)=false/\∃xs:List (List Key×Addr×Value),
   Paired (λ(p:List Key×V) (q:List Key×Addr×Value)=>p.1=q.1/\H q.2.1=some (.tup (p.1.map kV))/\RelV p.2 q.2.2) kvs xs /\
   ∃o es ep,h.get? a=some o/\o.ExactDict/\o.data=.dict es ep/\es.toList=xs.map (entryOfKey (A62 (u39 P w)))/\(xs.map (·.1)).Nodup
 | .set S n=>h.SetOf (intKind P w) a S n
 | .ins C dx fs=>H dx=some (.own a)/\fs.length<=1000/\dx≠a/\h.get? a=some (W.instObj C dx) /\
   ∃mA,h.Ns1 dx mA/\(∀f,RelO (fs.lookup f) (mA f))/\B33 mA (fs.map (·.1))
 | .own _=>∃o,h.get? a=some o
 | .xd fs=>∃mA,h.Ns1 a mA/\∀f,RelO (fs.lookup f) (mA f)
 | .rng lo hi=>∃t u v,h.get? a=some { cls:=.type "range",data:=.fields #[.int lo t,.int hi u,.int 1 v]}
 | .frz o u=>h.get? a=some o/\ObjOk H h a u
 | .tbl ps=>h.get? a=some { cls:=.none,data:=.fields ps}
 | .met f x=>h.get? a=some (W.methodObj (.ref f) (.ref x))
 | .ext φ=>φ h/\(∃o,h.get? a=some o)/\∀h1 h2:Heap,φ h1->(∀o,h1.get? a=some o->h2.get? a=some o)->φ h2
def HOk(H:Hp)(h:Heap):Prop:=∀a o,H a=some o->ObjOk P w H h a o
end
section
variable{P:Program}{w:World}{H H':Hp}{h h':Heap}{a:Addr}{o:HO}
theorem ObjOk.lt(x:ObjOk P w H h a o):a<h.objs.size:=by
 cases o with
 | lst xs=>obtain⟨_,_,_,_,e⟩:=x;exact D5 e
 | tup xs=>obtain⟨_,_,_,p⟩:=x;exact p.tup.lt
 | dK kvs=>obtain⟨_,_,_,_,o,_,_,e,_⟩:=x;exact D5 e
 | dT kvs=>obtain⟨_,_,_,_,o,_,_,e,_⟩:=x;exact D5 e
 | set S n=>obtain⟨o,_,_,_,e,_⟩:=x;exact D5 e
 | ins C dx fs=>obtain⟨_,_,_,e,_⟩:=x;exact D5 e
 | own y=>obtain⟨_,e⟩:=x;exact D5 e
 | xd fs=>obtain⟨_,⟨_,_,_,e,_⟩,_⟩:=x;exact D5 e
 | rng lo hi=>obtain⟨_,_,_,e⟩:=x;exact D5 e
 | frz ob u=>obtain⟨e,_⟩:=x;exact D5 e
 | tbl ps=>exact D5 (show h.get? a=some _ from x)
 | met f y=>exact D5 (show h.get? a=some _ from x)
 | ext φ=>obtain⟨_,⟨_,e⟩,_⟩:=x;exact D5 e
theorem Paired.mapP{α β:Type}{F G:α->β->Prop}:∀{l₁:List α} {l₂:List β},Paired F l₁ l₂->(∀a b,F a b->G a b)->Paired G l₁ l₂
 | _,_,.nil,_=>.nil
 | _,_,.cons r t,f=>.cons (f _ _ r) (Paired.mapP t f)
theorem ObjOk.stay(x:ObjOk P w H h a o)(k:∀b u,(b=a\/H b=some (.own a))->h.get? b=some u->h'.get? b=some u)
  (ho:∀b,H b=some (.own a)->H' b=some (.own a)) (ht:∀b xs,H b=some (.tup xs)->H' b=some (.tup xs)):ObjOk P w H' h' a o:=by
 induction o with
 | lst xs=>obtain⟨z,its,n,r,e⟩:=x;exact⟨z,its,n,r,k _ _ (.inl rfl) e⟩
 | tup xs=>obtain⟨z,its,r,ob,e,c⟩:=x;exact⟨z,its,r,ob,k _ _ (.inl rfl) e,c⟩
 | dK kvs=>obtain⟨z,y,vs,r,ob,es,ep,e,c⟩:=x;exact⟨z,y,vs,r,ob,es,ep,k _ _ (.inl rfl) e,c⟩
 | dT kvs =>
  obtain⟨z,y,xs,r,ob,es,ep,e,c⟩:=x;exact⟨z,y,xs,Paired.mapP r λp q z=>⟨z.1,ht _ _ z.2.1,z.2.2⟩,ob,es,ep,k _ _ (.inl rfl) e,c⟩
 | set S n=>obtain⟨ob,es,ep,t,e,c⟩:=x;exact⟨ob,es,ep,t,k _ _ (.inl rfl) e,c⟩
 | ins C dx fs =>
  obtain⟨d,z,ne,e,mA,⟨od,es,ep,e2,c⟩,r⟩:=x;exact⟨ho _ d,z,ne,k _ _ (.inl rfl) e,mA,⟨od,es,ep,k _ _ (.inr d) e2,c⟩,r⟩
 | own y=>obtain⟨ob,e⟩:=x;exact⟨ob,k _ _ (.inl rfl) e⟩
 | xd fs=>obtain⟨mA,⟨od,es,ep,e,c⟩,r⟩:=x;exact⟨mA,⟨od,es,ep,k _ _ (.inl rfl) e,c⟩,r⟩
 | rng lo hi=>obtain⟨t,u,v,e⟩:=x;exact⟨t,u,v,k _ _ (.inl rfl) e⟩
 | frz ob u ih=>obtain⟨e,q⟩:=x;exact⟨k _ _ (.inl rfl) e,ih q⟩
 | tbl ps =>
  have e:h.get? a=some { cls:=.none,data:=.fields ps}:=x
  show h'.get? a=some { cls:=.none,data:=.fields ps}
  exact k a _ (.inl rfl) e
 | met f y =>
  have e:h.get? a=some (W.methodObj (.ref f) (.ref y)):=x
  show h'.get? a=some (W.methodObj (.ref f) (.ref y))
  exact k a _ (.inl rfl) e
 | ext φ=>obtain⟨p,⟨o,e⟩,st⟩:=x;exact⟨st _ _ p λo q=>k _ _ (.inl rfl) q,⟨o,k _ _ (.inl rfl) e⟩,st⟩
theorem HOk.lt(x:HOk P w H h)(e:H a=some o):a<h.objs.size:=(x a o e).lt
theorem HOk.fresh(x:HOk P w H h)(e:h.objs.size<=a):H a=none:=by
 cases q:H a with
 | none=>rfl
 | some u=>exact absurd (B8 (x.lt q) e) (W2 _)
theorem HOk.kept(x:HOk P w H h)(k:∀b u,h.get? b=some u->h'.get? b=some u):HOk P w H h':=λa o e =>
 (x a o e).stay (λb u _ q=>k b u q) (λ_ q=>q) λ_ _ q=>q
theorem HOk.laid(x:HOk P w H h)(k:∀b u,h.get? b=some u->h'.get? b=some u)(hp:h.objs.size<=a)(new:ObjOk P w (upd H a o) h' a o):HOk P w (upd H a o) h':=λb u e=>by
 have hn:=x.fresh hp
 by_cases hb:b=a
 ·subst hb;rw[u30] at e;cases e;exact new
 ·rw[u22 hb] at e
  exact(x b u e).stay (λc v _ q=>k c v q) (λc q=>by rw[u22 (u55 q hn)];exact q) λc xs q=>by rw[u22 (u55 q hn)];exact q
end
def Rd(H:Hp)(a:Addr)(u:HO):Prop:=H a=some u\/∃o,H a=some (.frz o u)
theorem Rd.of{H:Hp}{a:Addr}{u:HO}(h:H a=some u):Rd H a u:=.inl h
theorem Rd.ok{P:Program}{w:World}{H:Hp}{h:Heap}{a:Addr}{u:HO}(r:Rd H a u)(x:HOk P w H h):ObjOk P w H h a u:=by
 rcases r with r|⟨o,r⟩
 ·exact x a u r
 ·obtain⟨_,q⟩:=x a _ r
  exact q
def Mut:Option HO->Prop
 | some (.lst _)=>True
 | some (.dK _)=>True
 | some (.dT _)=>True
 | some (.set _ _)=>True
 | some (.ins _ _ _)=>True
 | some (.ext _)=>True
 | _=>False
section
variable{P:Program}{w:World}{H:Hp}{h h':Heap}{x e:Addr}{o':HO}
theorem HOk.write(ok:HOk P w H h)(mu:Mut (H x))(he:e=x\/H e=some (.own x))(k:∀b u,b≠e->h.get? b=some u->h'.get? b=some u)(heo:∃u,h'.get? e=some u)
  (new:ObjOk P w (upd H x o') h' x o'):HOk P w (upd H x o') h':=λb u q=>by
 have nown:∀c y,H c=some (.own y)->c≠x:=λc y r z=>by subst z;rw[r] at mu;exact mu
 have ntup:∀c xs,H c=some (.tup xs)->c≠x:=λc xs r z=>by subst z;rw[r] at mu;exact mu
 by_cases hb:b=x
 ·subst hb;rw[u30] at q;cases q;exact new
 ·rw[u22 hb] at q
  by_cases hbe:b=e
  ·have q':H b=some (.own x):=by
    rcases he with z|z
    ·exact absurd (hbe.trans z) hb
    ·rw[hbe];exact z
   rw[q] at q';cases q';obtain⟨v,hv⟩:=heo;exact⟨v,by rw[hbe];exact hv⟩
  ·refine(ok b u q).stay (λc v hc r=>k c v ?_ r) (λc r=>by rw[u22 (nown c b r)];exact r) λc xs r=>by rw[u22 (ntup c xs r)];exact r
   rcases hc with rfl|hc
   ·exact hbe
   ·rintro rfl
    rcases he with z|z
    ·exact nown c b hc z
    ·rw[hc] at z;cases z;exact hb rfl
end
def NK:={ u:HO // ∀ys,u≠.dK ys}
structure Un(fs ex:List Addr)(H H':Hp)(h h':Heap):Prop where
 keep:∀b o,h.get? b=some o->H b=none->b∉fs->b∉ex->h'.get? b=some o
 slot:∀b o,h.get? b=some o->H b=none->b∈fs->b∉ex->∃sl,h'.get? b=some { o with slots:=sl}
 free:∀b o,h.get? b=some o->H b=none->b∉ex->H' b=none
 there:∀b o,h.get? b=some o->b∉ex->∃o',h'.get? b=some o'
 tups:∀b xs,H b=some (.tup xs)->H' b=some (.tup xs)
 frzs:∀b o (u:NK),H b=some (.frz o u.1)->H' b=some (.frz o u.1)
 tbls:∀b ps,H b=some (.tbl ps)->∃more,H' b=some (.tbl (ps++more))
section
variable{fs fs' ex ex':List Addr}{H H1 H2:Hp}{h h1 h2 h':Heap}{a x e:Addr}{o:HO}
theorem Un.any(u:Un fs ex H H1 h h1){b:Addr}{ob:Obj}(q:h.get? b=some ob)(n:H b=none)(hx:b∉ex):∃sl,h1.get? b=some { ob with slots:=sl}:=by
 by_cases hb:b∈fs
 ·exact u.slot b ob q n hb hx
 ·exact⟨ob.slots,u.keep b ob q n hb hx⟩
theorem Un.trans(a:Un fs ex H H1 h h1)(b:Un fs ex H1 H2 h1 h2):Un fs ex H H2 h h2 where
 keep:=λc ob q n hc hx=>b.keep c ob (a.keep c ob q n hc hx) (a.free c ob q n hx) hc hx
 slot:=λc ob q n hc hx=>by
  obtain⟨sl,e1⟩:=a.slot c ob q n hc hx;obtain⟨sl',e2⟩:=b.slot c _ e1 (a.free c ob q n hx) hc hx;exact⟨sl',e2⟩
 free:=λc ob q n hx=>by
  obtain⟨o',e1⟩:=a.there c ob q hx;exact b.free c o' e1 (a.free c ob q n hx) hx
 there:=λc ob q hx=>by
  obtain⟨o',e1⟩:=a.there c ob q hx;exact b.there c o' e1 hx
 tups:=λc xs q=>b.tups c xs (a.tups c xs q)
 frzs:=λc ob xs q=>b.frzs c ob xs (a.frzs c ob xs q)
 tbls:=λc ps q=>by
  obtain⟨m1,e1⟩:=a.tbls c ps q;obtain⟨m2,e2⟩:=b.tbls c _ e1;exact⟨m1++m2,by rw[e2,B16]⟩
theorem Un.kept(k:∀b u,h.get? b=some u->h'.get? b=some u):Un fs ex H H h h' :=
 ⟨λb ob q _ _ _=>k b ob q,λb ob q _ _ _=>⟨ob.slots,k b ob q⟩,λ_ _ _ n _=>n,λb ob q _=>⟨ob,k b ob q⟩,λ_ _ q=>q,λ_ _ _ q=>q,λ_ ps q=>⟨#[],by rw[q];simp⟩⟩
theorem Un.refl:Un fs ex H H h h:=Un.kept λ_ _ q=>q
theorem Un.laid(k:∀b u,h.get? b=some u->h'.get? b=some u)(hp:h.objs.size<=a)(hn:H a=none):Un fs ex H (upd H a o) h h' where
 keep:=λb u q _ _ _=>k b u q
 slot:=λb u q _ _ _=>⟨u.slots,k b u q⟩
 free:=λb u q n _=>by rw[u22 (E6 (B8 (D5 q) hp))];exact n
 there:=λb u q _=>⟨u,k b u q⟩
 tups:=λb xs q=>by rw[u22 (u55 q hn)];exact q
 frzs:=λb u xs q=>by rw[u22 (u55 q hn)];exact q
 tbls:=λb ps q=>⟨#[],by rw[u22 (u55 q hn),q];simp⟩
theorem Un.write(mu:Mut (H x))(he:e=x\/H e=some (.own x))(k:∀b u,b≠e->h.get? b=some u->h'.get? b=some u)(heo:∃u,h'.get? e=some u):Un fs ex H (upd H x o) h h':=by
 have hx:∀b,H b=none->b≠x:=λb n z=>by subst z;rw[n] at mu;exact mu
 have hb:∀b,H b=none->b≠e:=λb n z=>by
  subst z
  rcases he with r|r
  ·exact hx b n r
  ·rw[n] at r;cases r
 have hm:∀b u,H b=some u->¬ Mut (some u)->b≠x:=λb u q nm z=>by subst z;rw[q] at mu;exact nm mu
 refine⟨λb u q n _ _=>k b u (hb b n) q,λb u q n _ _=>⟨u.slots,k b u (hb b n) q⟩,λb u q n _=>by rw[u22 (hx b n)];exact n,λb u q _=>?_,
  λb xs q=>by rw[u22 (hm b _ q λz=>z)];exact q,λb u xs q=>by rw[u22 (hm b _ q λz=>z)];exact q,λb ps q=>⟨#[],by rw[u22 (hm b _ q λz=>z),q];simp⟩⟩
 by_cases hbe:b=e
 ·subst hbe;exact heo
 ·exact⟨u,k b u hbe q⟩
theorem Un.mono(u:Un fs ex H H1 h h1)(hs:∀b∈fs,b∈fs')(hx:∀b∈ex,b∈ex'):Un fs' ex' H H1 h h1 :=
 ⟨λb ob q n hb he=>u.keep b ob q n (λz=>hb (hs b z)) λz=>he (hx b z),λ_ _ q n _ he=>u.any q n λz=>he (hx _ z),λb ob q n he=>u.free b ob q n λz=>he (hx b z),λb ob q he=>u.there b ob q λz=>he (hx b z),u.tups,u.frzs,u.tbls⟩
end
def trk(h:Heap)(H:Hp):List Addr:=(J6 h.objs.size).filter λa=>(H a).isSome
def hidT(h:Heap)(H:Hp):Heap:=W.hideAll h (trk h H)
theorem va6(h:Heap)(H:Hp):(hidT h H).objs.size=h.objs.size:=W.hideAll_size _ _
theorem vl5{h:Heap}{H:Hp}{b:Addr}{o:Obj}(e:h.get? b=some o)(n:H b=none):(hidT h H).get? b=some o :=
 W.hideAll_get _ e λhm=>by
  have q:(H b).isSome=true:=(B61.mp hm).2;rw[n] at q;simp at q
theorem w34{h:Heap}{H:Hp}{b:Addr}{o:Obj}(e:(hidT h H).get? b=some o):h.get? b=some o/\H b=none:=by
 have e':h.get? b=some o:=W.of_hideAll (trk h H) e;refine⟨e',?_⟩;cases q:H b with
 | none=>rfl
 | some x =>
  have hm:b∈trk h H:=B61.mpr ⟨O9.mpr (D5 e'),by simp[q]⟩;have z:(hidT h H).get? b=none:=W.hideAll_none (trk h H) hm;rw[z] at e;cases e
def w87(g h:Heap)(L:Addr):List (Addr×Obj):=(J6 h.objs.size).filterMap λa=>if a=L\/(g.get? a).isSome=true then none else(h.get? a).map λo=>(a,o)
def rest(g h:Heap)(L d:Addr):List (Addr×Obj):=(w87 g h L).filter λp=>decide (p.1≠d)
structure Mod(K:W.Frag)(mg:Str->Option Value)(base:Heap):Prop where
 kin:K.In base
 glob:base.Ns F9 mg
 blt:∃mb,base.Ns B28 mb/\∀x:Str,x ≠ "__name__" -> mb x=P3 x
 nolimit:base.NoLimit
/-- the context: a def's body (or a comprehension's block) running. base: fixed through the whole law; s₀,H₀: the entry; outer: the frames whose slots others may change (a def's callers); stack: all frames that run;
   ex:iterators that were made ahead of the entry and are walked here (a comprehension's);fn:the names whose cells were made at the entry (a def:all;a comprehension's block:its own);calm:not within an except suite;pn:pins that every state bears;xe:what is wanted of an exception that leaves the code -/
structure Cx where
 prog:Program
 w:World
 K:W.Frag
 mg:Str->Option Value
 base:Heap
 A:Around
 N:List Str
 s₀:Shared
 H₀:Hp
 env:Env
 outer:List Env
 stack:List Env
 ex:List Addr
 fn:Str->Bool
 calm:Bool
 pn:List (Addr×Obj)
 xe:Value->Shared->Prop
def frs(l:List Env):List Addr:=l.filterMap (·.frame)
abbrev Cx.fs(X:Cx):List Addr:=frs X.outer
def Vis(sc:Scope)(x:Str):Prop:=sc.names.lookup x=some .local\/sc.names.lookup x=some .cell\/sc.names.lookup x=some .free
def Loc(sc:Scope)(x:Str):Prop:=sc.names.lookup x=some .local\/sc.names.lookup x=some .cell
def Look(env:Env)(h:Heap)(m:Str->Option Value)(x:Str)(u:Value):Prop :=
 (env.kindOf x=some .local/\m x=some u)\/((env.kindOf x=some .cell\/env.kindOf x=some .free)/\∃c,env.cells.lookup x=some c/\h.IsCell c (some u))
structure Cx.Ok(X:Cx):Prop where
 mod:Mod X.K X.mg X.base
 kind:X.env.scope.kind=.function
 glob:X.env.globals=F9
 blt:X.env.builtins=B28
 above:X.s₀.heap.objs.size<=X.env.locals
 inj:∀x y c,X.env.cells.lookup x=some c->X.env.cells.lookup y=some c->x=y
 has:∀x,(X.env.kindOf x=some .cell\/X.env.kindOf x=some .free)->∃c,X.env.cells.lookup x=some c
 cab:∀x c,X.fn x=true->X.env.cells.lookup x=some c->X.s₀.heap.objs.size<=c
 hd:X.calm=true->X.A.handled=none
 frames:X.A.frames=some X.stack
 stk:X.stack=X.outer\/(X.stack=X.env::X.outer/\X.env.frame=some X.env.locals)
 exf:∀b∈X.ex,b≠X.env.locals/\∀x c,X.env.cells.lookup x=some c->c≠b
 bs:∀b o,X.base.get? b=some o->X.s₀.heap.get? b=some o/\X.H₀ b=none
 bsz:X.base.objs.size<=X.s₀.heap.objs.size
 noex:∀b o,X.base.get? b=some o->b∉X.ex
 exfs:∀b∈X.ex,b∉X.fs
 funs:X.s₀.heap.FunFrames X.base X.outer
 frf:∀b∈X.fs,X.H₀ b=none
structure Inv(X:Cx)(pins:List (Addr×Obj))(σ:List (Option V))(H:Hp)(s:Shared):Prop where
 ok:X.Ok
 os:s.os=X.s₀.os
 bare:A44 s.gens
 base:Un X.fs X.ex X.H₀ H X.s₀.heap s.heap
 loc:∃m,s.heap.Ns X.env.locals m/\∀(i:Nat) (x:Str) (v:V),X.N[i]?=some x->σ[i]?=some (some v)->Vis X.env.scope x->∃u,RelV v u/\Look X.env s.heap m x u
 cell:∀x c,X.env.cells.lookup x=some c->∃v,s.heap.IsCell c v
 free:H X.env.locals=none
 freeC:∀x c,X.env.cells.lookup x=some c->H c=none
 pin:∀p∈X.pn++pins,s.heap.get? p.1=some p.2/\H p.1=none/\p.1≠X.env.locals/\p.1∉X.fs/\∀v,p.2.data≠.cell v
 hok:HOk X.prog X.w H s.heap
 len:σ.length=X.N.length
section
variable{X:Cx}{pins:List (Addr×Obj)}{σ:List (Option V)}{H H':Hp}{s:Shared}{h':Heap}
theorem Cx.Ok.nofr(ok:X.Ok){b:Addr}{o:Obj}(e:X.base.get? b=some o):b∉X.fs:=λhb=>by
 have:=(ok.funs.mem hb).1;rw[e] at this;cases this
theorem Inv.bs(I:Inv X pins σ H s):∀b o,X.base.get? b=some o->s.heap.get? b=some o/\H b=none:=λb o e =>
 ⟨I.base.keep b o (I.ok.bs b o e).1 (I.ok.bs b o e).2 (I.ok.nofr e) (I.ok.noex b o e),I.base.free b o (I.ok.bs b o e).1 (I.ok.bs b o e).2 (I.ok.noex b o e)⟩
theorem Inv.bk(I:Inv X pins σ H s):∀b o,X.base.get? b=some o->s.heap.get? b=some o:=λb o e=>(I.bs b o e).1
theorem Inv.mod(I:Inv X pins σ H s):Mod X.K X.mg X.base:=I.ok.mod
theorem Inv.kIn(I:Inv X pins σ H s):X.K.In s.heap:=I.ok.mod.kin.keeps I.bk
theorem Inv.nolimit(I:Inv X pins σ H s):s.heap.NoLimit:=I.ok.mod.nolimit.keeps I.bk
theorem Inv.lt(I:Inv X pins σ H s):X.env.locals<s.heap.objs.size:=let ⟨_,hn,_⟩:=I.loc;hn.lt
theorem Inv.sz(I:Inv X pins σ H s):X.s₀.heap.objs.size<=s.heap.objs.size:=D4 I.ok.above (L5 I.lt)
theorem Inv.nofs(I:Inv X pins σ H s){a:Addr}(h:s.heap.objs.size<=a):a∉X.fs:=λhb=>by
 obtain⟨_,o,ho,_⟩:=I.ok.funs.mem hb;exact absurd (B8 (D5 ho) (D4 I.sz h)) (W2 _)
theorem Inv.cne(I:Inv X pins σ H s):∀x c,X.env.cells.lookup x=some c->c≠X.env.locals:=λx c e z=>by
 obtain⟨v,o,ho,hd⟩:=I.cell x c e;obtain⟨m,⟨o',es,ep,ho',hd',_⟩,_⟩:=I.loc;rw[z,ho'] at ho;cases ho;rw[hd'] at hd;cases hd
theorem Inv.funs(I:Inv X pins σ H s):s.heap.FunFrames X.base X.outer:=by
 have all:∀(l:List Env),(∀b∈frs l,b∈X.fs)->X.s₀.heap.FunFrames X.base l->s.heap.FunFrames X.base l:=by
  intro l
  induction l with
  | nil=>intro _ _;trivial
  | cons env r ih =>
   intro hs hl;obtain⟨hk,⟨L,o,hf,hn,ho,hd⟩,hr⟩:=hl;have hL:L∈X.fs:=hs L (by unfold frs;rw[A17,hf];exact D7);obtain⟨sl,e⟩:=I.base.slot L o ho (I.ok.frf L hL) hL λz=>I.ok.exfs L z hL
   exact⟨hk,⟨L,_,hf,hn,e,hd⟩,ih (λb hb=>hs b (by unfold frs;rw[A17,hf];exact C6 _ hb)) hr⟩
 exact all X.outer (λ_ hb=>hb) I.ok.funs
theorem Inv.stack(I:Inv X pins σ H s):s.heap.FunFrames X.base X.stack:=by
 rcases I.ok.stk with e|⟨e,hf⟩
 ·rw[e];exact I.funs
 ·rw[e]
  obtain⟨m,hn,_⟩:=I.loc;refine .cons (by rw[I.ok.kind];decide) hf hn ?_ I.funs;exact Heap.get?_none_of_le (D4 I.ok.bsz I.ok.above)
theorem Inv.stkSub(I:Inv X pins σ H s):∀b∈frs X.stack,b∈X.env.locals::X.fs:=λb hb=>by
 rcases I.ok.stk with e|⟨e,hf⟩
 ·rw[e] at hb;exact C6 _ hb
 ·rw[e] at hb
  unfold frs at hb;rw[A17,hf] at hb;exact hb
theorem Inv.stkFree(I:Inv X pins σ H s):∀b∈frs X.stack,H b=none:=λb hb=>by
 rcases D1.mp (I.stkSub b hb) with e|hb
 ·rw[e];exact I.free
 ·obtain⟨_,o,ho,_⟩:=I.ok.funs.mem hb
  exact I.base.free b o ho (I.ok.frf b hb) λz=>I.ok.exfs b z hb
theorem Inv.step{g':Array GenState}{t':Nat}{d':Drawn}{ch:List Addr}(I:Inv X pins σ H s)
  (hch:∀b∈ch,(b∈X.ex\/X.s₀.heap.objs.size<=b)/\b≠X.env.locals/\(∀x c,X.env.cells.lookup x=some c->c≠b)/\∀p∈X.pn++pins,p.1≠b)
  (keep:∀b o,b≠X.env.locals->b∉X.fs->b∉ch->s.heap.get? b=some o->H b=none->h'.get? b=some o)
  (slot:∀b o,b≠X.env.locals->b∈X.fs->b∉ch->s.heap.get? b=some o->H b=none->∃sl,h'.get? b=some { o with slots:=sl}) (free:∀b o,b∉ch->s.heap.get? b=some o->H b=none->H' b=none)
  (there:∀b o,b∉ch->s.heap.get? b=some o->∃o',h'.get? b=some o')
  (tups:∀b xs,H b=some (.tup xs)->H' b=some (.tup xs)) (frzs:∀b o (u:NK),H b=some (.frz o u.1)->H' b=some (.frz o u.1)) (tbls:∀b ps,H b=some (.tbl ps)->∃more,H' b=some (.tbl (ps++more)))
  (ns:∀m,s.heap.Ns X.env.locals m->h'.Ns X.env.locals m) (hok:HOk X.prog X.w H' h') (hg:A44 g') :
  Inv X pins σ H' { s with heap:=h',gens:=g',drawn:=d',toks:=t'}:=by
 have neL:∀b o,X.s₀.heap.get? b=some o->b≠X.env.locals:=λb o e=>E6 (B8 (D5 e) I.ok.above)
 have neC:∀b o,X.s₀.heap.get? b=some o->b∉X.ex->b∉ch:=λb o e hx hb=>by
  rcases(hch b hb).1 with z|z
  ·exact hx z
  ·exact absurd (B8 (D5 e) z) (W2 _)
 have cellK:∀x c,X.env.cells.lookup x=some c->∀v,s.heap.IsCell c v->h'.IsCell c v:=λx c e v ⟨o,ho,hd⟩=>by
  have nch:c∉ch:=λz=>(hch c z).2.2.1 x c e rfl
  by_cases hc:c∈X.fs
  ·obtain⟨sl,q⟩:=slot c o (I.cne x c e) hc nch ho (I.freeC x c e)
   exact⟨_,q,hd⟩
  ·exact⟨o,keep c o (I.cne x c e) hc nch ho (I.freeC x c e),hd⟩
 refine⟨I.ok,I.os,hg,⟨λb o e n hb hx=>?_,λb o e n hb hx=>?_,λb o e n hx=>?_,λb o e hx=>?_,λb xs e=>tups b xs (I.base.tups b xs e),λb o xs e=>frzs b o xs (I.base.frzs b o xs e),λb ps e=>?_⟩,?_,λx c e=>?_,?_,λx c e=>?_,λp hp=>?_,hok,I.len⟩
 ·exact keep b o (neL b o e) hb (neC b o e hx) (I.base.keep b o e n hb hx) (I.base.free b o e n hx)
 ·obtain⟨sl,e1⟩:=I.base.slot b o e n hb hx
  obtain⟨sl',e2⟩:=slot b _ (neL b o e) hb (neC b o e hx) e1 (I.base.free b o e n hx);exact⟨sl',e2⟩
 ·obtain⟨o',e1⟩:=I.base.there b o e hx
  exact free b o' (neC b o e hx) e1 (I.base.free b o e n hx)
 ·obtain⟨o',e1⟩:=I.base.there b o e hx
  exact there b o' (neC b o e hx) e1
 ·obtain⟨m1,e1⟩:=I.base.tbls b ps e
  obtain⟨m2,e2⟩:=tbls b _ e1;exact⟨m1++m2,by rw[e2,B16]⟩
 ·obtain⟨m,hn,hl⟩:=I.loc
  refine⟨m,ns m hn,λi x v e1 e2 e3=>?_⟩;obtain⟨u,r,l⟩:=hl i x v e1 e2 e3;refine⟨u,r,?_⟩
  rcases l with l|⟨k,c,e,z⟩
  ·exact .inl l
  ·exact .inr ⟨k,c,e,cellK x c e _ z⟩
 ·obtain⟨v,z⟩:=I.cell x c e
  exact⟨v,cellK x c e v z⟩
 ·obtain⟨m,⟨o,_,_,ho,_⟩,_⟩:=I.loc
  exact free _ o (λz=>(hch _ z).2.1 rfl) ho I.free
 ·obtain⟨v,o,ho,hd⟩:=I.cell x c e
  exact free c o (λz=>(hch c z).2.2.1 x c e rfl) ho (I.freeC x c e)
 ·obtain⟨e,n,ne,nf,d⟩:=I.pin p hp
  have nch:p.1∉ch:=λz=>(hch p.1 z).2.2.2 p hp rfl
  exact⟨keep p.1 p.2 ne nf nch e n,free p.1 p.2 nch e n,ne,nf,d⟩
theorem Inv.un{t':Nat}(I:Inv X pins σ H s)(u:Un X.fs [] H H' s.heap h')(hok:HOk X.prog X.w H' h'):Inv X pins σ H' { s with heap:=h',toks:=t'}:=by
 obtain⟨m,⟨o,es,ep,ho,r⟩,_⟩:=id I.loc;obtain⟨sl,hL⟩:=u.any ho I.free (by simp);exact I.step (g':=s.gens) (d':=s.drawn) (ch:=[]) (λ_ z=>nomatch z) (λb o _ hb _ e n=>u.keep b o e n hb (by simp)) (λb o _ hb _ e n=>u.slot b o e n hb (by simp)) (λb o _ e n=>u.free b o e n (by simp)) (λb o _ e=>u.there b o e (by simp)) u.tups u.frzs u.tbls (λm' hm=>by
  obtain⟨o',es',ep',ho',r'⟩:=hm;rw[ho] at ho';cases ho';exact⟨_,es',ep',hL,r'⟩) hok I.bare
theorem Inv.call{g':Array GenState}{t':Nat}{d':Drawn}{ch:List Addr}(I:Inv X pins σ H s)(u:Un (frs X.stack) ch H H' s.heap h')(hok:HOk X.prog X.w H' h')(hg:A44 g')
  (hch:∀b∈ch,(b∈X.ex\/X.s₀.heap.objs.size<=b)/\b≠X.env.locals/\(∀x c,X.env.cells.lookup x=some c->c≠b)/\∀p∈X.pn++pins,p.1≠b) :
  Inv X pins σ H' { s with heap:=h',gens:=g',drawn:=d',toks:=t'}:=by
 obtain⟨m,⟨o,es,ep,ho,r⟩,_⟩:=id I.loc;obtain⟨sl,hL⟩:=u.any ho I.free λz=>(hch _ z).2.1 rfl
 exact I.step (ch:=ch) hch (λb o hL hb hc e n=>u.keep b o e n (λz=>(D1.mp (I.stkSub b z)).elim hL hb) hc) (λb o _ _ hc e n=>u.any e n hc) (λb o hc e n=>u.free b o e n hc) (λb o hc e=>u.there b o e hc) u.tups u.frzs u.tbls (λm' hm=>by
  obtain⟨o',es',ep',ho',r'⟩:=hm;rw[ho] at ho';cases ho';exact⟨_,es',ep',hL,r'⟩) hok hg
theorem Inv.turned{t':Nat}{it:Addr}(I:Inv X pins σ H s)(k:∀b o,b≠it->s.heap.get? b=some o->h'.get? b=some o)(hn:H it=none)(hL:it≠X.env.locals)
  (h1:it∈X.ex\/X.s₀.heap.objs.size<=it) (h2:∀x c,X.env.cells.lookup x=some c->c≠it) (h3:∀p∈X.pn++pins,p.1≠it):Inv X pins σ H { s with heap:=h',toks:=t'}:=by
 have nit:∀b u,H b=some u->b≠it:=λb u e z=>by rw[z,hn] at e;cases e
 refine I.step (g':=s.gens) (d':=s.drawn) (ch:=[it]) (λb hb=>?_) (λb o _ _ hc e _=>k b o (λz=>hc (by simp[z])) e) (λb o _ _ hc e _=>⟨o.slots,k b o (λz=>hc (by simp[z])) e⟩) (λ_ _ _ _ n=>n)
  (λb o hc e=>⟨o,k b o (λz=>hc (by simp[z])) e⟩) (λ_ _ e=>e) (λ_ _ _ e=>e) (λb ps e=>⟨#[],by rw[e];simp⟩) (λm hm=>?_) (λb u e=>?_) I.bare
 ·have e:b=it:=by simpa using hb
  subst e;exact⟨h1,hL,h2,h3⟩
 ·obtain⟨o,es,ep,ho,r⟩:=hm
  exact⟨o,es,ep,k _ o (D6 hL) ho,r⟩
 ·refine(I.hok b u e).stay (λc v hc q=>k c v ?_ q) (λ_ q=>q) λ_ _ q=>q
  rcases hc with z|z
  ·rw[z];exact nit b u e
  ·exact nit c _ z
theorem Inv.tok(I:Inv X pins σ H s)(t:Nat):Inv X pins σ H { s with toks:=t}:=I.un (h':=s.heap) (t':=t) Un.refl I.hok
theorem Inv.kept{t':Nat}(I:Inv X pins σ H s)(k:∀b u,s.heap.get? b=some u->h'.get? b=some u):Inv X pins σ H { s with heap:=h',toks:=t'}:=I.un (Un.kept k) (I.hok.kept k)
theorem Inv.laid{a:Addr}{o:HO}{t':Nat}(I:Inv X pins σ H s)(k:∀b u,s.heap.get? b=some u->h'.get? b=some u)(hp:s.heap.objs.size<=a)(new:ObjOk X.prog X.w (upd H a o) h' a o) :
  Inv X pins σ (upd H a o) { s with heap:=h',toks:=t'}:=I.un (Un.laid k hp (I.hok.fresh hp)) (I.hok.laid k hp new)
theorem Inv.write{x e:Addr}{o:HO}{t':Nat}(I:Inv X pins σ H s)(mu:Mut (H x))(he:e=x\/H e=some (.own x))(k:∀b u,b≠e->s.heap.get? b=some u->h'.get? b=some u)(heo:∃u,h'.get? e=some u)
  (new:ObjOk X.prog X.w (upd H x o) h' x o):Inv X pins σ (upd H x o) { s with heap:=h',toks:=t'}:=I.un (Un.write mu he k heo) (I.hok.write mu he k heo new)
theorem Inv.pins_of{pins':List (Addr×Obj)}(I:Inv X pins σ H s)(h:∀p∈pins',s.heap.get? p.1=some p.2/\H p.1=none/\p.1≠X.env.locals/\p.1∉X.fs/\∀v,p.2.data≠.cell v):Inv X pins' σ H s :=
 ⟨I.ok,I.os,I.bare,I.base,I.loc,I.cell,I.free,I.freeC,λp hp=>(K2.mp hp).elim (λz=>I.pin p (A02 _ z)) (h p),I.hok,I.len⟩
theorem ux3{N:List Str}(hN:N.Nodup){i j:Nat}{x:Str}(a:N[i]?=some x)(b:N[j]?=some x):i=j:=by
 obtain⟨h1,e1⟩:=J7.mp a;obtain⟨h2,e2⟩:=J7.mp b;exact(List.getElem_inj hN).mp (e1.trans e2.symm)
theorem uo8{M:Model}{A:Around}{E:Value->Shared->Prop}{i:Nat}{x:Str}{v:V}{u:Value}{Q:Unit->Shared->Prop}(I:Inv X pins σ H s)(hN:X.N.Nodup)(hi:X.N[i]?=some x)(hx:Loc X.env.scope x)(r:RelV v u)
  (h:∀s',Inv X pins (σ.set i (some v)) H s'->(∃a,Q6 a s.heap s'.heap/\(a=X.env.locals\/X.env.cells.lookup x=some a))->Q () s') (hf:X.fn x=true\/X.env.scope.names.lookup x=some .local:=by first|exact .inl rfl|exact .inr rfl|assumption):wpAny M A (C08 X.env x u) Q E s:=by
 obtain⟨m,hn,hl⟩:=id I.loc;have hcls:(X.env.scope.kind == .class||(X.env.scope.kind == .module&&X.env.locals != X.env.globals))=false:=by rw[I.ok.kind];rfl
 have hiσ:i<σ.length:=by rw[I.len];exact(J7.mp hi).1
 have cne:=I.cne;have tracked:∀{a:Addr} {h':Heap},(∃o,s.heap.get? a=some o/\H a=none)->Q6 a s.heap h'->HOk X.prog X.w H h':=λ{a h'} ha hs b ob e=>by
  obtain⟨_,_,hfree⟩:=ha;refine(I.hok b ob e).stay (λc w' hc q=>(hs.2 c ?_).trans q) (λ_ q=>q) λ_ _ q=>q
  rintro rfl
  rcases hc with rfl|hc
  ·rw[hfree] at e;cases e
  ·rw[hfree] at hc;cases hc
 rcases hx with hk|hk
 ·refine wpAny_storeName_local hk hn (λh' hn' hs=>?_) hcls
  obtain⟨oL,_,_,hoL,_⟩:=id hn;refine h _ ⟨I.ok,I.os,I.bare,⟨λb o e n hb hx=>?_,λb o e n hb hx=>?_,I.base.free,λb o e hx=>?_,I.base.tups,I.base.frzs,I.base.tbls⟩,⟨_,hn',λj y v' e1 e2 e3=>?_⟩,λy c e=>?_,I.free,I.freeC,λp hp=>?_,tracked ⟨oL,hoL,I.free⟩ hs,by simpa using I.len⟩ ⟨_,hs,.inl rfl⟩
  ·exact(hs.2 b (E6 (B8 (D5 e) I.ok.above))).trans (I.base.keep b o e n hb hx)
  ·obtain⟨sl,e1⟩:=I.base.slot b o e n hb hx
   exact⟨sl,(hs.2 b (E6 (B8 (D5 e) I.ok.above))).trans e1⟩
  ·obtain⟨o',e1⟩:=I.base.there b o e hx
   exact⟨o',(hs.2 b (E6 (B8 (D5 e) I.ok.above))).trans e1⟩
  ·by_cases hj:j=i
   ·subst hj
    rw[hi] at e1;cases e1;rw[Y9 hiσ] at e2;cases e2;exact⟨u,r,.inl ⟨hk,by simp⟩⟩
   ·rw[A03 (D6 hj)] at e2
    obtain⟨u',r',q⟩:=hl j y v' e1 e2 e3;refine⟨u',r',?_⟩
    rcases q with⟨k,e⟩|⟨k,c,e,z⟩
    ·refine .inl ⟨k,?_⟩
     have:y≠x:=λe=>hj (ux3 hN e1 (e▸hi))
     simp[this,e]
    ·exact .inr ⟨k,c,e,z.sameBut hs (cne y c e)⟩
  ·obtain⟨w',z⟩:=I.cell y c e
   exact⟨w',z.sameBut hs (cne y c e)⟩
  ·obtain⟨e,n,ne,nf,d⟩:=I.pin p hp
   exact⟨(hs.2 p.1 ne).trans e,n,ne,nf,d⟩
 ·have hfn:X.fn x=true:=by
   rcases hf with z|z
   ·exact z
   ·rw[z] at hk;cases hk
  obtain⟨c,hc⟩:=I.ok.has x (.inl hk);obtain⟨w',z⟩:=I.cell x c hc;refine wpAny_storeName_cell I.ok.kind hk hc z (λh' hc' hs=>?_);obtain⟨oc,hoc,hocd⟩:=id z;refine h { s with heap:=h'} ⟨I.ok,I.os,I.bare,⟨λb o e n hb hx=>?_,λb o e n hb hx=>?_,I.base.free,λb o e hx=>?_,I.base.tups,I.base.frzs,I.base.tbls⟩,⟨m,hn.sameBut hs (D6 (cne x c hc)),λj y v' e1 e2 e3=>?_⟩,λy c' e=>?_,I.free,I.freeC,λp hp=>?_,tracked ⟨oc,hoc,I.freeC x c hc⟩ hs,by simpa using I.len⟩ ⟨c,hs,.inr hc⟩
  ·exact(hs.2 b (E6 (B8 (D5 e) (I.ok.cab x c hfn hc)))).trans (I.base.keep b o e n hb hx)
  ·obtain⟨sl,e1⟩:=I.base.slot b o e n hb hx
   exact⟨sl,(hs.2 b (E6 (B8 (D5 e) (I.ok.cab x c hfn hc)))).trans e1⟩
  ·obtain⟨o',e1⟩:=I.base.there b o e hx
   exact⟨o',(hs.2 b (E6 (B8 (D5 e) (I.ok.cab x c hfn hc)))).trans e1⟩
  ·by_cases hj:j=i
   ·subst hj
    rw[hi] at e1;cases e1;rw[Y9 hiσ] at e2;cases e2;exact⟨u,r,.inr ⟨.inl hk,c,hc,hc'⟩⟩
   ·rw[A03 (D6 hj)] at e2
    obtain⟨u',r',q⟩:=hl j y v' e1 e2 e3;refine⟨u',r',?_⟩
    rcases q with q|⟨k,c',e,z'⟩
    ·exact .inl q
    ·refine .inr ⟨k,c',e,z'.sameBut hs ?_⟩
     rintro rfl;exact hj (ux3 hN e1 (I.ok.inj _ _ _ e hc▸hi))
  ·by_cases hcc:c'=c
   ·subst hcc;exact⟨_,hc'⟩
   ·obtain⟨w2,z2⟩:=I.cell y c' e
    exact⟨w2,z2.sameBut hs hcc⟩
  ·obtain⟨e,n,ne,nf,d⟩:=I.pin p hp
   refine⟨(hs.2 p.1 ?_).trans e,n,ne,nf,d⟩;intro q;rw[q,hoc] at e;have q':oc=p.2:=E2 e;exact d w' (by rw[<- q'];exact hocd)
theorem um4{M:Model}{A:Around}{E:Value->Shared->Prop}{i:Nat}{x:Str}{v:V}{u:Value}{Q:Unit->Shared->Prop}(I:Inv X pins σ H s)(hN:X.N.Nodup)(hi:X.N[i]?=some x)(hx:Loc X.env.scope x)(r:RelV v u)
  (h:∀s',Inv X pins (σ.set i (some v)) H s'->Q () s') (hf:X.fn x=true\/X.env.scope.names.lookup x=some .local:=by first|exact .inl rfl|exact .inr rfl|assumption):wpAny M A (C08 X.env x u) Q E s :=
 uo8 I hN hi hx r (λs' I' _=>h s' I') hf
theorem Inv.call'{s':Shared}{ch:List Addr}(I:Inv X pins σ H s)(ho:s'.os=s.os)(u:Un (frs X.stack) ch H H' s.heap s'.heap)(hok:HOk X.prog X.w H' s'.heap)(hg:A44 s'.gens)
  (hch:∀b∈ch,(b∈X.ex\/X.s₀.heap.objs.size<=b)/\b≠X.env.locals/\(∀x c,X.env.cells.lookup x=some c->c≠b)/\∀p∈X.pn++pins,p.1≠b):Inv X pins σ H' s':=by
 obtain⟨h',g',d',t',o'⟩:=s';have e:o'=s.os:=ho;subst e;exact I.call (g':=g') (t':=t') (d':=d') u hok hg hch
end
abbrev XK:=Value->Option Addr->Hp->Prop
abbrev St:=List (Option V)
abbrev VK:=V->Hp->Prop
abbrev TE:=St->Hp->VK->Prop
abbrev TT:=St->Hp->(Bool->Hp->Prop)->Prop
abbrev TA:=St->Hp->(List V->Hp->Prop)->Prop
structure Ends where
 nx:St->Hp->Prop
 rt:VK
 bk:St->Hp->Prop:=λ_ _=>False
 ct:St->Hp->Prop:=λ_ _=>False
abbrev TS:=Ends->St->Hp->Prop
def EP(X:Cx)(pins:List (Addr×Obj))(σ:St)(Q:VK)(u:Value)(s':Shared):Prop:=∃v H',Inv X pins σ H' s'/\RelV v u/\Q v H'
def TP(X:Cx)(pins:List (Addr×Obj))(σ:St)(Q:Bool->Hp->Prop)(b:Bool)(s':Shared):Prop:=∃H',Inv X pins σ H' s'/\Q b H'
def AP(X:Cx)(pins:List (Addr×Obj))(σ:St)(Q:List V->Hp->Prop)(us:List Value)(s':Shared):Prop:=∃vs H',Inv X pins σ H' s'/\Vals vs us/\Q vs H'
def SP(X:Cx)(pins:List (Addr×Obj))(D:Ends)(f:Flow)(s':Shared):Prop :=
 match f with
 | .next=>∃σ' H',Inv X pins σ' H' s'/\D.nx σ' H'
 | .brk=>∃σ' H',Inv X pins σ' H' s'/\D.bk σ' H'
 | .cont=>∃σ' H',Inv X pins σ' H' s'/\D.ct σ' H'
 | .ret u=>∃v σ' H',Inv X pins σ' H' s'/\RelV v u/\D.rt v H'
def PE(X:Cx)(e:Expr)(t:TE):Prop :=
 ∀(pins:List (Addr×Obj)) (s:Shared) (σ:St) (H:Hp) (Q:VK),Inv X pins σ H s->t σ H Q->wpAny (model X.prog X.w) X.A (eval e X.env) (EP X pins σ Q) X.xe s
def PT(X:Cx)(e:Expr)(t:TT):Prop :=
 ∀(pins:List (Addr×Obj)) (s:Shared) (σ:St) (H:Hp) (Q:Bool->Hp->Prop),Inv X pins σ H s->t σ H Q->wpAny (model X.prog X.w) X.A (isTrue e X.env (eval e X.env)) (TP X pins σ Q) X.xe s
def PW(X:Cx)(e:Expr)(t:TT):Prop :=
 ∀(whole:Sem Value) (pins:List (Addr×Obj)) (s:Shared) (σ:St) (H:Hp) (Q:Bool->Hp->Prop),Inv X pins σ H s->t σ H Q->wpAny (model X.prog X.w) X.A (isTrue e X.env whole) (TP X pins σ Q) X.xe s
theorem PW.pt{X:Cx}{e:Expr}{t:TT}(h:PW X e t):PT X e t:=h _
def PA(X:Cx)(es:List Expr)(t:TA):Prop :=
 ∀(pos:Pos) (pins:List (Addr×Obj)) (s:Shared) (σ:St) (H:Hp) (Q:List V->Hp->Prop),Inv X pins σ H s->t σ H Q->wpAny (model X.prog X.w) X.A (spliced (backTo pos (C5 es X.env))) (AP X pins σ Q) X.xe s
def PS(X:Cx)(st:Stmt)(t:TS):Prop :=
 ∀(pins:List (Addr×Obj)) (s:Shared) (σ:St) (H:Hp) (D:Ends),Inv X pins σ H s->t D σ H->wpAny (model X.prog X.w) X.A (exec st X.env) (SP X pins D) X.xe s
def PSs(X:Cx)(st:List Stmt)(t:TS):Prop :=
 ∀(pins:List (Addr×Obj)) (s:Shared) (σ:St) (H:Hp) (D:Ends),Inv X pins σ H s->t D σ H->wpAny (model X.prog X.w) X.A (execs st X.env) (SP X pins D) X.xe s
theorem thn{α:Type}{t:Sem α}{Q Q':α->Shared->Prop}{M:Model}{A:Around}{E:Value->Shared->Prop}{s:Shared}(h:wpAny M A t Q E s)(hQ:∀a s,Q a s->Q' a s):wpAny M A t Q' E s:=P4 h hQ λ_ _ x=>x
section
variable{X:Cx}
def tVar(i:Nat):TE:=λσ H Q=>∃v,σ[i]?=some (some v)/\Q v H
def tC(v:V):TE:=λ_ H Q=>Q v H
theorem wf6{i:Nat}{x:Str}{pos:Pos}(hN:X.N[i]?=some x)(hv:Vis X.env.scope x)(hd:(x==("__debug__" :Str))=false:=by decide)(hcd:(x==("__classdict__" :Str))=false:=by decide):PE X (.Name x pos) (tVar i):=by
 intro pins s σ H Q I h;obtain⟨v,e,h⟩:=h;obtain⟨m,hn,hl⟩:=I.loc;obtain⟨u,r,l⟩:=hl i x v hN e hv;have fin:EP X pins σ Q u s:=⟨v,H,I,r,h⟩
 rcases l with⟨hk,hm⟩|⟨hk,c,hc,hcell⟩
 ·exact B75 (wpAny_loadName_local I.ok.kind hk hn hm fin) hd
 ·rcases hk with hk|hk
  ·exact B75 (wpAny_loadName_cell I.ok.kind hk hc hcell fin) hd
  ·exact B75 (wpAny_loadName_free I.ok.kind hk hc hcell fin hcd) hd
theorem wg3{i j pos}:PE X (.Constant (.int i) j pos) (tC (.int i)):=λ_ _ _ H _ I h=>wpAny_Constant_int ⟨.int i,H,I.tok _,⟨_,rfl⟩,h⟩
theorem x13{b j pos}:PE X (.Constant (.bool b) j pos) (tC (.bl b)):=λ_ _ _ H _ I h=>Constant_bool ⟨.bl b,H,I,rfl,h⟩
theorem wg1{j pos}:PE X (.Constant .none j pos) (tC .non):=λ_ _ _ H _ I h=>Constant_none ⟨.non,H,I,rfl,h⟩
theorem wf8{x j pos}:PE X (.Constant (.str x) j pos) (tC (.str x)):=λ_ _ _ H _ I h=>Calls.Constant_str ⟨.str x,H,I.tok _,⟨_,rfl⟩,h⟩
def Gl(X:Cx)(x:Str):Prop:=X.env.kindOf x=some .globalImplicit
theorem ut8{E:Value->Shared->Prop}{pins:List (Addr×Obj)}{s:Shared}{σ:St}{H:Hp}{x:Str}{u:Value}{pos:Pos}{Q:Value->Shared->Prop}(I:Inv X pins σ H s)(hg:Gl X x)(hm:X.mg x=some u)(h:Q u s)
  (hd:(x==("__debug__" :Str))=false:=by decide):wpAny (model X.prog X.w) X.A (eval (.Name x pos) X.env) Q E s :=
 A31 I.ok.kind hg (Calls.loadGlobal_global (by rw[I.ok.glob];exact I.mod.glob.keeps I.bk) hm h) hd
theorem ub1{E:Value->Shared->Prop}{pins:List (Addr×Obj)}{s:Shared}{σ:St}{H:Hp}{x:Str}{u:Value}{pos:Pos}{Q:Value->Shared->Prop}(I:Inv X pins σ H s)(hg:Gl X x)(hm:X.mg x=none)(hv:P3 x=some u)(h:Q u s)
  (hn:x ≠ "__name__" := by decide) (hd:(x==("__debug__" :Str))=false:=by decide):wpAny (model X.prog X.w) X.A (eval (.Name x pos) X.env) Q E s:=by
 obtain⟨mb,h1,h2⟩:=I.mod.blt;exact A31 I.ok.kind hg (Calls.loadGlobal_builtin (by rw[I.ok.glob];exact I.mod.glob.keeps I.bk) hm (by rw[I.ok.blt];exact h1.keeps I.bk) ((h2 x hn).trans hv) h) hd
theorem w26{x:Str}{v:V}{u:Value}{pos:Pos}(hg:Gl X x)(hm:X.mg x=some u)(r:RelV v u)(hd:(x==("__debug__" :Str))=false:=by decide):PE X (.Name x pos) (tC v) :=
 λ_ _ _ H _ I h=>ut8 I hg hm ⟨v,H,I,r,h⟩ hd
theorem w31{x:Str}{v:V}{u:Value}{pos:Pos}(hg:Gl X x)(hm:X.mg x=none)(hv:P3 x=some u)(r:RelV v u)(hn:x ≠ "__name__" := by decide)(hd:(x==("__debug__" :Str))=false:=by decide):PE X (.Name x pos) (tC v) :=
 λ_ _ _ H _ I h=>ub1 I hg hm hv ⟨v,H,I,r,h⟩ hn hd
variable{a b:Expr}{ta tb:TE}{pos:Pos}
def tB(t:TE):TT:=λσ H Q=>t σ H λx H1=>∃c,x=.bl c/\Q c H1
theorem we5{e:Expr}{t:TE}(h:PE X e t)(he:∀whole,isTrue e X.env whole=(do let v <- whole;A00 e.pos;holding [v] (truthy v)):=by intro _;rfl):PT X e (tB t):=by
 intro pins s σ H Q I hw
 (refine isTrue_plain (thn (h pins s σ H _ I hw) ?_) (he _);rintro v s1 ⟨x,H1,I1,r1,q1⟩)
 obtain⟨d,rfl,q⟩:=q1;cases r1;exact U1 ⟨H1,I1,q⟩
variable{tA tB':TT}{rest:List Expr}
def tAnd(t u:TT):TT:=λσ H Q=>t σ H λc H1=>if c=true then u σ H1 Q else Q false H1
def tOr(t u:TT):TT:=λσ H Q=>t σ H λc H1=>if c=true then Q true H1 else u σ H1 Q
def tNot(t:TT):TT:=λσ H Q=>t σ H λc H1=>Q (!c) H1
theorem w07(ha:PT X a tA):PW X (.BoolOp .And [a] pos) tA:=by
 intro wh pins s σ H Q I h;refine isTrue_and (thn (ha pins s σ H Q I h) λc s1 e=>?_);cases c with
 | true=>exact isTrue_and_nil e
 | false=>exact e
theorem we3(ha:PT X a tA):PW X (.BoolOp .Or [a] pos) tA:=by
 intro wh pins s σ H Q I h;refine isTrue_or (thn (ha pins s σ H Q I h) λc s1 e=>?_);cases c with
 | false=>exact isTrue_or_nil e
 | true=>exact e
theorem we4(ha:PT X a tA)(hb:PW X (.BoolOp .And (b::rest) pos) tB'):PW X (.BoolOp .And (a::b::rest) pos) (tAnd tA tB'):=by
 intro wh pins s σ H Q I h
 (refine isTrue_and (thn (ha pins s σ H _ I h) ?_);rintro c s1 ⟨H1,I1,q1⟩)
 cases c with
 | true=>exact hb wh pins s1 σ H1 Q I1 q1
 | false=>exact⟨H1,I1,q1⟩
theorem x06(ha:PT X a tA)(hb:PW X (.BoolOp .Or (b::rest) pos) tB'):PW X (.BoolOp .Or (a::b::rest) pos) (tOr tA tB'):=by
 intro wh pins s σ H Q I h
 (refine isTrue_or (thn (ha pins s σ H _ I h) ?_);rintro c s1 ⟨H1,I1,q1⟩)
 cases c with
 | true=>exact⟨H1,I1,q1⟩
 | false=>exact hb wh pins s1 σ H1 Q I1 q1
theorem we6(ha:PT X a tA):PT X (.UnaryOp .Not a pos) (tNot tA):=by
 intro pins s σ H Q I h;exact isTrue_not (ha pins s σ H (λc H1=>Q (!c) H1) I h)
def wd1(ta tb:TE):TE:=λσ H Q=>ta σ H λx H1=>∃c,x=.bl c/\if c=true then tb σ H1 Q else Q (.bl false) H1
def wc3(ta:TE):TE:=λσ H Q=>ta σ H λx H1=>∃c,x=.bl c/\Q (.bl (!c)) H1
theorem wf9{op}{t:TE}(h:PE X a t):PE X (.BoolOp op [a] pos) t:=λpins s σ H Q I hw=>BoolOp_one (h pins s σ H Q I hw)
theorem wg6(ha:PE X a ta)(hb:PE X (.BoolOp .And (b::rest) pos) tb):PE X (.BoolOp .And (a::b::rest) pos) (wd1 ta tb):=by
 intro pins s σ H Q I h
 (refine BoolOp_and (thn (ha pins s σ H _ I h) ?_);rintro v s1 ⟨x,H1,I1,r1,q1⟩)
 obtain⟨c,rfl,q1⟩:=q1;cases r1;refine U1 ?_;cases c with
 | true=>exact hb pins s1 σ H1 Q I1 q1
 | false=>exact⟨.bl false,H1,I1,rfl,q1⟩
theorem wg0(ha:PE X a ta):PE X (.UnaryOp .Not a pos) (wc3 ta):=by
 intro pins s σ H Q I h
 (refine UnaryOp_ (thn (ha pins s σ H _ I h) ?_);rintro v s1 ⟨x,H1,I1,r1,q1⟩)
 obtain⟨c,rfl,q1⟩:=q1;cases r1;exact not_of (U1 ⟨.bl (!c),H1,I1,rfl,q1⟩)
def tIf(t:TT)(ta tb:TE):TE:=λσ H Q=>t σ H λc H1=>if c=true then ta σ H1 Q else tb σ H1 Q
theorem vi1{c:Expr}(hc:PT X c tA)(ha:PE X a ta)(hb:PE X b tb):PE X (.IfExp c a b pos) (tIf tA ta tb):=by
 intro pins s σ H Q I h
 (refine wpAny_IfExp (thn (hc pins s σ H _ I h) ?_);rintro d s1 ⟨H1,I1,q1⟩)
 cases d with
 | true=>exact ha pins s1 σ H1 Q I1 q1
 | false=>exact hb pins s1 σ H1 Q I1 q1
end
def SqL(K:W.Frag)(H:Hp)(a:Addr)(xs:List V):Prop :=
 Rd H a (.lst xs) \/
  ∃(o:Obj) (its:Array Value) (n:Nat),K.lookup a=some o/\o.cls=.type "list" /\ o.dict=none/\o.data=.seq its n/\its.size<=sizeLine/\Vals xs its.toList
def SqT(K:W.Frag)(H:Hp)(a:Addr)(xs:List V):Prop :=
 Rd H a (.tup xs) \/
  ∃(o:Obj) (its:Array Value) (n:Nat),K.lookup a=some o/\o.cls=.type "tuple" /\ o.data=.seq its n/\its.size<=sizeLine/\Vals xs its.toList/\o.dict=none
def absV:Value->Option V
 | .none=>some .non
 | .bool b=>some (.bl b)
 | .int i _=>some (.int i)
 | .str x _=>some (.str x)
 | .bytes b _=>some (.byt b)
 | .float b _=>some (.flt b)
 | .ref a=>some (.ref a)
 | .type n=>some (.ty n)
 | _=>none
theorem RelV.abs{x:V}{u:Value}(r:RelV x u):absV u=some x:=by
 cases x with
 | non=>cases r;rfl
 | bl _=>cases r;rfl
 | int _=>obtain⟨t,rfl⟩:=r;rfl
 | str _=>obtain⟨t,rfl⟩:=r;rfl
 | byt _=>obtain⟨t,rfl⟩:=r;rfl
 | flt _=>obtain⟨t,rfl⟩:=r;rfl
 | ref _=>cases r;rfl
 | ty _=>cases r;rfl
theorem RelV.inj{x y:V}{u:Value}(r:RelV x u)(q:RelV y u):x=y:=E2 (r.abs.symm.trans q.abs)
theorem Vals.inj:∀{xs ys:List V} {us:List Value},Vals xs us->Vals ys us->xs=ys
 | _,_,_,.nil,.nil=>rfl
 | _,_,_,.cons r t,.cons r' t'=>by rw[r.inj r',Vals.inj t t']
section
variable{X:Cx}{pins:List (Addr×Obj)}{σ:St}{H:Hp}{s:Shared}{a:Addr}{xs ys:List V}
theorem SqL.of{K:W.Frag}(h:H a=some (.lst xs)):SqL K H a xs:=.inl (.inl h)
theorem SqT.of{K:W.Frag}(h:H a=some (.tup xs)):SqT K H a xs:=.inl (.inl h)
theorem Inv.list(I:Inv X pins σ H s)(h:SqL X.K H a xs):∃its:List Value,Vals xs its/\PlainL s.heap a its.toArray/\xs.length<=sizeLine:=by
 rcases h with h|⟨o,its,n,hk,hc,hd,hs,hz,r⟩
 ·obtain⟨z,its,n,r,e⟩:=h.ok I.hok
  exact⟨its,r,⟨_,n,e,rfl,rfl,rfl⟩,z⟩
 ·refine⟨its.toList,r,⟨o,n,I.kIn a o hk,hc,hd,by simpa using hs⟩,?_⟩
  have e:=r.length;simp only[A20] at e;omega
theorem Inv.tuple(I:Inv X pins σ H s)(h:SqT X.K H a xs):∃its:List Value,Vals xs its/\IsTup s.heap a its.toArray/\xs.length<=sizeLine:=by
 rcases h with h|⟨o,its,n,hk,hc,hs,hz,r,_⟩
 ·obtain⟨z,its,r,p⟩:=h.ok I.hok
  exact⟨its,r,p.tup,z⟩
 ·refine⟨its.toList,r,⟨o,I.kIn a o hk,hc,n,by simpa using hs⟩,?_⟩
  have e:=r.length;simp only[A20] at e;omega
theorem Inv.list_inj(I:Inv X pins σ H s)(h:SqL X.K H a xs)(h':SqL X.K H a ys):xs=ys:=by
 obtain⟨its,r,⟨o,n,e,_,_,d⟩,_⟩:=I.list h;obtain⟨its',r',⟨o',n',e',_,_,d'⟩,_⟩:=I.list h';rw[e] at e';cases e';rw[d] at d';injection d' with d1 _
 have:its=its':=by simpa using congrArg C11 d1
 subst this;exact r.inj r'
theorem Inv.tuple_inj(I:Inv X pins σ H s)(h:SqT X.K H a xs)(h':SqT X.K H a ys):xs=ys:=by
 obtain⟨its,r,⟨o,e,_,n,d⟩,_⟩:=I.tuple h;obtain⟨its',r',⟨o',e',_,n',d'⟩,_⟩:=I.tuple h';rw[e] at e';cases e';rw[d] at d';injection d' with d1 _
 have:its=its':=by simpa using congrArg C11 d1
 subst this;exact r.inj r'
end
abbrev Cx.wish(X:Cx)(E:Value->Shared->Prop):Cx:={ X with xe:=E}
abbrev Cx.nox(X:Cx):Cx:=X.wish λ_ _=>False
theorem Cx.Ok.wish{X:Cx}(ok:X.Ok)(E:Value->Shared->Prop):(X.wish E).Ok :=
 ⟨ok.mod,ok.kind,ok.glob,ok.blt,ok.above,ok.inj,ok.has,ok.cab,ok.hd,ok.frames,ok.stk,ok.exf,ok.bs,ok.bsz,ok.noex,ok.exfs,ok.funs,ok.frf⟩
theorem Cx.Ok.unwish{X:Cx}{E:Value->Shared->Prop}(ok:(X.wish E).Ok):X.Ok :=
 ⟨ok.mod,ok.kind,ok.glob,ok.blt,ok.above,ok.inj,ok.has,ok.cab,ok.hd,ok.frames,ok.stk,ok.exf,ok.bs,ok.bsz,ok.noex,ok.exfs,ok.funs,ok.frf⟩
section
variable{X:Cx}{pins:List (Addr×Obj)}{σ:St}{H:Hp}{s:Shared}{E:Value->Shared->Prop}
theorem Inv.wish(I:Inv X pins σ H s)(E:Value->Shared->Prop):Inv (X.wish E) pins σ H s:=⟨I.ok.wish E,I.os,I.bare,I.base,I.loc,I.cell,I.free,I.freeC,I.pin,I.hok,I.len⟩
theorem Inv.unwish(I:Inv (X.wish E) pins σ H s):Inv X pins σ H s:=⟨I.ok.unwish,I.os,I.bare,I.base,I.loc,I.cell,I.free,I.freeC,I.pin,I.hok,I.len⟩
theorem SP.unwish{D:Ends}{f:Flow}{s':Shared}(h:SP (X.wish E) pins D f s'):SP X pins D f s':=by
 cases f with
 | next=>obtain⟨σ',H',I,q⟩:=h;exact⟨σ',H',I.unwish,q⟩
 | brk=>obtain⟨σ',H',I,q⟩:=h;exact⟨σ',H',I.unwish,q⟩
 | cont=>obtain⟨σ',H',I,q⟩:=h;exact⟨σ',H',I.unwish,q⟩
 | ret u=>obtain⟨v,σ',H',I,r,q⟩:=h;exact⟨v,σ',H',I.unwish,r,q⟩
theorem PE.nox{e:Expr}{t:TE}(h:PE X.nox e t):PE X e t:=λpins s σ H Q I hw =>
 P4 (h pins s σ H Q (I.wish _) hw) (λ_ _ ⟨v,H',I',r,q⟩=>⟨v,H',I'.unwish,r,q⟩) λ_ _ z=>P0 z
theorem PT.nox{e:Expr}{t:TT}(h:PT X.nox e t):PT X e t:=λpins s σ H Q I hw =>
 P4 (h pins s σ H Q (I.wish _) hw) (λ_ _ ⟨H',I',q⟩=>⟨H',I'.unwish,q⟩) λ_ _ z=>P0 z
theorem PSs.nox{st:List Stmt}{t:TS}(h:PSs X.nox st t):PSs X st t:=λpins s σ H D I hw =>
 P4 (h pins s σ H D (I.wish _) hw) (λ_ _ q=>q.unwish) λ_ _ z=>P0 z
end
section
variable{X:Cx}{st:Stmt}{rest:List Stmt}{t u:TS}{e:Expr}{te:TE}{pos:Pos}
def wc4:TS:=λD σ H=>D.nx σ H
def tSeq(t u:TS):TS:=λD σ H=>t { D with nx:=u D} σ H
theorem w13:PSs X [] wc4:=λ_ _ σ H _ I h=>A14 ⟨σ,H,I,h⟩
theorem vh1(h1:PS X st t)(h2:PSs X rest u):PSs X (st::rest) (tSeq t u):=by
 intro pins s σ H D I h;refine wpAny_execs_cons (thn (h1 pins s σ H { D with nx:=u D} I h) λf s1 q=>?_);cases f with
 | next =>
  obtain⟨σ',H',I',q⟩:=q;exact h2 pins s1 σ' H' D I' q
 | ret v=>exact q
 | brk=>exact q
 | cont=>exact q
theorem w12(h1:PS X st t):PSs X [st] t:=by
 intro pins s σ H D I h;refine wpAny_execs_cons (thn (h1 pins s σ H D I h) λf s1 q=>?_);cases f with
 | next=>exact A14 q
 | ret v=>exact q
 | brk=>exact q
 | cont=>exact q
theorem Inv.quiet{pins:List (Addr×Obj)}{σ:St}{H:Hp}{s:Shared}(I:Inv X pins σ H s):interactive X.env=false:=by simp[interactive,I.ok.kind]
def wc7(te:TE):TS:=λD σ H=>te σ H λ_ H1=>D.nx σ H1
theorem w16(he:PE X e te)(hs:W5 e none pos.line X.env=pure false:=by rfl):PS X (.Expr e pos) (wc7 te):=by
 intro pins s σ H D I h
 (refine wpAny_Expr_any (thn (he pins s σ H _ I h) ?_) I.quiet hs;rintro v s1 ⟨x,H1,I1,r1,q1⟩;exact⟨σ,H1,I1,q1⟩)
def tRet(te:TE):TS:=λD σ H=>te σ H D.rt
theorem we8(he:PE X e te):PS X (.Return (some e) pos) (tRet te):=by
 intro pins s σ H D I h
 (refine wpAny_Return_some (thn (he pins s σ H _ I h) ?_);rintro v s1 ⟨x,H1,I1,r1,q1⟩;exact⟨x,σ,H1,I1,r1,q1⟩)
def wc1:TS:=λD _ H=>D.rt .non H
theorem w15:PS X (.Return none pos) wc1:=λ_ _ σ H _ I h=>wpAny_Return_none ⟨.non,σ,H,I,rfl,h⟩
def tIfS(c:TT)(t u:TS):TS:=λD σ H=>c σ H λb H1=>if b=true then t D σ H1 else u D σ H1
theorem x07{c:Expr}{a b:List Stmt}{tc:TT}(hc:PT X c tc)(ha:PSs X a t)(hb:PSs X b u):PS X (.If c a b pos) (tIfS tc t u):=by
 intro pins s σ H D I h
 (refine wpAny_If (thn (hc pins s σ H _ I h) ?_);rintro d s1 ⟨H1,I1,q1⟩)
 cases d with
 | true=>exact ha pins s1 σ H1 D I1 q1
 | false=>exact hb pins s1 σ H1 D I1 q1
def wc5:TS:=λ_ _ _=>False
theorem vh3:PS X st wc5:=λ_ _ _ _ _ _ h=>h.elim
end
abbrev TG:=V->St->Hp->(St->Hp->Prop)->Prop
abbrev TGs:=List V->St->Hp->(St->Hp->Prop)->Prop
def PG(X:Cx)(target:Expr)(t:TG):Prop :=
 ∀(pins:List (Addr×Obj)) (s:Shared) (σ:St) (H:Hp) (v:V) (u:Value) (Q:St->Hp->Prop),Inv X pins σ H s->RelV v u->t v σ H Q ->
  wpAny (model X.prog X.w) X.A (assign target X.env u) (λ_ s'=>∃σ' H',Inv X pins σ' H' s'/\Q σ' H') X.xe s
def PGs(X:Cx)(ts:List Expr)(t:TGs):Prop :=
 ∀(pins:List (Addr×Obj)) (s:Shared) (σ:St) (H:Hp) (vs:List V) (us:List Value) (Q:St->Hp->Prop),Inv X pins σ H s->Vals vs us->t vs σ H Q ->
  wpAny (model X.prog X.w) X.A (assignInOrder ((P8 ts X.env).map (·.2)) us) (λ_ s'=>∃σ' H',Inv X pins σ' H' s'/\Q σ' H') X.xe s
abbrev TSet:=V->V->V->Hp->(Hp->Prop)->Prop
def PSet(X:Cx)(t:TSet):Prop :=
 ∀(pins:List (Addr×Obj)) (s:Shared) (σ:St) (H:Hp) (o i v:V) (ov iv u:Value) (Q:Hp->Prop),Inv X pins σ H s->RelV o ov->RelV i iv->RelV v u->t o i v H Q ->
  wpAny (model X.prog X.w) X.A (C17 ov iv u) (λ_ s'=>∃H',Inv X pins σ H' s'/\Q H') X.xe s
abbrev TIp:=V->V->Hp->VK->Prop
def PIp(X:Cx)(op:Operator)(t:TIp):Prop :=
 ∀(pins:List (Addr×Obj)) (s:Shared) (σ:St) (H:Hp) (x y:V) (v u:Value) (Q:VK),Inv X pins σ H s->RelV x v->RelV y u->t x y H Q ->
  wpAny (model X.prog X.w) X.A (A30 op v u) (EP X pins σ Q) X.xe s
section
variable{X:Cx}{pos:Pos}
def w60(i:Nat):TG:=λv σ H Q=>Q (σ.set i (some v)) H
theorem w22{i:Nat}{x:Str}(hN:X.N.Nodup)(hi:X.N[i]?=some x)(hx:Loc X.env.scope x)(hf:X.fn x=true\/X.env.scope.names.lookup x=some .local:=by first|exact .inl rfl|exact .inr rfl|assumption):PG X (.Name x pos) (w60 i):=by
 intro pins s σ H v u Q I r h;exact wpAny_assign_Name (um4 I hN hi hx r (λs' I'=>⟨_,H,I',h⟩) hf)
def gNil:TGs:=λvs σ H Q=>vs=[]/\Q σ H
def wr0(t:TG)(u:TGs):TGs:=λvs σ H Q=>∃v r,vs=v::r/\t v σ H λσ' H'=>u r σ' H' Q
theorem w21:PGs X [] gNil:=by
 intro pins s σ H vs us Q I r h;obtain⟨e,h⟩:=h;subst e;cases r;exact assignInOrder_nil ⟨σ,H,I,h⟩
theorem vh8{e:Expr}{es:List Expr}{t:TG}{u:TGs}(h1:PG X e t)(h2:PGs X es u)
  (hs:(P8 (e::es) X.env).map (·.2)=assign e X.env::(P8 es X.env).map (·.2):=by rfl):PGs X (e::es) (wr0 t u):=by
 intro pins s σ H vs us Q I r h;obtain⟨v,vr,e1,h⟩:=h;subst e1;cases r with
 | cons r rr =>
  rw[hs]
  (refine assignInOrder_cons (thn (h1 pins s σ H _ _ _ I r h) ?_);rintro _ s1 ⟨σ1,H1,I1,q1⟩)
  exact h2 pins s1 σ1 H1 _ _ Q I1 rr q1
def gTup(K:W.Frag)(n:Nat)(t:TGs):TG:=λv σ H Q=>∃a xs,v=.ref a/\SqT K H a xs/\xs.length=n/\t xs σ H Q
theorem wf4{es:List Expr}{k:Nat}{t:TGs}{n:Nat}(hc:X.calm=true)(h:PGs X es t)
  (hn:(P8 es X.env).length=n:=by rfl) (hst:(P8 es X.env).findIdx? (·.1)=none:=by rfl):PG X (.Tuple es k pos) (gTup X.K n t):=by
 intro pins s σ H v u Q I r hw;obtain⟨a,xs,e1,hq,hl,hw⟩:=hw;subst e1;cases r;obtain⟨its,rv,ht,hz⟩:=I.tuple hq;refine assign_Tuple_tuple (I.ok.hd hc) ht (by simp[hn,<- hl,rv.length]) hst λh' hx=>?_
 have I1:Inv X pins σ H { s with heap:=h'}:=I.kept (t':=s.toks) λb o e=>hx b o (E6 (D5 e)) e
 exact h pins _ σ H xs _ Q I1 (by simpa using rv) hw
def gSub(to ti:TE)(t:TSet):TG:=λv σ H Q=>to σ H λo H1=>ti σ H1 λi H2=>t o i v H2 λH3=>Q σ H3
theorem wf5{o i:Expr}{to ti:TE}{t:TSet}(ho:PE X o to)(hi:PE X i ti)(hs:PSet X t)
  (ha:∀v,assign (.Subscript o i pos) X.env v=(do
   let ov <- holding [v] (eval o X.env)
   let iv <- holding [v,ov] (eval i X.env)
   A00 pos
   holding [v,ov,iv] (C17 ov iv v)
   release [v,ov,iv] []):=by intro _;rfl):PG X (.Subscript o i pos) (gSub to ti t):=by
 intro pins s σ H v u Q I r h;rw[ha]
 (refine B4 (O1 (thn (ho pins s σ H _ I h) ?_));rintro ov s1 ⟨x,H1,I1,r1,q1⟩)
 (refine B4 (O1 (thn (hi pins s1 σ H1 _ I1 q1) ?_));rintro iv s2 ⟨y,H2,I2,r2,q2⟩)
 (refine B4 (A50 (B4 (O1 (thn (hs pins s2 σ H2 x y v ov iv u _ I2 r1 r2 r q2) ?_))));rintro _ s3 ⟨H3,I3,q3⟩)
 exact wpAny_release ⟨σ,H3,I3,q3⟩
def tAsg(te:TE)(g:TG):TS:=λD σ H=>te σ H λx H1=>g x σ H1 D.nx
theorem wf2{tg e:Expr}{te:TE}{g:TG}(he:PE X e te)(hg:PG X tg g)(hs:swapsWithSole [tg] e pos.line X.env=pure false:=by rfl)(hw:swappedStores [tg] e X.env=pure none:=by rfl)
  (h1:(P8 [tg] X.env).map (·.2)=[assign tg X.env]:=by rfl):PS X (.Assign [tg] e pos) (tAsg te g):=by
 intro pins s σ H D I h
 (refine wpAny_Assign_stores (thn (he pins s σ H _ I h) ?_) hs hw;rintro v s1 ⟨x,H1,I1,r1,q1⟩)
 rw[h1];exact thn (hg pins s1 σ H1 x v _ I1 r1 q1) λ_ s2 q=>q
theorem we7{i:Nat}{x:Str}{e:Expr}{te:TE}{pos':Pos}(hN:X.N.Nodup)(hi:X.N[i]?=some x)(hx:Loc X.env.scope x)(he:PE X e te)(hs:W5 e (some (.Name x pos')) pos.line X.env=pure false:=by rfl)(hf:X.fn x=true\/X.env.scope.names.lookup x=some .local:=by first|exact .inl rfl|exact .inr rfl|assumption) :
  PS X (.Assign [.Name x pos'] e pos) (tAsg te (w60 i)):=by
 intro pins s σ H D I h
 (refine wpAny_Assign_Name (thn (he pins s σ H _ I h) ?_) hs;rintro v s1 ⟨y,H1,I1,r1,q1⟩)
 exact um4 I1 hN hi hx r1 (λs2 I2=>⟨_,H1,I2,q1⟩) hf
def tAug(i:Nat)(te:TE)(ti:TIp):TS:=λD σ H=>∃x,σ[i]?=some (some x)/\te σ H λy H1=>ti x y H1 λz H2=>D.nx (σ.set i (some z)) H2
theorem wf1{i:Nat}{x:Str}{e:Expr}{te:TE}{op:Operator}{ti:TIp}{pos':Pos}(hN:X.N.Nodup)(hi:X.N[i]?=some x)(hx:Loc X.env.scope x)(he:PE X e te)(ho:PIp X op ti)(hf:X.fn x=true\/X.env.scope.names.lookup x=some .local:=by first|exact .inl rfl|exact .inr rfl|assumption) :
  PS X (.AugAssign (.Name x pos') op e pos) (tAug i te ti):=by
 intro pins s σ H D I h;obtain⟨v,e1,h⟩:=h;obtain⟨m,hn,hl⟩:=I.loc;have vis:Vis X.env.scope x:=by rcases hx with k|k;exact .inl k;exact .inr (.inl k)
 obtain⟨u,r,l⟩:=hl i x v hi e1 vis;refine wpAny_AugAssign_Name ?_;have go:wpAny (model X.prog X.w) X.A (eval e X.env) (λw s₂=>wpAny (model X.prog X.w) X.A (A30 op u w) (λr s₃=>wpAny (model X.prog X.w) X.A (C08 X.env x r) (λ_=>SP X pins D .next) X.xe s₃) X.xe s₂) X.xe s:=by
  (refine thn (he pins s σ H _ I h) ?_;rintro w s1 ⟨y,H1,I1,r1,q1⟩)
  (refine thn (ho pins s1 σ H1 v y u w _ I1 r r1 q1) ?_;rintro z s2 ⟨zv,H2,I2,r2,q2⟩)
  exact um4 I2 hN hi hx r2 (λs3 I3=>⟨_,H2,I3,q2⟩) hf
 rcases l with⟨hk,hm⟩|⟨hk,c,hc,hcell⟩
 ·exact wpAny_loadName_local I.ok.kind hk hn hm go
 ·rcases hk with hk|hk
  ·exact wpAny_loadName_cell I.ok.kind hk hc hcell go
  ·rcases hx with k|k
   ·have:X.env.scope.names.lookup x=some .free:=hk
    rw[k] at this;cases this
   ·have:X.env.scope.names.lookup x=some .free:=hk
    rw[k] at this;cases this
end
section
variable{X:Cx}{pos:Pos}
def vp1(c:TT)(tb:TS):TS:=λD σ H=>∃W:Nat->St->Hp->Prop,(∃m,W m σ H)/\∀m σ H,W m σ H ->
 c σ H λb H1=>if b=true then∃N:St->Hp->Prop,(∀σ' H',N σ' H'->∃m',m'<m/\W m' σ' H')/\tb { D with nx:=N,ct:=N,bk:=D.nx} σ H1 else D.nx σ H1
theorem vh2{c:Expr}{body:List Stmt}{tc:TT}{tb:TS}(hp:A63 (model X.prog X.w) X.A X.env X.xe)(hc:PT X c tc)(hb:PSs X body tb):PS X (.While c body [] pos) (vp1 tc tb):=by
 intro pins s σ H D I h;obtain⟨W,⟨m0,w0⟩,turn⟩:=h;refine wpAny_While (codeAny_whileLoop (λn s'=>∃σ' H',Inv X pins σ' H' s'/\W n σ' H') ?_ m0 ⟨σ,H,I,w0⟩);rintro n s1 ⟨σ1,H1,I1,w1⟩
 (refine S9 hp (thn (hc pins s1 σ1 H1 _ I1 (turn n σ1 H1 w1)) ?_);rintro b s2 ⟨H2,I2,q2⟩)
 cases b with
 | true =>
  obtain⟨N,hN,q2⟩:=q2;rw[if_pos rfl];refine S9 hp (thn (hb pins s2 σ1 H2 _ I2 q2) λf s3 q3=>?_);cases f with
  | next =>
   obtain⟨σ3,H3,I3,n3⟩:=q3;obtain⟨m',hm,w3⟩:=hN σ3 H3 n3;exact⟨m',hm,σ3,H3,I3,w3⟩
  | cont =>
   obtain⟨σ3,H3,I3,n3⟩:=q3;obtain⟨m',hm,w3⟩:=hN σ3 H3 n3;exact⟨m',hm,σ3,H3,I3,w3⟩
  | brk=>exact q3
  | ret v=>exact q3
 | false =>
  rw[if_neg C7];exact A14 ⟨σ1,H2,I2,q2⟩
end
structure It where
 go:Nat->Hp->Prop
 yld:Nat->Hp->V->Hp->Prop
 stop:Nat->Hp->Prop
def FpOk(X:Cx)(pins:List (Addr×Obj))(H:Hp)(b:Addr):Prop :=
 H b=none/\b≠X.env.locals/\b∉X.fs/\(b∈X.ex\/X.s₀.heap.objs.size<=b)/\(∀x c,X.env.cells.lookup x=some c->c≠b)/\∀p∈X.pn++pins,p.1≠b
theorem Inv.fpOk{X:Cx}{pins:List (Addr×Obj)}{σ:St}{H H':Hp}{s:Shared}{b:Addr}(I:Inv X pins σ H s)(hb:s.heap.objs.size<=b)(hn:H' b=none):FpOk X pins H' b:=by
 refine⟨hn,T6 (B8 I.lt hb),I.nofs hb,.inr (D4 I.sz hb),λx c e z=>?_,λp hp z=>?_⟩
 ·obtain⟨v,q⟩:=I.cell x c e
  exact absurd (B8 q.lt (by rw[z];exact hb)) (W2 _)
 ·exact absurd (B8 (D5 (I.pin p hp).1) (by rw[z];exact hb)) (W2 _)
structure Turn(P:Program)(w:World)(K:W.Frag)(tg:Expr)(J:It)(fp:List Addr)(it:Addr)(tn:Nat->Heap->Prop):Prop where
 mem:it∈fp
 obj:∀i h,tn i h->∀b∈fp,∃o,h.get? b=some o/\∀v,o.data≠.cell v
 keep:∀i h h',tn i h->(∀b∈fp,∀o,h.get? b=some o->h'.get? b=some o)->tn i h'
 item:∀(X:Cx),X.prog=P->X.w=w->X.K=K->X.calm=true->∀(i:Nat) (pins:List (Addr×Obj)) (s:Shared) (σ:St) (H:Hp) (E:Value->Shared->Prop),Inv X pins σ H s->(∀b∈fp,FpOk X pins H b)->tn i s.heap->J.go i H ->
  wpAny (model P w) X.A (pyNext (.ref it)) (λr s1=>∃u,r=some u /\
   wpAny (model P w) X.A (A16 tg (.ref it) u) (λ_ s2=>∃x H',Inv X pins σ H' s2/\RelV x u/\J.yld i H x H'/\tn (i+1) s2.heap/\∀b∈fp,H' b=none) E s1) E s
 done:∀(X:Cx),X.prog=P->X.w=w->X.K=K->X.calm=true->∀(i:Nat) (pins:List (Addr×Obj)) (s:Shared) (σ:St) (H:Hp) (E:Value->Shared->Prop),Inv X pins σ H s->(∀b∈fp,FpOk X pins H b)->tn i s.heap->J.stop i H ->
  wpAny (model P w) X.A (pyNext (.ref it)) (λr s1=>r=none/\Inv X pins σ H s1) E s
 self:∀(A:Around) (i:Nat) (s:Shared) (Q:Value->Shared->Prop) (E:Value->Shared->Prop),tn i s.heap->Q (.ref it) s->wpAny (model P w) A (pyIter (.ref it)) Q E s
abbrev TI:=St->Hp->(It->Hp->Prop)->Prop
def PIE(X:Cx)(pins:List (Addr×Obj))(σ:St)(tg:Expr)(R:It->Hp->Prop)(itv:Value)(s2:Shared):Prop :=
 ∃(it:Addr) (fp:List Addr) (tn:Nat->Heap->Prop) (J:It) (H':Hp),itv=.ref it/\Inv X pins σ H' s2/\Turn X.prog X.w X.K tg J fp it tn/\tn 0 s2.heap/\(∀b∈fp,FpOk X pins H' b)/\R J H'
def PI(X:Cx)(tg iter:Expr)(wi:TI):Prop :=
 ∀(pins:List (Addr×Obj)) (s:Shared) (σ:St) (H:Hp) (R:It->Hp->Prop),Inv X pins σ H s->wi σ H R ->
  wpAny (model X.prog X.w) X.A (eval iter X.env) (λv s1=>wpAny (model X.prog X.w) X.A (pyIter v) (PIE X pins σ tg R) X.xe s1) X.xe s
theorem vl7 {M : Model} {A : Around} {E : Value -> Shared -> Prop} {s : Shared} {tg : Expr} {it : Addr} {u : Value} {o : Obj} {n : String} {vs : Array Value} {Q : Unit -> Shared -> Prop} (ho : s.heap.get? it = some o) (hc : o.cls = .type n) (hd : o.data = .fields vs)
    (hn:["enumerate", "zip", "dict_itemiterator", "dict_reverseitemiterator", "odict_iterator", "itertools.zip_longest", "itertools.pairwise"].contains n=false) (hQ:Q () s):wpAny M A (A16 tg (.ref it) u) Q E s:=by
  unfold A16;cases tg <;> first
    | exact C9 hQ
    | (cases u <;> first
        | exact C9 hQ
        | (refine wpAny_bind (wpAny_load ho ?_)
           rw[hc,hd]
           show wpAny M A (if(["enumerate", "zip", "dict_itemiterator", "dict_reverseitemiterator", "odict_iterator", "itertools.zip_longest", "itertools.pairwise"].contains n&&vs[0]?==some (rawInt _))=true then _ else _) Q E s
           rw[if_neg (by intro h;rw[hn,Bool.false_and] at h;cases h)];exact C9 hQ))
def Itl(K:W.Frag)(a:Addr):It :=
 ⟨λi H=>∃xs x,SqL K H a xs/\xs[i]?=some x,λi H x H'=>H'=H/\∀xs,SqL K H a xs->xs[i]?=some x,λi H=>∃xs,SqL K H a xs/\xs.length<=i⟩
def Itt(K:W.Frag)(a:Addr):It :=
 ⟨λi H=>∃xs x,SqT K H a xs/\xs[i]?=some x,λi H x H'=>H'=H/\∀xs,SqT K H a xs->xs[i]?=some x,λi H=>∃xs,SqT K H a xs/\xs.length<=i⟩
def Itr(lo:Int)(n:Nat):It:=⟨λi _=>i<n,λi H x H'=>H'=H/\x=.int (lo+i),λi _=>n<=i⟩
theorem v46{P:Program}{w:World}{K:W.Frag}{tg:Expr}(a it:Addr):Turn P w K tg (Itl K a) [it] it (λi h=>h.IsListIter it a i) where
 mem:=by simp
 obj:=λi h st b hb=>by
  have e:b=it:=by simpa using hb
  subst e;obtain⟨o,e,c,d⟩:=st;exact⟨o,e,λv z=>by rw[d] at z;cases z⟩
 keep:=λi h h' st k=>st.at λo e=>k it (by simp) o e
 item:=by
  intro X hP hw hK hc i pins s σ H E I hf st hg;subst hP hw hK;obtain⟨xs,x,hq,hx⟩:=hg;obtain⟨its,rv,p,hz⟩:=I.list hq;obtain⟨u,hu,ru⟩:=rv.get hx;obtain⟨f0,f1,f2,f3,f4,f5⟩:=hf it (by simp);refine wpAny_pyNext_list_item st p.isList (x:=u) (by simpa using hu) λh' st' sb=>?_
  have I1:Inv X pins σ H { s with heap:=h'}:=I.turned (t':=s.toks) (λb o hb e=>(sb.2 b hb).trans e) f0 f1 f3 f4 f5
  obtain⟨o,e,c,d⟩:=id st';exact⟨u,rfl,vl7 (s:={ s with heap:=h'}) e c d (by decide) ⟨x,H,I1,ru,⟨rfl,λys hy=>by rw[I.list_inj hy hq];exact hx⟩,st',λb hb=>(hf b hb).1⟩⟩
 done:=by
  intro X hP hw hK hc i pins s σ H E I hf st hg;subst hP hw hK;obtain⟨xs,hq,hx⟩:=hg;obtain⟨its,rv,p,hz⟩:=I.list hq;obtain⟨f0,f1,f2,f3,f4,f5⟩:=hf it (by simp);have hl:=rv.length;exact wpAny_pyNext_list_end (I.ok.hd hc) st p.isList (by simp;omega) λh' eb=>⟨rfl,I.turned (t':=s.toks) (λb o hb e=>eb b o hb e) f0 f1 f3 f4 f5⟩
 self:=λ_ _ _ _ _ st h=>wpAny_pyIter_listiter st h
theorem uz7{P:Program}{w:World}{K:W.Frag}{tg:Expr}(a it:Addr):Turn P w K tg (Itt K a) [it] it (λi h=>h.IsTupleIter it a i) where
 mem:=by simp
 obj:=λi h st b hb=>by
  have e:b=it:=by simpa using hb
  subst e;obtain⟨o,e,c,d⟩:=st;exact⟨o,e,λv z=>by rw[d] at z;cases z⟩
 keep:=λi h h' st k=>st.at λo e=>k it (by simp) o e
 item:=by
  intro X hP hw hK hc i pins s σ H E I hf st hg;subst hP hw hK;obtain⟨xs,x,hq,hx⟩:=hg;obtain⟨its,rv,p,hz⟩:=I.tuple hq;obtain⟨u,hu,ru⟩:=rv.get hx;obtain⟨f0,f1,f2,f3,f4,f5⟩:=hf it (by simp);refine wpAny_pyNext_tuple_item st (show s.heap.IsTuple a its.toArray from p) (x:=u) (by simpa using hu) λh' st' sb=>?_
  have I1:Inv X pins σ H { s with heap:=h'}:=I.turned (t':=s.toks) (λb o hb e=>(sb.2 b hb).trans e) f0 f1 f3 f4 f5
  obtain⟨o,e,c,d⟩:=id st';exact⟨u,rfl,vl7 (s:={ s with heap:=h'}) e c d (by decide) ⟨x,H,I1,ru,⟨rfl,λys hy=>by rw[I.tuple_inj hy hq];exact hx⟩,st',λb hb=>(hf b hb).1⟩⟩
 done:=by
  intro X hP hw hK hc i pins s σ H E I hf st hg;subst hP hw hK;obtain⟨xs,hq,hx⟩:=hg;obtain⟨its,rv,p,hz⟩:=I.tuple hq;obtain⟨f0,f1,f2,f3,f4,f5⟩:=hf it (by simp);have hl:=rv.length;exact wpAny_pyNext_tuple_end (I.ok.hd hc) st (show s.heap.IsTuple a its.toArray from p) (by simp;omega) λh' eb=>⟨rfl,I.turned (t':=s.toks) (λb o hb e=>eb b o hb e) f0 f1 f3 f4 f5⟩
 self:=λ_ _ _ _ _ st h=>wpAny_pyIter_tupleiter st h
theorem uz8{P:Program}{w:World}{K:PySem.W.Frag}{tg:Expr}(it:Addr)(lo:Int)(n:Nat):Turn P w K tg (Itr lo n) [it] it (λi h=>IsRangeIter h it (lo+(i:Nat)*1) ((n:Int)-(i:Nat)) 1) where
 mem:=by simp
 obj:=λi h st b hb=>by
  have e:b=it:=by simpa using hb
  subst e;exact⟨_,st,λv z=>by
   have z':B56 _=B05 v:=z;cases z'⟩
 keep:=λi h h' st k=>k it (by simp) _ st
 item:=by
  intro X hP hw hK hc i pins s σ H E I hf st hg;subst hP hw hK;obtain⟨f0,f1,f2,f3,f4,f5⟩:=hf it (by simp);have W:=Walks.range (prog:=X.prog) (w:=X.w) (I.ok.hd hc) it lo 1 n;refine W.item i s _ _ hg st λv h' tk hv st' kk=>?_
  obtain⟨t,rfl⟩:=hv;have I1:Inv X pins σ H { s with heap:=h',toks:=tk}:=I.turned (λb o hb e=>kk b o (by simpa using hb) e) f0 f1 f3 f4 f5
  refine⟨_,rfl,vl7 (s:={ s with heap:=h',toks:=tk}) (n := "range_iterator") st' rfl rfl (by decide) ⟨.int (lo+i),H,I1,⟨t,?_⟩,⟨rfl,rfl⟩,st',λb hb=>(hf b hb).1⟩⟩;rw[A96]
 done:=by
  intro X hP hw hK hc i pins s σ H E I hf st hg;subst hP hw hK;obtain⟨f0,f1,f2,f3,f4,f5⟩:=hf it (by simp);exact wpAny_pyNext_range_end (I.ok.hd hc) st (by have:n<=i:=hg;omega) λh' eb=>⟨rfl,I.turned (t':=s.toks) (λb o hb e=>eb b o hb e) f0 f1 f3 f4 f5⟩
 self:=λ_ _ _ _ _ st h=>wpAny_pyIter_rangeiter st h
section
variable{X:Cx}{tg:Expr}
theorem vg9{pins:List (Addr×Obj)}{σ:St}{H:Hp}{s:Shared}{R:It->Hp->Prop}{E:Value->Shared->Prop}{lo hi:Int}{t u v:Tok}{tk:Nat}(I:Inv X pins σ H s)(h1:-(2^62)<=lo)(h2:lo<2^62)(h3:-(2^62)<=hi)(h4:hi<2^62)
  (q:R (Itr lo (hi-lo).toNat) H):wpAny (model X.prog X.w) X.A (pyIter (.ref s.heap.objs.size)) (PIE X pins σ tg R) E { s with heap:=s.heap.push { cls:=.type "range",data:=.fields #[.int lo t,.int hi u,.int 1 v]},toks:=tk}:=by
 refine wpAny_pyIter_range (C22 ..) (small_one h1 h2 h3 h4) ?_;have I1:Inv X pins σ H { s with heap:=s.heap.push { cls:=.type "range",data:=.fields #[.int lo t,.int hi u,.int 1 v]},toks:=tk}:=I.kept λb o e=>B7 _ e
 refine⟨(s.heap.push { cls:=.type "range",data:=.fields #[.int lo t,.int hi u,.int 1 v]}).objs.size,[(s.heap.push { cls:=.type "range",data:=.fields #[.int lo t,.int hi u,.int 1 v]}).objs.size],_,_,H,rfl,
  I1.kept (t':=tk) λb o e=>B7 _ e,uz8 _ lo (hi-lo).toNat,?_,λb hb=>?_,q⟩
 ·have e1:lo+((0:Nat):Int)*1=lo:=by simp
  have e2:(((hi-lo).toNat:Nat):Int)-((0:Nat):Int)=A53 lo hi 1:=by rw[rangeSize_one];split <;> omega
  show IsRangeIter _ _ (lo+((0:Nat):Int)*1) ((((hi-lo).toNat:Nat):Int)-((0:Nat):Int)) 1
  rw[e1,e2];exact D8 _ rfl
 ·have e:b=(s.heap.push { cls:=.type "range",data:=.fields #[.int lo t,.int hi u,.int 1 v]}).objs.size:=by simpa using hb
  subst e;exact I1.fpOk (B9 _) (I1.hok.fresh (B9 _))
def wq6(ta:TA):TI:=λσ H R=>ta σ H λvs H1=>∃j:Int,vs=[.int j]/\-(2^62)<=j/\j<2^62/\R (Itr 0 j.toNat) H1
theorem v74{a:Expr}{ta:TA}{p pos:Pos}(hg:Gl X "range")(hm:X.mg "range" = none)(ha:PA X [a] ta)(hs:C5 [a] X.env=[(false,eval a X.env)]:=by rfl):PI X tg (.Call (.Name "range" p) [a] [] pos) (wq6 ta):=by
 intro pins s σ H R I h
 (refine Call_ (ub1 I hg hm boot_range (K4 (thn (ha pos pins s σ H _ I h) ?_) hs rfl));rintro us s1 ⟨vs,H1,I1,r1,q1⟩)
 obtain⟨j,e,q1,q2,q⟩:=q1;subst e;cases r1 with
 | cons r rr =>
  cases rr;obtain⟨t,rfl⟩:=r;exact call_range_1 (vg9 I1 (by omega) (by omega) q1 q2 (by simpa using q))
def tFor(wi:TI)(g:TG)(tb:TS):TS:=λD σ H=>wi σ H λJ H1=>∃W:Nat->Nat->St->Hp->Prop,(∃m,W 0 m σ H1)/\∀i m σ H,W i m σ H ->
 (J.stop i H/\D.nx σ H)\/(J.go i H/\∃N:St->Hp->Prop,(∀σ' H',N σ' H'->∃m',m'<m/\W (i+1) m' σ' H')/\∀x H',J.yld i H x H'->g x σ H' λσ2 H2=>tb { D with nx:=N,ct:=N,bk:=D.nx} σ2 H2)
def uq4(fp:List Addr)(h:Heap):List (Addr×Obj):=fp.filterMap λb=>(h.get? b).map λo=>(b,o)
theorem ua5{fp:List Addr}{h:Heap}{b:Addr}{o:Obj}(hb:b∈fp)(e:h.get? b=some o):(b,o)∈uq4 fp h:=B17.mpr ⟨b,hb,by rw[e];rfl⟩
theorem v81{fp:List Addr}{h:Heap}{p:Addr×Obj}(hp:p∈uq4 fp h):p.1∈fp/\h.get? p.1=some p.2:=by
 obtain⟨b,hb,e⟩:=B17.mp hp;cases q:h.get? b with
 | none=>rw[q] at e;cases e
 | some o =>
  rw[q] at e;have e':(b,o)=p:=E2 e;subst e';exact⟨hb,q⟩
theorem Inv.pinned{pins:List (Addr×Obj)}{σ:St}{H:Hp}{s:Shared}{fp:List Addr}(I:Inv X pins σ H s)(hf:∀b∈fp,FpOk X pins H b)(ho:∀b∈fp,∃o,s.heap.get? b=some o/\∀v,o.data≠.cell v):Inv X (pins++uq4 fp s.heap) σ H s :=
 I.pins_of λp hp=>(K2.mp hp).elim (λz=>I.pin p (K6 _ z)) λz=>by
  obtain⟨hb,e⟩:=v81 z;obtain⟨f0,f1,f2,_⟩:=hf p.1 hb;obtain⟨o,e',d⟩:=ho p.1 hb;rw[e] at e';cases e';exact⟨e,f0,f1,f2,d⟩
theorem Inv.unpinned{pins pl:List (Addr×Obj)}{σ:St}{H:Hp}{s:Shared}(I:Inv X (pins++pl) σ H s):Inv X pins σ H s:=I.pins_of λp hp=>I.pin p (K6 _ (A02 _ hp))
theorem we9{iter:Expr}{body:List Stmt}{wi:TI}{g:TG}{tb:TS}{pos:Pos}(hp:A63 (model X.prog X.w) X.A X.env X.xe)(hc:X.calm=true)(hi:PI X tg iter wi)(hg:PG X tg g)(hb:PSs X body tb)
  (hs:∀x,U2 iter X.env x=pure x:=by intro _;rfl):PS X (.For tg iter body [] pos) (tFor wi g tb):=by
 intro pins s σ H D I h;refine wpAny_For (thn (hi pins s σ H _ I h) λv s1 h1=>thn h1 λitv s2 h2=>?_) hs;obtain⟨it,fp,tn,J,H2,e,I2,T,st2,f2,W,⟨m0,w0⟩,turn⟩:=h2;subst e;have stat:∀{H':Hp},(∀b∈fp,H' b=none)->∀b∈fp,FpOk X pins H' b:=λhn b hb=>⟨hn b hb,(f2 b hb).2⟩
 refine codeAny_forLoop_any (λn s'=>∃i σ' H',Inv X pins σ' H' s'/\tn i s'.heap/\(∀b∈fp,H' b=none)/\W i n σ' H') ?_ m0 ⟨0,σ,H2,I2,st2,λb hb=>(f2 b hb).1,w0⟩;rintro n s3 ⟨i,σ3,H3,I3,st3,fr3,w3⟩
 rcases turn i n σ3 H3 w3 with⟨stop,qn⟩|⟨go,N,hN,step⟩
 ·(refine S9 hp (thn (T.done X rfl rfl rfl hc i pins s3 σ3 H3 X.xe I3 (stat fr3) st3 stop) ?_);rintro r s4 ⟨hr,I4⟩)
  subst hr;exact A14 ⟨σ3,H3,I4,qn⟩
 ·(refine S9 hp (thn (T.item X rfl rfl rfl hc i pins s3 σ3 H3 X.xe I3 (stat fr3) st3 go) ?_);rintro r s4 ⟨u,hr,h4⟩)
  subst hr
  (refine S9 hp (thn h4 ?_);rintro _ s5 ⟨x,H5,I5,r5,y5,st5,fr5⟩)
  have I5':=I5.pinned (stat fr5) (T.obj _ _ st5)
  (refine S9 hp (thn (hg _ s5 σ3 H5 x u _ I5' r5 (step x H5 y5)) ?_);rintro _ s6 ⟨σ6,H6,I6,q6⟩)
  refine S9 hp (thn (hb _ s6 σ6 H6 _ I6 q6) λf s7 q7=>?_);have again:∀{σ7:St} {H7:Hp},Inv X (pins++uq4 fp s5.heap) σ7 H7 s7->N σ7 H7->∃m,m<n/\∃i σ' H',Inv X pins σ' H' s7/\tn i s7.heap/\(∀b∈fp,H' b=none)/\W i m σ' H':=λ{σ7 H7} I7 n7=>by
   obtain⟨m',hm,w7⟩:=hN σ7 H7 n7;refine⟨m',hm,i+1,σ7,H7,I7.unpinned,T.keep _ _ _ st5 λb hb o e=>(I7.pin (b,o) (K6 _ (K6 _ (ua5 hb e)))).1,λb hb=>?_,w7⟩;obtain⟨o,e,d⟩:=T.obj _ _ st5 b hb;exact(I7.pin (b,o) (K6 _ (K6 _ (ua5 hb e)))).2.1
  cases f with
  | next=>obtain⟨σ7,H7,I7,n7⟩:=q7;exact again I7 n7
  | cont=>obtain⟨σ7,H7,I7,n7⟩:=q7;exact again I7 n7
  | brk=>obtain⟨σ7,H7,I7,q7⟩:=q7;exact⟨σ7,H7,I7.unpinned,q7⟩
  | ret v=>obtain⟨x7,σ7,H7,I7,r7,q7⟩:=q7;exact⟨x7,σ7,H7,I7.unpinned,r7,q7⟩
end
abbrev R2:=V->V->Hp->VK->Prop
def OpR(X:Cx)(f:Value->Value->Sem Value)(r:R2):Prop :=
 ∀(pins:List (Addr×Obj)) (s:Shared) (σ:St) (H:Hp) (x y:V) (v u:Value) (Q:VK),Inv X pins σ H s->RelV x v->RelV y u->r x y H Q ->
  wpAny (model X.prog X.w) X.A (f v u) (EP X pins σ Q) X.xe s
def CallR(X:Cx)(f:Value)(r:List V->Hp->VK->Prop):Prop :=
 ∀(pins:List (Addr×Obj)) (s:Shared) (σ:St) (H:Hp) (xs:List V) (us:List Value) (Q:VK),Inv X pins σ H s->Vals xs us->r xs H Q ->
  wpAny (model X.prog X.w) X.A (call f us) (EP X pins σ Q) X.xe s
def tOp(r:R2)(ta tb:TE):TE:=λσ H Q=>ta σ H λx H1=>tb σ H1 λy H2=>r x y H2 Q
def rI(C:Int->Int->Prop)(g:Int->Int->V):R2:=λx y H Q=>∃i j,x=.int i/\y=.int j/\C i j/\Q (g i j) H
def rI0(g:Int->Int->V):R2:=λx y H Q=>∃i j,x=.int i/\y=.int j/\Q (g i j) H
section
variable{X:Cx}{a b c:Expr}{ta tb tc:TE}{pos:Pos}
theorem binT(ha:PE X a ta)(hb:PE X b tb){pins:List (Addr×Obj)}{s:Shared}{σ:St}{H:Hp}{R:V->V->Hp->Prop}(I:Inv X pins σ H s)
  (h:ta σ H λx H1=>tb σ H1 λy H2=>R x y H2) {Q:Value->Shared->Prop} {f:Value->Value->Sem Value}
  (hf:∀v u s2 x y H2,Inv X pins σ H2 s2->RelV x v->RelV y u->R x y H2->wpAny (model X.prog X.w) X.A (f v u) Q X.xe s2) :
  wpAny (model X.prog X.w) X.A (eval a X.env) (λv s₁=>wpAny (model X.prog X.w) X.A (eval b X.env) (λu s₂=>wpAny (model X.prog X.w) X.A (f v u) Q X.xe s₂) X.xe s₁) X.xe s:=by
 (refine thn (ha pins s σ H _ I h) ?_;rintro v s1 ⟨x,H1,I1,r1,q1⟩)
 (refine thn (hb pins s1 σ H1 _ I1 q1) ?_;rintro u s2 ⟨y,H2,I2,r2,q2⟩)
 exact hf v u s2 x y H2 I2 r1 r2 q2
theorem x10{op:Operator}{r:R2}(ho:OpR X (K7 op) r)(ha:PE X a ta)(hb:PE X b tb):PE X (.BinOp a op b pos) (tOp r ta tb):=by
 intro pins s σ H Q I h;exact wpAny_BinOp (binT ha hb I h λv u s2 x y H2 I2 rx ry q=>ho pins s2 σ H2 x y v u Q I2 rx ry q)
theorem opI{f:Value->Value->Sem Value}{C:Int->Int->Prop}{g:Int->Int->Int}
  (rule:∀(i j:Int) (t u:Tok) (s:Shared) (Q:Value->Shared->Prop) (E:Value->Shared->Prop),C i j->Q (.int (g i j) s.toks) { s with toks:=s.toks+1}->wpAny (model X.prog X.w) X.A (f (.int i t) (.int j u)) Q E s) :
  OpR X f (rI C λi j=>.int (g i j)):=by
 intro pins s σ H x y v u Q I rx ry h;obtain⟨i,j,rfl,rfl,hc,q⟩:=h;obtain⟨t,rfl⟩:=rx;obtain⟨t',rfl⟩:=ry;exact rule i j t t' s _ _ hc ⟨.int (g i j),H,I.tok _,⟨_,rfl⟩,q⟩
theorem opI0{f:Value->Value->Sem Value}{g:Int->Int->Int}
  (rule:∀(i j:Int) (t u:Tok) (s:Shared) (Q:Value->Shared->Prop) (E:Value->Shared->Prop),Q (.int (g i j) s.toks) { s with toks:=s.toks+1}->wpAny (model X.prog X.w) X.A (f (.int i t) (.int j u)) Q E s) :
  OpR X f (rI0 λi j=>.int (g i j)):=by
 intro pins s σ H x y v u Q I rx ry h;obtain⟨i,j,rfl,rfl,q⟩:=h;obtain⟨t,rfl⟩:=rx;obtain⟨t',rfl⟩:=ry;exact rule i j t t' s _ _ ⟨.int (g i j),H,I.tok _,⟨_,rfl⟩,q⟩
theorem opB0{f:Value->Value->Sem Value}{g:Int->Int->Bool}
  (rule:∀(i j:Int) (t u:Tok) (s:Shared) (Q:Value->Shared->Prop) (E:Value->Shared->Prop),Q (.bool (g i j)) s->wpAny (model X.prog X.w) X.A (f (.int i t) (.int j u)) Q E s) :
  OpR X f (rI0 λi j=>.bl (g i j)):=by
 intro pins s σ H x y v u Q I rx ry h;obtain⟨i,j,rfl,rfl,q⟩:=h;obtain⟨t,rfl⟩:=rx;obtain⟨t',rfl⟩:=ry;exact rule i j t t' s _ _ ⟨.bl (g i j),H,I,rfl,q⟩
def CDiv(i j:Int):Prop:=0<j/\j<1073741824
def CPow(i j:Int):Prop:=0<=j/\j<=1000000/\i.natAbs<2^64
def CMul(i j:Int):Prop:=(-(2^64)<i/\i<2^64)\/(-(2^64)<j/\j<2^64)
theorem CMul.ok{i j:Int}(h:CMul i j):IntMulOk i j:=by
 rcases h with⟨h1,h2⟩|⟨h1,h2⟩
 ·exact .of_left (intBits_le_64 h1 h2)
 ·exact .of_right (intBits_le_64 h1 h2)
theorem uz6(k:Nat):(0:Int)<=2^k:=by
 rw[two_pow_cast];exact Int.natCast_nonneg _
theorem op_add:OpR X (K7 .Add) (rI0 λi j=>.int (i+j)):=opI0 λ_ _ _ _ _ _ _ q=>add_int q
theorem wh0:OpR X (K7 .Sub) (rI0 λi j=>.int (i-j)):=opI0 λ_ _ _ _ _ _ _ q=>sub_int q
theorem op_mul:OpR X (K7 .Mult) (rI CMul λi j=>.int (i*j)):=opI λ_ _ _ _ _ _ _ hc q=>mul_int q hc.ok
theorem x21:OpR X (K7 .FloorDiv) (rI CDiv λi j=>.int (i / j)):=opI λi j _ _ _ _ _ hc q=>by
 have h1:(0:Int)<j:=hc.1;have h2:j<1073741824:=hc.2;exact floordiv_int (by omega) (by rw[R5 i (by omega)];exact q) (.inl (A65 (by omega)))
theorem wh6:OpR X (K7 .Mod) (rI (λ_ j=>0<j) λi j=>.int (i%j)):=opI λi j _ _ _ _ _ hc q=>by
 have h1:(0:Int)<j:=hc;exact mod_int' (by omega) (by rw[A32 i (by omega)];exact q)
theorem wh4:OpR X (K7 .Pow) (rI CPow λi j=>.int (i^j.toNat)):=opI λ_ _ _ _ _ _ _ hc q=>pow_int_small hc.1 hc.2.1 hc.2.2 q
theorem wh2:OpR X (K7 .LShift) (rI CPow λi j=>.int (i*2^j.toNat)):=opI λ_ _ _ _ _ _ _ hc q=>lshift_int_small hc.1 hc.2.1 hc.2.2 q
theorem wh1:OpR X (K7 .RShift) (rI (λ_ j=>0<=j) λi j=>.int (i / 2^j.toNat)):=opI λi j _ _ _ _ _ hc q =>
 rshift_int hc (by rw[R5 i (uz6 _)];exact q)
theorem wh9:OpR X (K7 .BitAnd) (rI0 λi j=>.int (V1 i j)):=opI0 λ_ _ _ _ _ _ _ q=>and_int q
theorem x17:OpR X (K7 .BitOr) (rI0 λi j=>.int (Z9 i j)):=opI0 λ_ _ _ _ _ _ _ q=>or_int q
theorem wg9:OpR X (K7 .BitXor) (rI0 λi j=>.int (X0 i j)):=opI0 λ_ _ _ _ _ _ _ q=>xor_int q
theorem w56:OpR X (A30 .Add) (rI0 λi j=>.int (i+j)):=opI0 λ_ _ _ _ _ _ _ q=>iadd_int q
end
def scal:V->V->Bool
 | .non,.non=>true|.non,.int _=>true|.int _,.non=>true|.non,.bl _=>true|.bl _,.non=>true|.non,.str _=>true|.str _,.non=>true
 | .int _,.int _=>true|.bl _,.bl _=>true|.str _,.str _=>true|.byt _,.byt _=>true
 | .int _,.str _=>true|.str _,.int _=>true|.bl _,.str _=>true|.str _,.bl _=>true
 | _,_=>false
def rEq:R2:=λx y H Q=>scal x y=true/\Q (.bl (decide (x=y))) H
def rNe:R2:=λx y H Q=>scal x y=true/\Q (.bl (!decide (x=y))) H
theorem vc0{i j:Int}:decide (V.int i=V.int j)=(i==j):=by
 rw[W1];simp
theorem vt5{i j:Bool}:decide (V.bl i=V.bl j)=(i==j):=by
 rw[W1];simp
theorem vb9{i j:Str}:decide (V.str i=V.str j)=(i==j):=by
 rw[W1];simp
theorem vc1{i j:Array UInt8}:decide (V.byt i=V.byt j)=(i.toList==j.toList):=by
 rw[W1];cases i;cases j;simp
section
variable{X:Cx}{a b c:Expr}{ta tb tc:TE}{pos:Pos}
theorem u37{pins:List (Addr×Obj)}{σ:St}{H:Hp}{s:Shared}{Q:VK}{k k':Bool}(I:Inv X pins σ H s)(q:Q (.bl k) H)(e:k=k'):EP X pins σ Q (.bool k') s:=by
 subst e;exact⟨.bl k,H,I,rfl,q⟩
theorem op_eq:OpR X (K1 .Eq) rEq:=by
 intro pins s σ H x y v u Q I rx ry h;obtain⟨hs,q⟩:=h;cases x with
 | non =>
  cases rx;cases y with
  | non=>cases ry;exact B79 (u37 I q (by simp))
  | bl j=>cases ry;exact B80 (u37 I q (by simp))
  | int j=>obtain⟨t',rfl⟩:=ry;exact B92 (u37 I q (by simp))
  | str j=>obtain⟨t',rfl⟩:=ry;exact B93 (u37 I q (by simp))
  | _=>exact absurd (show false=true from hs) C7
 | bl i =>
  cases rx;cases y with
  | non=>cases ry;exact B81 (u37 I q (by simp))
  | bl j=>cases ry;exact eq_bool (u37 I q vt5)
  | str j=>obtain⟨t',rfl⟩:=ry;exact B82 (u37 I q (by simp))
  | _=>exact absurd (show false=true from hs) C7
 | int i =>
  obtain⟨t,rfl⟩:=rx;cases y with
  | non=>cases ry;exact B94 (u37 I q (by simp))
  | int j=>obtain⟨t',rfl⟩:=ry;exact eq_int (u37 I q vc0)
  | str j=>obtain⟨t',rfl⟩:=ry;exact B95 (u37 I q (by simp))
  | _=>exact absurd (show false=true from hs) C7
 | str i =>
  obtain⟨t,rfl⟩:=rx;cases y with
  | non=>cases ry;exact B96 (u37 I q (by simp))
  | bl j=>cases ry;exact B83 (u37 I q (by simp))
  | int j=>obtain⟨t',rfl⟩:=ry;exact B97 (u37 I q (by simp))
  | str j=>obtain⟨t',rfl⟩:=ry;exact eq_str (u37 I q vb9)
  | _=>exact absurd (show false=true from hs) C7
 | byt i =>
  obtain⟨t,rfl⟩:=rx;cases y with
  | byt j=>obtain⟨t',rfl⟩:=ry;exact W.eq_bytes (u37 I q vc1)
  | _=>exact absurd (show false=true from hs) C7
 | _=>cases y <;> exact absurd (show false=true from hs) C7
theorem op_ne:OpR X (K1 .NotEq) rNe:=by
 intro pins s σ H x y v u Q I rx ry h;obtain⟨hs,q⟩:=h;cases x with
 | non =>
  cases rx;cases y with
  | non=>cases ry;exact B84 (u37 I q (by simp))
  | bl j=>cases ry;exact B85 (u37 I q (by simp))
  | int j=>obtain⟨t',rfl⟩:=ry;exact B98 (u37 I q (by simp))
  | str j=>obtain⟨t',rfl⟩:=ry;exact B99 (u37 I q (by simp))
  | _=>exact absurd (show false=true from hs) C7
 | bl i =>
  cases rx;cases y with
  | non=>cases ry;exact B86 (u37 I q (by simp))
  | bl j=>cases ry;exact ne_bool (u37 I q (congrArg not vt5))
  | str j=>obtain⟨t',rfl⟩:=ry;exact B87 (u37 I q (by simp))
  | _=>exact absurd (show false=true from hs) C7
 | int i =>
  obtain⟨t,rfl⟩:=rx;cases y with
  | non=>cases ry;exact C00 (u37 I q (by simp))
  | int j=>obtain⟨t',rfl⟩:=ry;exact ne_int (u37 I q (congrArg not vc0))
  | str j=>obtain⟨t',rfl⟩:=ry;exact C01 (u37 I q (by simp))
  | _=>exact absurd (show false=true from hs) C7
 | str i =>
  obtain⟨t,rfl⟩:=rx;cases y with
  | non=>cases ry;exact C02 (u37 I q (by simp))
  | bl j=>cases ry;exact B88 (u37 I q (by simp))
  | int j=>obtain⟨t',rfl⟩:=ry;exact C03 (u37 I q (by simp))
  | str j=>obtain⟨t',rfl⟩:=ry;exact ne_str (u37 I q (congrArg not vb9))
  | _=>exact absurd (show false=true from hs) C7
 | byt i =>
  obtain⟨t,rfl⟩:=rx;cases y with
  | byt j=>obtain⟨t',rfl⟩:=ry;exact W.ne_bytes (u37 I q (congrArg not vc1))
  | _=>exact absurd (show false=true from hs) C7
 | _=>cases y <;> exact absurd (show false=true from hs) C7
theorem op_lt:OpR X (K1 .Lt) (rI0 λi j=>.bl (decide (i<j))):=opB0 λ_ _ _ _ _ _ _ q=>lt_int q
theorem x18:OpR X (K1 .LtE) (rI0 λi j=>.bl (decide (i<=j))):=opB0 λ_ _ _ _ _ _ _ q=>le_int q
theorem x19:OpR X (K1 .Gt) (rI0 λi j=>.bl (decide (j<i))):=opB0 λ_ _ _ _ _ _ _ q=>gt_int q
theorem x20:OpR X (K1 .GtE) (rI0 λi j=>.bl (decide (j<=i))):=opB0 λ_ _ _ _ _ _ _ q=>ge_int q
theorem v77:OpR X (K1 .Lt) (λx y H Q=>∃i j,x=.str i/\y=.str j/\Q (.bl (decide (i.cps.toList<j.cps.toList))) H):=by
 intro pins s σ H x y v u Q I rx ry h;obtain⟨i,j,rfl,rfl,q⟩:=h;obtain⟨t,rfl⟩:=rx;obtain⟨t',rfl⟩:=ry;exact lt_str (u37 I q rfl)
theorem op_notN:OpR X (K1 .IsNot) (λx y H Q=>y=.non/\Q (.bl (!decide (x=.non))) H):=by
 intro pins s σ H x y v u Q I rx ry h;obtain⟨rfl,q⟩:=h;cases ry;refine isnot_none_gen (u37 I q ?_);cases x <;> first
  | (cases rx;rfl)
  | (obtain⟨t,rfl⟩:=rx;rfl)
theorem OpR.or{f:Value->Value->Sem Value}{r r':R2}(h:OpR X f r)(h':OpR X f r'):OpR X f (λx y H Q=>r x y H Q\/r' x y H Q):=by
 intro pins s σ H x y v u Q I rx ry q
 rcases q with q|q
 ·exact h pins s σ H x y v u Q I rx ry q
 ·exact h' pins s σ H x y v u Q I rx ry q
theorem nomark(b:Expr){op:CmpOp}(h:op≠.In:=by decide)(h2:op≠.NotIn:=by decide):X9 op b=false:=by
 have e1:(op==CmpOp.In)=false:=by cases op <;> first|rfl|exact absurd rfl h
 have e2:(op==CmpOp.NotIn)=false:=by cases op <;> first|rfl|exact absurd rfl h2
 cases b <;> simp[X9,e1,e2]
theorem w29{op:CmpOp}{r:R2}(ho:OpR X (K1 op) r)(ha:PE X a ta)(hb:PE X b tb)(hm:X9 op b=false):PE X (.Compare a [op] [b] pos) (tOp r ta tb):=by
 intro pins s σ H Q I h;exact wpAny_Compare1 (binT ha hb I h λv u s2 x y H2 I2 rx ry q=>ho pins s2 σ H2 x y v u Q I2 rx ry q) hm
def x00(t:TE):TT:=λσ H Q=>t σ H λx H'=>∃k,x=.bl k/\Q k H'
theorem w08{op:CmpOp}{r:R2}(ho:OpR X (K1 op) r)(ha:PE X a ta)(hb:PE X b tb)(hm:X9 op b=false):PT X (.Compare a [op] [b] pos) (x00 (tOp r ta tb)):=by
 intro pins s σ H Q I h;refine wpAny_isTrue_Compare1 (thn (ha pins s σ H _ I h) λv s1 ⟨x,H1,I1,r1,q1⟩=>thn (hb pins s1 σ H1 _ I1 q1) λu s2 ⟨y,H2,I2,r2,q2⟩ =>
  thn (ho pins s2 σ H2 x y v u _ I2 r1 r2 q2) λc s3 ⟨z,H3,I3,r3,k,e,q3⟩=>?_) hm
 subst e;cases r3;exact U1 ⟨H3,I3,q3⟩
def vp3(r r':R2)(ta tb tc:TE):TE:=λσ H Q=>ta σ H λx H1=>tb σ H1 λy H2=>r x y H2 λz H3=>∃k,z=.bl k /\
 (if k=true then tc σ H3 λw' H4=>r' y w' H4 Q else Q (.bl false) H3)
theorem vi3{op op':CmpOp}{r r':R2}(ho:OpR X (K1 op) r)(ho':OpR X (K1 op') r')(ha:PE X a ta)(hb:PE X b tb)(hc:PE X c tc)
  (hm:lastMarks [op,op'] [b,c]=false:=by with_unfolding_all rfl):PE X (.Compare a [op,op'] [b,c] pos) (vp3 r r' ta tb tc):=by
 intro pins s σ H Q I h;refine Compare_chain (thn (ha pins s σ H _ I h) λv s1 ⟨x,H1,I1,r1,q1⟩=>chain_link (thn (hb pins s1 σ H1 _ I1 q1) λu s2 ⟨y,H2,I2,r2,q2⟩ =>
  thn (ho pins s2 σ H2 x y v u _ I2 r1 r2 q2) λd s3 ⟨z,H3,I3,r3,k,e,q3⟩=>?_)) hm
 subst e;cases r3;refine U1 ?_;cases k with
 | false=>exact ite_ff ⟨.bl false,H3,I3,rfl,q3⟩
 | true=>exact ite_tt (chain_last (thn (hc pins s3 σ H3 _ I3 q3) λw' s4 ⟨z',H4,I4,r4,q4⟩=>ho' pins s4 σ H4 y z' u w' Q I4 r2 r4 q4))
theorem line63:(sizeLine:Nat)<2^63:=by rw[B58];decide
theorem op_add_str:OpR X (K7 .Add) (λx y H Q=>∃i j,x=.str i/\y=.str j/\i.length+j.length<=sizeLine/\Q (.str (i++j)) H):=by
 intro pins s σ H x y v u Q I rx ry h;obtain⟨i,j,rfl,rfl,hz,q⟩:=h;obtain⟨t,rfl⟩:=rx;obtain⟨t',rfl⟩:=ry;exact add_str (λt' tk=>⟨.str (i++j),H,I.tok _,⟨_,rfl⟩,q⟩) hz
theorem vals1{x:V}{us:List Value}(r:Vals [x] us):∃u,us=[u]/\RelV x u:=by
 cases r with
 | cons r1 r2=>cases r2;exact⟨_,rfl,r1⟩
theorem vals2{x y:V}{us:List Value}(r:Vals [x,y] us):∃u w',us=[u,w']/\RelV x u/\RelV y w':=by
 cases r with
 | cons r1 r2 =>
  cases r2 with
  | cons r3 r4=>cases r4;exact⟨_,_,rfl,r1,r3⟩
theorem vn0:CallR X (.builtin "abs") (λxs H Q=>∃i,xs=[.int i]/\Q (.int (if i<0 then -i else i)) H):=by
 intro pins s σ H xs us Q I r h;obtain⟨i,rfl,q⟩:=h;obtain⟨u,rfl,t,rfl⟩:=vals1 r;exact call_abs_int λu tk=>⟨.int (if i<0 then -i else i),H,I.tok _,⟨_,rfl⟩,q⟩
theorem vd0(hc:X.calm=true):CallR X (.builtin "min") (λxs H Q=>∃i j,xs=[.int i,.int j]/\Q (.int (if j<i then j else i)) H):=by
 intro pins s σ H xs us Q I r h;obtain⟨i,j,rfl,q⟩:=h;obtain⟨u,w',rfl,⟨t,rfl⟩,⟨t',rfl⟩⟩:=vals2 r;refine min_two_ints (I.ok.hd hc) λh' tk k=>⟨_,H,I.kept k,?_,q⟩
 by_cases hj:j<i
 ·rw[if_pos hj,if_pos hj];exact⟨_,rfl⟩
 ·rw[if_neg hj,if_neg hj];exact⟨_,rfl⟩
theorem vd1:CallR X (.type "int") (λxs H Q=>(∃i,xs=[.int i]/\Q (.int i) H)\/∃k,xs=[.bl k]/\Q (.int (if k then 1 else 0)) H):=by
 intro pins s σ H xs us Q I r h
 rcases h with⟨i,rfl,q⟩|⟨k,rfl,q⟩
 ·obtain⟨u,rfl,t,rfl⟩:=vals1 r
  exact call_int_int ⟨.int i,H,I,⟨_,rfl⟩,q⟩
 ·obtain⟨u,rfl,r1⟩:=vals1 r
  cases r1;exact call_int_bool ⟨.int (if k then 1 else 0),H,I.tok _,⟨_,rfl⟩,q⟩
theorem uv1:CallR X (.builtin "divmod") (λxs H Q=>∃i j,xs=[.int i,.int j]/\CDiv i j/\∀p,H p=none->Q (.ref p) (upd H p (.tup [.int (i / j),.int (i%j)]))):=by
 intro pins s σ H xs us Q I r h;obtain⟨i,j,rfl,⟨h1,h2⟩,q⟩:=h;obtain⟨u,w',rfl,⟨t,rfl⟩,⟨t',rfl⟩⟩:=vals2 r;refine divmod_int (by omega) ?_ (.inl (A65 (by omega)));rw[R5 i (by omega),A32 i (by omega)];have hn:H s.heap.objs.size=none:=I.hok.fresh (B9 _);refine⟨.ref s.heap.objs.size,_,?_,rfl,q _ hn⟩;refine I.laid (λb o e=>B7 _ e) (B9 _) ⟨by simp only[C0,A81];rw[B58];decide,[.int (i / j) s.toks,.int (i%j) (s.toks+1)],.cons ⟨_,rfl⟩ (.cons ⟨_,rfl⟩ .nil),?_⟩;exact⟨_,D8 s.heap rfl,rfl,⟨0,rfl⟩,rfl⟩
end
structure ObjM(h:Heap)(x dx C:Addr)(mA:Str->Option Value):Prop where
 obj:h.get? x=some (W.instObj C dx)
 ns:h.Ns1 dx mA
 ne:dx≠x
theorem v96{h:Heap}{dx:Addr}{mA:Str->Option Value}(n:h.Ns1 dx mA):∃od,h.get? dx=some od/\∀name,W.lookIn name od=some (mA name):=by
 obtain⟨o,es,ep,ho,hd,hk,_,hm⟩:=n;refine⟨o,ho,λname=>?_⟩;have e:=hm name;unfold nsFind findBy at e;rw[<- Array.find?_toList] at e;unfold W.lookIn;rw[hd];dsimp only;split
 ·rename_i y q
  rw[q] at e;exact congrArg some e
 ·rename_i q
  rw[q] at e;have a:es.toList.any (·.refKey)=false:=by
   rw[List.any_eq_false];intro y hy;obtain⟨z,t,hkey⟩:=hk y (Array.mem_toList_iff.mp hy);simp[C56,hkey]
  have a':¬ es.toList.any (·.refKey)=true:=by rw[a];exact C7
  rw[if_neg a'];exact congrArg some e
theorem ObjM.look{h:Heap}{x dx C:Addr}{mA:Str->Option Value}(I:ObjM h x dx C mA):∃od,W.InstAt h x (W.instObj C dx) C (some od)/\∀name,W.lookIn name od=some (mA name) :=
 let ⟨od,ho,hl⟩:=v96 I.ns
 ⟨od,⟨I.obj,rfl,rfl,ho⟩,hl⟩
section
variable{prog:Program}{w:World}{A:Around}{E:Value->Shared->Prop}{s:Shared}{K:W.Frag}{x dx C f:Addr}{mA:Str->Option Value}{name:Str}{v:Value}
theorem w59{expr:Bool}{Q:Value->Shared->Prop}(X:K.In s.heap)(I:ObjM s.heap x dx C mA)(hg:W.plainGet K C name=true)(hh:W.hasDictIn K C=true)
  (ha:W.findIn K (.ref C) name=some none) (hv:mA name=some v) (hv':W.handedIn v=true) (h:Q v { s with toks:=s.toks+1}) :
  wpAny (model prog w) A (getAttr (.ref x) name expr) Q E s:=by
 obtain⟨od,J,hl⟩:=I.look;exact W.get_value X J (W.plainGet_of hg).1 (W.findObj_own hh ha rfl (by rw[hl,hv])) hv' h
theorem vl8{pl:Sem Bool}{Q:Value×List Value->Shared->Prop}(X:K.In s.heap)(I:ObjM s.heap x dx C mA)(hg:W.plainGet K C name=true)
  (hf:W.findIn K (.ref C) name=some (some (.ref f))) (ht:W.isFn K (.ref f)=true) (hv:mA name=none) (h:Q (.ref f,[.ref x]) s) :
  wpAny (model prog w) A (Y7 (.ref x) name pl) Q E s:=by
 obtain⟨od,J,hl⟩:=I.look;exact W.method_fn X J (W.plainGet_of hg).1 (W.plainGet_of hg).2 hf (beq_iff_eq.mp ht) (by show(W.lookIn name od).map (·.isSome)=some false;rw[hl,hv];rfl) h
theorem vv8{ns:List Str}{Q:Unit->Shared->Prop}(X:K.In s.heap)(I:ObjM s.heap x dx C mA)
  (hs:W.findIn K (.ref C) "__setattr__" = some (some (.builtin "object.__setattr__"))) (hp:W.plainOver K C=true) (ht:W.takerIn K C name=some none) (hh:W.hasDictIn K C=true)
  (hw:B33 mA ns) (hsz:ns.length<=sizeLine)
  (h:∀h',ObjM h' x dx C (λy=>if y=name then some v else mA y)->Q6 dx s.heap h'->Q () { s with heap:=h',toks:=s.toks+2}) :
  wpAny (model prog w) A (setAttr (.ref x) name v) Q E s:=by
 obtain⟨od,J,hl⟩:=I.look;refine W.set_plain X J hs (W.osa_open (s:={ s with toks:=s.toks+1}) (r:=none) X J hp ht λb=>?_);obtain⟨cd,hc,hd'⟩:=W.any_some hh;have hx:s.heap.get? x=some ⟨.ref C,some dx,.plain,#[]⟩:=I.obj;refine B4 (C9 (B4 (B4 (wpAny_loadPart hx (B4 (W.Looks.here (s:={ s with toks:=s.toks+1}) (W.looks_clsIn X hc) ?_))))));rw[hd'];refine C9 (a:=some dx) (B4 (C9 (B4 ?_)));refine wpAny_nsSet1 (s:={ s with toks:=s.toks+1}) I.ns λh' hn2 hs2=>?_
 obtain⟨oD,esD,epD,hoD,hdD,hcD⟩:=hn2.count (C50 name v hw);refine B4 (wpAny_lookBehind hoD (by rw[hdD];exact pastItsLine_dict (D4 hcD (by rw[C0];omega))) ?_);exact C9 (h _ ⟨(hs2.2 _ (D6 I.ne)).trans I.obj,hn2,I.ne⟩ hs2)
theorem vj2{R:Result->Shared->Prop}{vs:List Value}{kw:List (Str×Value)}(X:K.In s.heap)(hm:W.makesIn K C=true)
  (hi:W.findIn K (.ref C) "__init__" = some (some (.ref f))) (hf:W.typeIn K (.ref f)=some (.type "function"))
  (h:A01 (model prog w) (A.under (.builtin "type.__call__" ⟨.ref C::vs,kw⟩)) (.call (.ref f) ⟨.ref (s.heap.objs.size+1)::vs,kw⟩) (W.InitBack (s.heap.objs.size+1) R)
   { s with heap:=(s.heap.push W.emptyDict).push (W.instObj C s.heap.objs.size)}) :
  A01 (model prog w) A (.call (.ref C) ⟨vs,kw⟩) R s:=by
 obtain⟨hh,g,d,t,os⟩:=s;exact W.make_core (W.makes_of X hm) (W.looks_findIn X hi) (λself=>W.bind_fn X self hf) (.inl rfl) h
end
def putF(f:Str)(v:V):List (Str×V)->List (Str×V)
 | []=>[(f,v)]
 | (g,x)::r=>if g=f then(g,v)::r else(g,x)::putF f v r
theorem uh0(f g:Str)(v:V):∀fs:List (Str×V),(putF f v fs).lookup g=if g=f then some v else fs.lookup g
 | []=>by
  show I0 g [(f,v)]=_
  by_cases h:g=f
  ·have hb:(g==f)=true:=beq_iff_eq.mpr h
   simp only[I0,hb,if_pos h]
  ·have hb:(g==f)=false:=beq_eq_false_iff_ne.mpr h
   simp only[I0,hb,if_neg h]
 | (k,x)::r=>by
  have ih:=uh0 f g v r;rw[show putF f v ((k,x)::r)=(if k=f then(k,v)::r else(k,x)::putF f v r) from rfl]
  by_cases hk:k=f
  ·rw[if_pos hk]
   by_cases h:g=k
   ·have hb:(g==k)=true:=beq_iff_eq.mpr h
    simp only[I0,hb,if_pos (h.trans hk)]
   ·have hb:(g==k)=false:=beq_eq_false_iff_ne.mpr h
    simp only[I0,hb,if_neg (λe:g=f=>h (e.trans hk.symm))]
  ·rw[if_neg hk]
   by_cases h:g=k
   ·have hb:(g==k)=true:=beq_iff_eq.mpr h
    simp only[I0,hb,if_neg (λe:g=f=>hk (h.symm.trans e))]
   ·have hb:(g==k)=false:=beq_eq_false_iff_ne.mpr h
    simp only[I0,hb];exact ih
theorem uh2(f:Str)(v:V):∀fs:List (Str×V),f∈(putF f v fs).map (·.1)/\∀g,g∈fs.map (·.1)->g∈(putF f v fs).map (·.1)
 | []=>⟨by simp[putF],λg h=>by simp at h⟩
 | (k,x)::r=>by
  obtain⟨i1,i2⟩:=uh2 f v r;rw[show putF f v ((k,x)::r)=(if k=f then(k,v)::r else(k,x)::putF f v r) from rfl]
  by_cases hk:k=f
  ·rw[if_pos hk]
   subst hk;exact⟨by simp,λg h=>by simpa using h⟩
  ·rw[if_neg hk]
   refine⟨?_,λg h=>?_⟩
   ·rw[C8]
    exact C6 _ i1
   ·rw[C8] at h⊢
    rcases D1.mp h with e|e
    ·exact D1.mpr (.inl e)
    ·exact C6 _ (i2 g e)
theorem uh1(f:Str)(v:V):∀fs:List (Str×V),(putF f v fs).length<=fs.length+1
 | []=>by simp[putF]
 | (k,x)::r=>by
  have ih:=uh1 f v r;rw[show putF f v ((k,x)::r)=(if k=f then(k,v)::r else(k,x)::putF f v r) from rfl]
  by_cases hk:k=f
  ·rw[if_pos hk,C0,C0];omega
  ·rw[if_neg hk,C0,C0];omega
theorem RelO.some_of{v:V}{o:Option Value}(r:RelO (some v) o):∃u,o=some u/\RelV v u:=by
 cases o with
 | none=>exact(show False from r).elim
 | some u=>exact⟨u,rfl,r⟩
theorem RelO.none_of{o:Option Value}(r:RelO none o):o=none:=by
 cases o with
 | none=>rfl
 | some u=>exact(show False from r).elim
theorem va7{v:V}{u:Value}(r:RelV v u):W.handedIn u=true:=by
 cases v with
 | non=>cases(show u=V5 from r);rfl
 | bl b=>cases(show u=W9 b from r);rfl
 | int i=>obtain⟨t,e⟩:=(show∃t,u=B03 i t from r);cases e;rfl
 | str x=>obtain⟨t,e⟩:=(show∃t,u=B04 x t from r);cases e;rfl
 | byt b=>obtain⟨t,e⟩:=(show∃t,u=C21 b t from r);cases e;rfl
 | flt b=>obtain⟨t,e⟩:=(show∃t,u=B55 b t from r);cases e;rfl
 | ref a=>cases(show u=J4 a from r);rfl
 | ty n=>cases(show u=C44 n from r);rfl
section
variable{P:Program}{w:World}{H H':Hp}{h h':Heap}{a C dx:Addr}{fs fs':List (Str×V)}
theorem un2(hok:HOk P w H h)(e:H a=some (.ins C dx fs)):∃mA,ObjM h a dx C mA/\(∀f,RelO (fs.lookup f) (mA f))/\B33 mA (fs.map (·.1))/\fs.length<=1000/\H dx=some (.own a):=by
 obtain⟨d,z,ne,ob,mA,n,r,q⟩:=(show ObjOk P w H h a (.ins C dx fs) from hok a _ e);exact⟨mA,⟨ob,n,ne⟩,r,q,z,d⟩
end
structure Cls(K:W.Frag)(C:Addr):Prop where
 pg:W.plainGet K C W4=true
 hd:W.hasDictIn K C=true
 po:W.plainOver K C=true
 sa:W.findIn K (.ref C) "__setattr__" = some (some (.builtin "object.__setattr__"))
theorem Cls.get{K:W.Frag}{C:Addr}(c:Cls K C)(f:Str):W.plainGet K C f=true:=c.pg
def NoAttr(K:W.Frag)(C:Addr)(f:Str):Prop:=W.findIn K (.ref C) f=some none
theorem NoAttr.taker{K:W.Frag}{C:Addr}{f:Str}(n:NoAttr K C f):W.takerIn K C f=some none:=by
 unfold W.takerIn;rw[show W.findIn K (.ref C) f=some none from n];rfl
structure Con(K:W.Frag)(C:Addr)(f:Str)(v:V)(u:Value):Prop where
 at_:W.findIn K (.ref C) f=some (some u)
 rel:RelV v u
 get:W.specialIn K u "__get__" = some none
 cp:W.copiedNames.contains f=false
structure Meth(K:W.Frag)(C:Addr)(m:Str)(f:Addr):Prop where
 at_:W.findIn K (.ref C) m=some (some (.ref f))
 fn:W.isFn K (.ref f)=true
 kp:W.keepIn K (.ref f)=true
section
variable{X:Cx}{pins:List (Addr×Obj)}{σ:St}{H:Hp}{s:Shared}{a C dx:Addr}{fs:List (Str×V)}{f:Str}{v:V}{A:Around}{E:Value->Shared->Prop}
theorem ul2{b:Bool}{Q:Value->Shared->Prop}(I:Inv X pins σ H s)(e:H a=some (.ins C dx fs))(c:Cls X.K C)(n:NoAttr X.K C f)(l:fs.lookup f=some v)
  (h:∀u s',Inv X pins σ H s'->RelV v u->Q u s'):wpAny (model X.prog X.w) A (getAttr (.ref a) f b) Q E s:=by
 obtain⟨mA,O,r,_,_,_⟩:=un2 I.hok e;obtain⟨u,hu,ru⟩:=RelO.some_of (v:=v) (o:=mA f) (by rw[<- l];exact r f);exact w59 I.kIn O (c.get f) c.hd n hu (va7 ru) (h u _ (I.tok _) ru)
theorem ue0{m:Str}{g:Addr}{pl:Sem Bool}{Q:Value×List Value->Shared->Prop}(I:Inv X pins σ H s)(e:H a=some (.ins C dx fs))(c:Cls X.K C)(k:Meth X.K C m g)(l:fs.lookup m=none)
  (h:Q (.ref g,[.ref a]) s):wpAny (model X.prog X.w) A (Y7 (.ref a) m pl) Q E s:=by
 obtain⟨mA,O,r,_,_,_⟩:=un2 I.hok e;have hn:mA m=none:=RelO.none_of (by rw[<- l];exact r m);exact vl8 I.kIn O (c.get m) k.at_ k.fn hn h
theorem uk0{y:V}{u:Value}{Q:Unit->Shared->Prop}(I:Inv X pins σ H s)(e:H a=some (.ins C dx fs))(c:Cls X.K C)(n:NoAttr X.K C f)(hl:fs.length<1000)(ry:RelV y u)
  (h:∀s',Inv X pins σ (upd H a (.ins C dx (putF f y fs))) s'->Q () s'):wpAny (model X.prog X.w) A (setAttr (.ref a) f u) Q E s:=by
 obtain⟨mA,O,r,wi,_,ho⟩:=un2 I.hok e;have hz:(fs.map (·.1)).length<=sizeLine:=by rw[B5,B58];omega
 refine vv8 I.kIn O c.sa c.po n.taker c.hd wi hz λh' O' sb=>h _ ?_
 have hd:∃o,h'.get? dx=some o:=let ⟨o,_,_,e',_⟩:=O'.ns;⟨o,e'⟩;refine I.write (x:=a) (e:=dx) (by rw[e];exact Q3) (.inr ho) (λb q hb z=>(sb.2 b hb).trans z) hd ?_;refine⟨by rw[u22 O.ne];exact ho,?_,O.ne,O'.obj,_,O'.ns,λg=>?_,λg hg=>?_⟩
 ·have:=uh1 f y fs;omega
 ·show RelO ((putF f y fs).lookup g) (if g=f then some u else mA g)
  rw[uh0]
  by_cases q:g=f
  ·rw[if_pos q,if_pos q];exact ry
  ·rw[if_neg q,if_neg q];exact r g
 ·by_cases q:g=f
  ·rw[q];exact(uh2 f y fs).1
  ·refine(uh2 f y fs).2 g (wi g λz=>hg ?_)
   show(if g=f then some u else mA g)=none
   rw[if_neg q];exact z
theorem Inv.made(I:Inv X pins σ H s):Inv X pins σ (upd (upd H s.heap.objs.size (.own (s.heap.objs.size+1))) (s.heap.objs.size+1) (.ins C s.heap.objs.size []))
  { s with heap:=(s.heap.push W.emptyDict).push (W.instObj C s.heap.objs.size)}:=by
 have e1:(s.heap.push W.emptyDict).get? s.heap.objs.size=some W.emptyDict:=D8 s.heap rfl;have e2:((s.heap.push W.emptyDict).push (W.instObj C s.heap.objs.size)).get? (s.heap.objs.size+1)=some (W.instObj C s.heap.objs.size):=by
  have:=D8 (s.heap.push W.emptyDict) (o:=W.instObj C s.heap.objs.size) rfl
  rwa[L6] at this
 have e3:(s.heap.push W.emptyDict).Ns s.heap.objs.size (λ_=>none):=⟨W.emptyDict,#[],_,e1,rfl,(λe he=>absurd he (by simp)),λ_=>rfl⟩;have I1:=I.laid (a:=s.heap.objs.size) (o:=.own (s.heap.objs.size+1)) (h':=s.heap.push W.emptyDict) (t':=s.toks) (λb u q=>B7 _ q) (B9 _) ⟨_,e1⟩;refine I1.laid (a:=s.heap.objs.size+1) (o:=.ins C s.heap.objs.size []) (t':=s.toks) (λb u q=>B7 _ q) (C12 (L6 _ _)) ?_;have ne:s.heap.objs.size≠s.heap.objs.size+1:=E6 (F5 _);refine⟨by rw[u22 ne,u30],N4 _,ne,e2,λ_=>none,(Heap.Ns1.of_empty e3).at λo q=>B7 _ q,λ_=>Q3,λy hy=>absurd rfl hy⟩
theorem w82{prog:Program}{w:World}{env:Env}{e:Expr}{f:Str}{pos:Pos}{s:Shared}{Q:Value->Shared->Prop}(hb:L9 e f env (eval e env)=eval e env)
  (h:wpAny (model prog w) A (eval e env) (λo s₁=>wpAny (model prog w) A (getAttr o f true) Q E s₁) E s):wpAny (model prog w) A (eval (.Attribute e f pos) env) Q E s :=
 Attribute_any_ h (by rw[arm_eval_Attribute,hb])
end
def tFld(K:W.Frag)(ta:TE)(f:Str):TE:=λσ H Q=>ta σ H λx H1=>∃a C dx fs v,x=.ref a/\H1 a=some (.ins C dx fs)/\Cls K C/\NoAttr K C f/\fs.lookup f=some v/\Q v H1
def sFld(K:W.Frag)(ta tv:TE)(f:Str):TS:=λD σ H=>tv σ H λy H1=>ta σ H1 λx H2=>∃a C dx fs,x=.ref a/\H2 a=some (.ins C dx fs)/\Cls K C/\NoAttr K C f/\fs.length<1000 /\
 D.nx σ (upd H2 a (.ins C dx (putF f y fs)))
def InOp(X:Cx)(op:Operator)(rd:V->V->Hp->VK->Prop):Prop :=
 ∀(pins:List (Addr×Obj)) (s:Shared) (σ:St) (H:Hp) (x y:V) (u v:Value) (Q:VK),Inv X pins σ H s->RelV x u->RelV y v->rd x y H Q->wpAny (model X.prog X.w) X.A (A30 op u v) (EP X pins σ Q) X.xe s
def v61(K:W.Frag)(ta tv:TE)(rd:V->V->Hp->VK->Prop)(f:Str):TS:=λD σ H=>ta σ H λx H1=>∃a C dx fs v,x=.ref a/\H1 a=some (.ins C dx fs)/\Cls K C/\NoAttr K C f/\fs.lookup f=some v /\
 tv σ H1 λy H2=>rd v y H2 λz H3=>∃dx' fs',H3 a=some (.ins C dx' fs')/\fs'.length<1000/\D.nx σ (upd H3 a (.ins C dx' (putF f z fs')))
section
variable{X:Cx}{o e value:Expr}{f:Str}{pos pos' tpos:Pos}{ta tv:TE}
theorem wg4(he:PE X e ta)(hb:L9 e f X.env (eval e X.env)=eval e X.env):PE X (.Attribute e f pos) (tFld X.K ta f):=by
 intro pins s σ H Q I h
 (refine w82 hb (thn (he pins s σ H _ I h) ?_);rintro u s1 ⟨x,H1,I1,rx,a,C,dx,fs,v,ex,ea,c,n,l,q⟩)
 subst ex;obtain rfl:u=J4 a:=rx;exact ul2 I1 ea c n l λu' s2 I2 ru=>⟨v,H1,I2,ru,q⟩
theorem wf0(ha:PE X o ta)(hv:PE X value tv)(hs:W5 value (some (.Attribute o f pos')) pos.line X.env=pure false):PS X (.Assign [.Attribute o f pos'] value pos) (sFld X.K ta tv f):=by
 intro pins s σ H D I h
 (refine plainObj_wpAny_Assign_Attribute (thn (hv pins s σ H _ I h) ?_) hs;rintro u s1 ⟨y,H1,I1,ry,q⟩;refine thn (ha pins s1 σ H1 _ I1 q) ?_;rintro ov s2 ⟨x,H2,I2,rx,a,C,dx,fs,ex,ea,c,n,l,q2⟩)
 subst ex;obtain rfl:ov=J4 a:=rx;exact uk0 I2 ea c n l ry λs3 I3=>⟨σ,_,I3,q2⟩
theorem v70{op:Operator}{rd:V->V->Hp->VK->Prop}(ha:PE X o ta)(hv:PE X value tv)(hop:InOp X op rd):PS X (.AugAssign (.Attribute o f tpos) op value pos) (v61 X.K ta tv rd f):=by
 intro pins s σ H D I h
 (refine wpAny_AugAssign_AttributeAny (thn (ha pins s σ H _ I h) ?_);rintro ov s1 ⟨x,H1,I1,rx,a,C,dx,fs,v,ex,ea,c,n,l,q⟩)
 subst ex;obtain rfl:ov=J4 a:=rx;refine ul2 I1 ea c n l λu s2 I2 ru=>thn (hv pins s2 σ H1 _ I2 q) λw3 s3 ⟨y,H2,I3,ry,q3⟩=>thn (hop pins s3 σ H2 v y u w3 _ I3 ru ry q3) λw4 s4 ⟨z,H3,I4,rz,dx',fs',ea',l',q4⟩=>?_
 exact uk0 I4 ea' c n l' rz λs5 I5=>⟨σ,_,I5,q4⟩
theorem w36{pl:Sem Bool}{m:Str}{apos:Pos}{args:List Expr}{pins:List (Addr×Obj)}{s:Shared}{σ:St}{H:Hp}{Q:Value->Shared->Prop}{te:TE}(he:PE X e te)(I:Inv X pins σ H s)
  (h:te σ H λx H1=>∃a C dx fs g,x=.ref a/\H1 a=some (.ins C dx fs)/\Cls X.K C/\Meth X.K C m g/\fs.lookup m=none /\
   ∀s1,Inv X pins σ H1 s1->wpAny (model X.prog X.w) X.A (A38 pos (.ref g) [.ref a] (backTo pos (C5 args X.env)) (Q5 pos (M5 [] X.env))) Q X.xe s1)
  (ht:eval (.Call (.Attribute e m apos) args [] pos) X.env=(do
   let ov <- eval e X.env
   A00 apos.atName
   let (f,first) <- holding [ov] (Y7 ov m pl)
   A38 pos f first (backTo pos (C5 args X.env)) (Q5 pos (M5 [] X.env)))) :
  wpAny (model X.prog X.w) X.A (eval (.Call (.Attribute e m apos) args [] pos) X.env) Q X.xe s:=by
 (refine W.methodCall_KW (pl:=pl) (thn (he pins s σ H _ I h) ?_) ht;rintro u s1 ⟨x,H1,I1,rx,a,C,dx,fs,g,ex,ea,c,k,l,q⟩)
 subst ex;obtain rfl:u=J4 a:=rx;exact ue0 I1 ea c k l (q s1 I1)
end
section
variable{X:Cx}{pins:List (Addr×Obj)}{σ:St}{H:Hp}{s:Shared}{A:Around}{E:Value->Shared->Prop}{Q:Value->Shared->Prop}{c:Value}{b:Bool}
inductive TyOf(K:W.Frag)(H:Hp):V->Value->Prop where
 | non:TyOf K H .non (.type "NoneType")
 | bl (x:Bool):TyOf K H (.bl x) (.type "bool")
 | int (i:Int):TyOf K H (.int i) (.type "int")
 | str (x:Str):TyOf K H (.str x) (.type "str")
 | flt (x:UInt64):TyOf K H (.flt x) (.type "float")
 | lst {a:Addr} {xs:List V} (e:H a=some (.lst xs)):TyOf K H (.ref a) (.type "list")
 | frz {a:Addr} {o:Obj} {xs:List V} (e:H a=some (.frz o (.lst xs))):TyOf K H (.ref a) (.type "list")
 | tup {a:Addr} {xs:List V} (e:H a=some (.tup xs)):TyOf K H (.ref a) (.type "tuple")
 | dK {a:Addr} {kvs:List (Key×V)} (e:H a=some (.dK kvs)):TyOf K H (.ref a) (.type "dict")
 | dT {a:Addr} {kvs:List (List Key×V)} (e:H a=some (.dT kvs)):TyOf K H (.ref a) (.type "dict")
 | ins {a C dx:Addr} {fs:List (Str×V)} (e:H a=some (.ins C dx fs)) (cl:Cls K C) (ha:W.findIn K (.ref C) "__class__" = some (some (.builtin "object.__class__")))
   (hn:W.specialIn K (.builtin "object.__class__") "__get__" = some (some (.builtin "getset_descriptor.__get__"))) (htk:W.takesIn K (.builtin "object.__class__")=some true)
   (hm:W.mroIn K C (.type "object")=some true):TyOf K H (.ref a) (.ref C)
theorem u64{x:V}{u t:Value}(I:Inv X pins σ H s)(rx:RelV x u)(ty:TyOf X.K H x t)(e:W.kitOne X.K t c=some b)(h:∀tk,Q (.bool b) { s with toks:=tk}) :
  wpAny (model X.prog X.w) A (call (.builtin "isinstance") [u,c]) Q E s:=by
 cases ty with
 | non=>cases(show u=V5 from rx);exact W.kia_one W.kitx_none I.kIn Q3 e (λz=>nomatch z) h
 | bl y=>cases(show u=W9 y from rx);exact W.kia_one W.kitx_bool I.kIn Q3 e (λz=>nomatch z) h
 | int i=>obtain⟨t,q⟩:=(show∃t,u=B03 i t from rx);cases q;exact W.kia_one W.kitx_int I.kIn Q3 e (λz=>nomatch z) h
 | str y=>obtain⟨t,q⟩:=(show∃t,u=B04 y t from rx);cases q;exact W.kia_one W.kitx_str I.kIn Q3 e (λz=>nomatch z) h
 | flt y=>obtain⟨t,q⟩:=(show∃t,u=B55 y t from rx);cases q;exact W.kia_one W.kitx_float I.kIn Q3 e (λz=>nomatch z) h
 | @lst a xs ea =>
  cases(show u=J4 a from rx);obtain⟨_,_,n,_,h1⟩:=(show ObjOk X.prog X.w H s.heap a (.lst xs) from I.hok a _ ea);exact W.kia_one W.kitx_list I.kIn ⟨_,h1,rfl⟩ e (λz=>nomatch z) h
 | @frz a ob xs ea =>
  cases(show u=J4 a from rx);obtain⟨_,_,_,n,_,h1⟩:=(show ObjOk X.prog X.w H s.heap a (.frz ob (.lst xs)) from I.hok a _ ea);exact W.kia_one W.kitx_list I.kIn ⟨_,h1,rfl⟩ e (λz=>nomatch z) h
 | @tup a xs ea =>
  cases(show u=J4 a from rx);obtain⟨_,_,_,p⟩:=(show ObjOk X.prog X.w H s.heap a (.tup xs) from I.hok a _ ea);obtain⟨o,h1,h2,_⟩:=p;exact W.kia_one W.kitx_tuple I.kIn ⟨o,h1,h2⟩ e (λz=>nomatch z) h
 | @dK a kvs ea =>
  cases(show u=J4 a from rx);obtain⟨_,_,vs,_,p⟩:=(show ObjOk X.prog X.w H s.heap a (.dK kvs) from I.hok a _ ea);obtain⟨o,es,ep,h1,h2,_⟩:=p;exact W.kia_one W.kitx_dict I.kIn ⟨o,h1,h2.1⟩ e (λz=>nomatch z) h
 | @dT a kvs ea =>
  cases(show u=J4 a from rx);obtain⟨_,_,xs,_,o,es,ep,h1,h2,_⟩:=(show ObjOk X.prog X.w H s.heap a (.dT kvs) from I.hok a _ ea);exact W.kia_one W.kitx_dict I.kIn ⟨o,h1,h2.1⟩ e (λz=>nomatch z) h
 | @ins a C dx fs ea cl ha hn htk hm =>
  cases(show u=J4 a from rx);obtain⟨mA,O,_⟩:=un2 I.hok ea;obtain⟨od,J,_⟩:=O.look;exact W.kia_one (W.kitx_own (cl.get _) cl.hd ha hn htk hm) I.kIn J e (λz=>nomatch z) h
end
structure Room(k:Nat)(A:Around):Prop where
 hd:A.handled=none
 dp:A.depth+3*k+5<recursionLimit
 un:A.units+16*k+200<cLine
theorem Room.mono{j k:Nat}{A:Around}(r:Room k A)(h:j<=k):Room j A:=⟨r.hd,by have:=r.dp;omega,by have:=r.un;omega⟩
theorem Room.deeper{k:Nat}{A:Around}(r:Room (k+1) A)(env:Env):Room k (A.deeper env) :=
 ⟨r.hd,by have:=r.dp;show A.depth+1+3*k+5<_;omega,by have:=r.un;show A.units+3+16*k+200<_;omega⟩
theorem Room.in1{k:Nat}{A:Around}(r:Room (k+1) A):Room k A.in1 :=
 ⟨r.hd,by have:=r.dp;show A.depth+3*k+5<_;omega,by have:=r.un;show A.units+1+16*k+200<_;omega⟩
theorem v16{A:Around}{C:Addr}{us:List Value}{kw:List (Str×Value)}:(A.under (.builtin "type.__call__" ⟨.ref C::us,kw⟩)).depth=A.depth+1:=by
 first|rfl|simp[B34,Code.weight,Code.isCreation,Code.isGuard,Code.isCaller,C23,B35,guardIds]
theorem v15{A:Around}{C:Addr}{us:List Value}{kw:List (Str×Value)}:(A.under (.builtin "type.__call__" ⟨.ref C::us,kw⟩)).units=A.units+1:=by
 first|rfl|simp[B34,Code.cUnits,C23,B35]
theorem Room.make{k:Nat}{A:Around}(r:Room (k+1) A)(C:Addr)(us:List Value)(kw:List (Str×Value)):Room k (A.under (.builtin "type.__call__" ⟨.ref C::us,kw⟩)) :=
 ⟨r.hd,by have:=r.dp;rw[v16];omega,by have:=r.un;rw[v15];omega⟩
theorem Room.depth{k:Nat}{A:Around}(r:Room k A):A.depth<recursionLimit:=by have:=r.dp;omega
theorem Room.units{k:Nat}{A:Around}(r:Room k A):A.units+64<cLine:=by have:=r.un;omega
def tNil:TA:=λ_ H Q=>Q [] H
def wc9(ta:TE)(tr:TA):TA:=λσ H Q=>ta σ H λx H1=>tr σ H1 λxs H2=>Q (x::xs) H2
section
variable{X:Cx}{e:Expr}{es:List Expr}{te:TE}{t:TA}{pos:Pos}
theorem wg7:PA X [] tNil:=λ_ _ _ _ H Q I h=>W7 ⟨[],H,I,.nil,h⟩
theorem w33(ha:PE X e te)(hr:PA X es t)(hs:C5 (e::es) X.env=(false,eval e X.env)::C5 es X.env:=by rfl):PA X (e::es) (wc9 te t):=by
 intro pos pins s σ H Q I h;rw[hs]
 show wpAny _ _ (spliced ((false,eval e X.env)::backTo pos (C5 es X.env))) _ _ s
 (refine R6 (thn (ha pins s σ H _ I h) ?_);rintro u s1 ⟨x,H1,I1,r1,q1⟩)
 (refine thn (hr pos pins s1 σ H1 _ I1 q1) ?_;rintro us s2 ⟨xs,H2,I2,r2,q2⟩;exact⟨x::xs,H2,I2,.cons r1 r2,q2⟩)
def tTup(t:TA):TE:=λσ H Q=>t σ H λxs H1=>xs.length<=sizeLine/\∀p,H1 p=none->Q (.ref p) (upd H1 p (.tup xs))
def tLst(t:TA):TE:=λσ H Q=>t σ H λxs H1=>xs.length<=sizeLine/\∀p,H1 p=none->Q (.ref p) (upd H1 p (.lst xs))
theorem wf7{x1}(h:PA X es t):PE X (.Tuple es x1 pos) (tTup t):=by
 intro pins s σ H Q I hq;refine wpAny_Tuple_spliced (thn (h pos pins s σ H _ I hq) λus s1 ⟨xs,H1,I1,r,z,q⟩=>⟨by rw[<- r.length];exact z,?_⟩);have hf:H1 s1.heap.objs.size=none:=I1.hok.fresh (B9 _);refine⟨.ref s1.heap.objs.size,upd H1 s1.heap.objs.size (.tup xs),I1.laid (t':=s1.toks) (λb u e=>B7 _ e) (B9 _) ?_,rfl,q _ hf⟩;exact⟨z,us,r,⟨_,D8 _ rfl,rfl,⟨_,rfl⟩,rfl⟩⟩
theorem wg2(h:PA X es t):PE X (.List es pos) (tLst t):=by
 intro pins s σ H Q I hq;refine wpAny_List_spliced (thn (h pos pins s σ H _ I hq) λus s1 ⟨xs,H1,I1,r,z,q⟩=>⟨by rw[<- r.length];exact z,?_⟩);have hf:H1 s1.heap.objs.size=none:=I1.hok.fresh (B9 _);refine⟨.ref s1.heap.objs.size,upd H1 s1.heap.objs.size (.lst xs),I1.laid (t':=s1.toks) (λb u e=>B7 _ e) (B9 _) ?_,rfl,q _ hf⟩;exact⟨z,us,0,r,D8 _ rfl⟩
end
abbrev Sp:=List V->Hp->VK->XK->Prop
abbrev CXT:=List Env->Hp->Shared->XK->Value->Shared->Prop
structure Env0(P:Program)(w:World)(K:W.Frag)(mg:Str->Option Value)(base:Heap)(A:Around)(outer:List Env)(s:Shared)(H:Hp):Prop where
 frames:A.frames=some outer
 mod:Mod K mg base
 bs:∀b o,base.get? b=some o->s.heap.get? b=some o/\H b=none
 bsz:base.objs.size<=s.heap.objs.size
 funs:s.heap.FunFrames base outer
 frf:∀b∈frs outer,H b=none
 hok:HOk P w H s.heap
 bare:A44 s.gens
def CE(outer:List Env)(P:Program)(w:World)(H:Hp)(s:Shared)(Q:VK)(u:Value)(s':Shared):Prop :=
 ∃v H',s'.os=s.os/\A44 s'.gens/\Un (frs outer) [] H H' s.heap s'.heap/\HOk P w H' s'.heap/\RelV v u/\Q v H'
def CR(CX:CXT)(outer:List Env)(P:Program)(w:World)(H:Hp)(s:Shared)(Q:VK)(E:XK)(r:Result)(s':Shared):Prop :=
 match r with
 | .ok (.ret u)=>CE outer P w H s Q u s'
 | .ok _=>False
 | .error e=>CX outer H s E e s'
structure FnOk(P:Program)(w:World)(K:W.Frag)(mg:Str->Option Value)(base:Heap)(CX:CXT)(k:Nat)(f:Addr)(fd:Y0)(ps:List Str)(sp:Sp):Prop where
 len:∀vs H Q E,sp vs H Q E->vs.length=ps.length
 run:∀(A:Around) (outer:List Env) (s:Shared) (H:Hp) (args:Args) (us:List Value) (vs:List V) (Q:VK) (E:XK),Room k A->Env0 P w K mg base A outer s H->B06 s fd args (ps.zip us)->Vals vs us->sp vs H Q E ->
  A01 (model P w) A (.call (.ref f) args) (CR CX outer P w H s Q E) s
theorem FnOk.mono{P:Program}{w:World}{K:W.Frag}{mg:Str->Option Value}{base:Heap}{CX:CXT}{j k:Nat}{f:Addr}{fd:Y0}{ps:List Str}{sp:Sp}(F:FnOk P w K mg base CX j f fd ps sp)(h:j<=k) :
  FnOk P w K mg base CX k f fd ps sp:=⟨F.len,λA outer s H args us vs Q E hr=>F.run A outer s H args us vs Q E (hr.mono h)⟩
theorem FnOk.imp{P:Program}{w:World}{K:W.Frag}{mg:Str->Option Value}{base:Heap}{CX:CXT}{k:Nat}{f:Addr}{fd:Y0}{ps:List Str}{sp sp':Sp}(F:FnOk P w K mg base CX k f fd ps sp)
  (h:∀vs H Q E,sp' vs H Q E->sp vs H Q E):FnOk P w K mg base CX k f fd ps sp' :=
 ⟨λvs H Q E q=>F.len vs H Q E (h _ _ _ _ q),λA outer s H args us vs Q E hr he hb hv hs=>F.run A outer s H args us vs Q E hr he hb hv (h _ _ _ _ hs)⟩
theorem Env0.make{P:Program}{w:World}{K:W.Frag}{mg:Str->Option Value}{base:Heap}{A:Around}{outer:List Env}{s:Shared}{H:Hp}(e:Env0 P w K mg base A outer s H)(C:Addr)(us:List Value)(kw:List (Str×Value)) :
  Env0 P w K mg base (A.under (.builtin "type.__call__" ⟨.ref C::us,kw⟩)) outer s H:=⟨by first|exact e.frames|(simpa[B34,Code.envs,B35,pushEnvs] using e.frames),e.mod,e.bs,e.bsz,e.funs,e.frf,e.hok,e.bare⟩
theorem Env0.in1{P:Program}{w:World}{K:W.Frag}{mg:Str->Option Value}{base:Heap}{A:Around}{outer:List Env}{s:Shared}{H:Hp}(e:Env0 P w K mg base A outer s H) :
  Env0 P w K mg base A.in1 outer s H:=⟨e.frames,e.mod,e.bs,e.bsz,e.funs,e.frf,e.hok,e.bare⟩
section
variable{X:Cx}{pins:List (Addr×Obj)}{σ:St}{H:Hp}{s s':Shared}
theorem Inv.env0(I:Inv X pins σ H s):Env0 X.prog X.w X.K X.mg X.base X.A X.stack s H :=
 ⟨I.ok.frames,I.ok.mod,I.bs,D4 I.ok.bsz I.sz,I.stack,I.stkFree,I.hok,I.bare⟩
theorem Inv.after{Q:VK}{u:Value}(I:Inv X pins σ H s)(h:CE X.stack X.prog X.w H s Q u s'):EP X pins σ Q u s':=by
 obtain⟨v,H',os,bare,un,hok,r,q⟩:=h;obtain⟨hh,g,d,t,os'⟩:=s';obtain rfl:os'=s.os:=os;exact⟨v,H',I.call (h':=hh) (g':=g) (d':=d) (t':=t) (ch:=[]) un hok bare (λb z=>absurd z (by simp)),r,q⟩
end
def wd0(sp:Sp)(dvs:List V)(E:XK)(t:TA):TE:=λσ H Q=>t σ H λvs H1=>sp (vs++dvs) H1 Q E
def vv0(C:Addr)(m:Str)(sp:Sp)(dvs:List V)(E:XK)(ta:TE)(t:TA):TE:=λσ H Q=>ta σ H λx H1=>∃a dx fs,x=.ref a/\H1 a=some (.ins C dx fs)/\fs.lookup m=none /\
 t σ H1 λvs H2=>sp (x::(vs++dvs)) H2 Q E
def wc6(C:Addr)(sp:Sp)(dvs:List V)(E:XK)(t:TA):TE:=λσ H Q=>t σ H λvs H1=>∀x dx,H1 x=none->H1 dx=none->dx≠x ->
 sp (.ref x::(vs++dvs)) (upd (upd H1 dx (.own x)) x (.ins C dx [])) (λv H2=>v=.non/\Q (.ref x) H2) E
def Binds(K:W.Frag)(fd:Y0)(ps:List Str)(ds:List Value):Prop :=
 ∀(s:Shared) (us:List Value),K.In s.heap->(us++ds).length=ps.length->B06 s fd ⟨us,[]⟩ (ps.zip (us++ds))
theorem Binds.all{K:W.Frag}{fd:Y0}{ps:List Str}(h:∀us:List Value,us.length=ps.length->B76 fd ⟨us,[]⟩=pure (ps.zip us)):Binds K fd ps []:=λs us _ hl=>by
 rw[F7] at hl⊢;exact .of_eq (h us hl)
def Passes(CX:CXT)(X:Cx)(E:XK):Prop:=∀(pins:List (Addr×Obj)) (σ:St) (H:Hp) (s:Shared) (e:Value) (s':Shared),Inv X pins σ H s->CX X.stack H s E e s'->X.xe e s'
section
variable{X:Cx}{CX:CXT}{k:Nat}{f C:Addr}{fd:Y0}{ps:List Str}{sp:Sp}{dvs:List V}{ds:List Value}{E:XK}{x m:Str}{p pos apos:Pos}{e o:Expr}{es:List Expr}{ta:TE}{t:TA}
theorem v62{pins:List (Addr×Obj)}{σ:St}{H:Hp}{s:Shared}{Q:VK}{us:List Value}{vs:List V}(F:FnOk X.prog X.w X.K X.mg X.base CX k f fd ps sp)(hr:Room k X.A)(hb:Binds X.K fd ps ds)(hd:Vals dvs ds)(hx:Passes CX X E)
  (I:Inv X pins σ H s) (r:Vals vs us) (h:sp (vs++dvs) H Q E):wpAny (model X.prog X.w) X.A (call (.ref f) us) (EP X pins σ Q) X.xe s:=by
 have r2:Vals (vs++dvs) (us++ds):=r.append hd;have hl:(us++ds).length=ps.length:=by rw[<- r2.length];exact F.len _ _ _ _ h
 refine wpAny_call (A78 (F.run X.A X.stack s H ⟨us,[]⟩ (us++ds) (vs++dvs) Q E hr I.env0 (hb s us I.kIn hl) r2 h) λr s' hq=>?_);cases r with
 | error e=>exact hx pins σ H s e s' I hq
 | ok fl =>
  cases fl with
  | ret u=>exact I.after hq
  | next=>exact P0 hq
  | brk=>exact P0 hq
  | cont=>exact P0 hq
theorem w30(F:FnOk X.prog X.w X.K X.mg X.base CX k f fd ps sp)(hr:Room k X.A)(hg:Gl X x)(hm:X.mg x=some (.ref f))(hk:W.keepIn X.K (.ref f)=true)(hb:Binds X.K fd ps ds)(hd:Vals dvs ds)(hx:Passes CX X E)
  (ha:PA X (e::es) t) (hdb:(x==("__debug__" :Str))=false:=by decide) (he:C5 (e::es) X.env=(false,eval e X.env)::C5 es X.env:=by rfl) (hpl:(backTo pos (C5 es X.env)).any (·.1)=false:=by rfl) :
  PE X (.Call (.Name x p) (e::es) [] pos) (wd0 sp dvs E t):=by
 intro pins s σ H Q I h;refine O6 (ut8 I hg hm ?_ hdb)
 (refine W.callWith_K (h₀:=X.base) I.ok.mod.kin hk (thn (ha pos pins s σ H _ I h) ?_) he hpl;rintro us s1 ⟨vs,H1,I1,r,q⟩;refine⟨I1.kIn,?_⟩)
 exact v62 F hr hb hd hx I1 r q
theorem w24{pl:Sem Bool}(he:PE X o ta)(c:Cls X.K C)(hm:Meth X.K C m f)(F:FnOk X.prog X.w X.K X.mg X.base CX k f fd ps sp)(hr:Room k X.A)(hb:Binds X.K fd ps ds)(hd:Vals dvs ds)(hx:Passes CX X E)(ha:PA X (e::es) t)
  (hst:C5 (e::es) X.env=(false,eval e X.env)::C5 es X.env:=by rfl) (hpl:(backTo pos (C5 es X.env)).any (·.1)=false:=by rfl)
  (ht:eval (.Call (.Attribute o m apos) (e::es) [] pos) X.env=(do
   let ov <- eval o X.env
   A00 apos.atName
   let (f,first) <- holding [ov] (Y7 ov m pl)
   A38 pos f first (backTo pos (C5 (e::es) X.env)) (Q5 pos (M5 [] X.env))):=by rfl) :
  PE X (.Call (.Attribute o m apos) (e::es) [] pos) (vv0 C m sp dvs E ta t):=by
 intro pins s σ H Q I h
 (refine W.methodCall_KW (pl:=pl) (thn (he pins s σ H _ I h) ?_) ht;rintro u s1 ⟨x,H1,I1,rx,a,dx,fs,ex,ea,l,q⟩)
 subst ex;obtain rfl:u=J4 a:=rx;refine ue0 I1 ea c hm l ?_
 (refine W.callWith_K (first:=[.ref a]) (h₀:=X.base) I.ok.mod.kin hm.kp (thn (ha pos pins s1 σ H1 _ I1 q) ?_) hst hpl;rintro us s2 ⟨vs,H2,I2,r,q2⟩;refine⟨I2.kIn,?_⟩)
 exact v62 (us:=.ref a::us) (vs:=.ref a::vs) F hr hb hd hx I2 (.cons rfl r) q2
theorem vi0{pl:Sem Bool}(he:PE X o ta)(c:Cls X.K C)(hm:Meth X.K C m f)(F:FnOk X.prog X.w X.K X.mg X.base CX k f fd ps sp)(hr:Room k X.A)(hb:Binds X.K fd ps ds)(hd:Vals dvs ds)(hx:Passes CX X E)
  (ht:eval (.Call (.Attribute o m apos) [] [] pos) X.env=(do
   let ov <- eval o X.env
   A00 apos.atName
   let (f,first) <- holding [ov] (Y7 ov m pl)
   A38 pos f first (backTo pos (C5 [] X.env)) (Q5 pos (M5 [] X.env))):=by rfl) :
  PE X (.Call (.Attribute o m apos) [] [] pos) (vv0 C m sp dvs E ta tNil):=by
 intro pins s σ H Q I h
 (refine W.methodCall_KW (pl:=pl) (thn (he pins s σ H _ I h) ?_) ht;rintro u s1 ⟨x,H1,I1,rx,a,dx,fs,ex,ea,l,q⟩)
 subst ex;obtain rfl:u=J4 a:=rx;refine ue0 I1 ea c hm l ?_;exact W.callWith_K0 (first:=[.ref a]) I1.kIn hm.kp (v62 (us:=[.ref a]) (vs:=[.ref a]) F hr hb hd hx I1 (.cons rfl .nil) q)
structure Mk(K:W.Frag)(C f:Addr):Prop where
 makes:W.makesIn K C=true
 init:W.findIn K (.ref C) "__init__" = some (some (.ref f))
 fn:W.isFn K (.ref f)=true
 kp:W.keepIn K (.ref C)=true
theorem vg7{pins:List (Addr×Obj)}{σ:St}{H:Hp}{s:Shared}{Q:VK}{us:List Value}{vs:List V}(M:Mk X.K C f)(F:FnOk X.prog X.w X.K X.mg X.base CX k f fd ps sp)(hr:Room (k+1) X.A)(hb:Binds X.K fd ps ds)(hd:Vals dvs ds)
  (hx:Passes CX X E) (I:Inv X pins σ H s) (r:Vals vs us)
  (h:∀x dx,H x=none->H dx=none->dx≠x->sp (.ref x::(vs++dvs)) (upd (upd H dx (.own x)) x (.ins C dx [])) (λv H2=>v=.non/\Q (.ref x) H2) E) :
  wpAny (model X.prog X.w) X.A (call (.ref C) us) (EP X pins σ Q) X.xe s:=by
 have hq:=h (s.heap.objs.size+1) s.heap.objs.size (I.hok.fresh (M0 _)) (I.hok.fresh (B9 _)) (E6 (F5 _));have I2:=Inv.made (C:=C) I;have r2:Vals (V.ref (s.heap.objs.size+1)::(vs++dvs)) (J4 (s.heap.objs.size+1)::(us++ds)):=.cons rfl (r.append hd);have hl:(J4 (s.heap.objs.size+1)::us++ds).length=ps.length:=by
  have e:=r2.length;rw[F.len _ _ _ _ hq] at e;exact e.symm
 refine wpAny_call (vj2 (f:=f) I.kIn M.makes M.init (beq_iff_eq.mp M.fn) (A78 (F.run _ X.stack _ _ ⟨J4 (s.heap.objs.size+1)::us,[]⟩ (J4 (s.heap.objs.size+1)::(us++ds)) _ _ E (hr.make C us [])
  (I2.env0.make C us []) (hb _ (J4 (s.heap.objs.size+1)::us) I2.kIn hl) r2 hq) λr s' hq'=>?_))
 cases r with
 | error e=>exact hx pins σ _ _ e s' I2 hq'
 | ok fl =>
  cases fl with
  | ret u =>
   obtain⟨v,H',I3,rv,ev,q3⟩:=I2.after hq';subst ev;exact⟨rv,⟨V.ref (s.heap.objs.size+1),H',I3,rfl,q3⟩⟩
  | next=>exact P0 hq'
  | brk=>exact P0 hq'
  | cont=>exact P0 hq'
theorem w25(M:Mk X.K C f)(F:FnOk X.prog X.w X.K X.mg X.base CX k f fd ps sp)(hr:Room (k+1) X.A)(hg:Gl X x)(hm:X.mg x=some (.ref C))(hb:Binds X.K fd ps ds)(hd:Vals dvs ds)(hx:Passes CX X E)
  (ha:PA X (e::es) t) (hdb:(x==("__debug__" :Str))=false:=by decide) (he:C5 (e::es) X.env=(false,eval e X.env)::C5 es X.env:=by rfl) (hpl:(backTo pos (C5 es X.env)).any (·.1)=false:=by rfl) :
  PE X (.Call (.Name x p) (e::es) [] pos) (wc6 C sp dvs E t):=by
 intro pins s σ H Q I h;refine O6 (ut8 I hg hm ?_ hdb)
 (refine W.callWith_K (h₀:=X.base) I.ok.mod.kin M.kp (thn (ha pos pins s σ H _ I h) ?_) he hpl;rintro us s1 ⟨vs,H1,I1,r,q⟩;refine⟨I1.kIn,?_⟩)
 exact vg7 M F hr hb hd hx I1 r q
end
structure FnScope(N P:List Str)(sc:Scope):Prop where
 kind:sc.kind=.function
 co:sc.isCoroutine=false
 gen:sc.isGenerator=false
 nd:N.Nodup
 pre:N.take P.length=P
 par:∀x∈P,sc.names.lookup x=some .local\/sc.names.lookup x=some .cell
 nofree:∀y∈sc.names,y.2≠.free
theorem us4{kindOf:Str->Option E8}{x:Str}:∀{binds:List (Str×Value)} {m:Str->Option Value},(∀v,(x,v)∉binds)->bindL kindOf binds m x=m x
 | [],_,_=>rfl
 | (n,v)::r,m,h=>by
  unfold bindL;rw[us4 λw hw=>h w (C6 _ hw)];split
  ·have:x≠n:=by rintro rfl;exact h v D7
   simp[this]
  ·rfl
theorem us6{kindOf:Str->Option E8}{x:Str}:∀{binds:List (Str×Value)} {m:Str->Option Value},(∀v,(x,v)∉binds)->bindC kindOf binds m x=m x
 | [],_,_=>rfl
 | (n,v)::r,m,h=>by
  unfold bindC;rw[us6 λw hw=>h w (C6 _ hw)];split
  ·rfl
  ·have:x≠n:=by rintro rfl;exact h v D7
   simp[this]
theorem us5{kindOf:Str->Option E8}{x:Str}{v:Value}:∀{P:List Str} {vs:List Value} {i:Nat} {m:Str->Option Value},P.Nodup->P[i]?=some x->vs[i]?=some v->kindOf x=some .local ->
  bindL kindOf (P.zip vs) m x=some v
 | [],_,_,_,_,h,_,_=>by simp at h
 | _::_,[],_,_,_,_,h,_=>by simp at h
 | p::P,w::vs,0,m,nd,h1,h2,hk=>by
  simp at h1 h2;subst h1;subst h2
  show bindL kindOf ((p,w)::P.zip vs) m p=_
  unfold bindL;rw[us4 λv hv=>(M8.mp nd).1 (A82 hv).1,if_pos hk];simp
 | p::P,w::vs,i+1,m,nd,h1,h2,hk=>by
  show bindL kindOf ((p,w)::P.zip vs) m x=_
  unfold bindL;exact us5 (i:=i) (M8.mp nd).2 (by simpa using h1) (by simpa using h2) hk
theorem us7{kindOf:Str->Option E8}{x:Str}{v:Value}:∀{P:List Str} {vs:List Value} {i:Nat} {m:Str->Option Value},P.Nodup->P[i]?=some x->vs[i]?=some v->kindOf x≠some .local ->
  bindC kindOf (P.zip vs) m x=some v
 | [],_,_,_,_,h,_,_=>by simp at h
 | _::_,[],_,_,_,_,h,_=>by simp at h
 | p::P,w::vs,0,m,nd,h1,h2,hk=>by
  simp at h1 h2;subst h1;subst h2
  show bindC kindOf ((p,w)::P.zip vs) m p=_
  unfold bindC;rw[us6 λv hv=>(M8.mp nd).1 (A82 hv).1,if_neg hk];simp
 | p::P,w::vs,i+1,m,nd,h1,h2,hk=>by
  show bindC kindOf ((p,w)::P.zip vs) m x=_
  unfold bindC;exact us7 (i:=i) (M8.mp nd).2 (by simpa using h1) (by simpa using h2) hk
def start(N:List Str)(vs:List V):St:=vs.map some++C2 (N.length-vs.length) none
def cxOf(CX:CXT)(P:Program)(w:World)(K:W.Frag)(mg:Str->Option Value)(base:Heap)(N:List Str)(qual:Str)(scope:Scope)(f:Addr)(cd:Value)(A:Around)(outer:List Env)(s:Shared)(H:Hp)(E:XK):Cx where
 prog:=P
 w:=w
 K:=K
 mg:=mg
 base:=base
 A:=A.deeper (envOfC qual scope s.heap.objs.size f cd)
 N:=N
 s₀:=s
 H₀:=H
 env:=envOfC qual scope s.heap.objs.size f cd
 outer:=outer
 stack:=envOfC qual scope s.heap.objs.size f cd::outer
 ex:=[]
 calm:=true
 fn:=λ_=>true
 pn:=[]
 xe:=λe s'=>wpAny (model P w) (A.deeper (envOfC qual scope s.heap.objs.size f cd)) (leaving (envOfC qual scope s.heap.objs.size f cd) e) (λ_ s''=>CX outer H s E e s'') (λe' s''=>CX outer H s E e' s'') s'
theorem uz3{sc:Scope}{n:Nat}{x:Str}(h:sc.names.lookup x=some .cell):∃c,(C09 n sc.names []).lookup x=some c:=by
 have q:=W.cellsFrom_some sc.names n [] (.inl h);exact Option.isSome_iff_exists.mp q
theorem va3{CX:CXT}{P:Program}{w:World}{K:W.Frag}{mg:Str->Option Value}{base:Heap}{N ps:List Str}{qual:Str}{scope:Scope}{f:Addr}{cd:Value}{A:Around}{outer:List Env}{s s1:Shared}{H:Hp}{E:XK}{us:List Value}{vs:List V}
  (S:FnScope N ps scope) (hd:A.handled=none) (e0:Env0 P w K mg base A outer s H) (hl:vs.length=ps.length) (r:Vals vs us)
  (x:InCallC s s.heap.objs.size (bindL (envOfC qual scope s.heap.objs.size f cd).kindOf (ps.zip us) λ_=>none) (C09 (s.heap.objs.size+1) scope.names []) (bindC (envOfC qual scope s.heap.objs.size f cd).kindOf (ps.zip us) λ_=>none) s1) :
  Inv (cxOf CX P w K mg base N qual scope f cd A outer s H E) [] (start N vs) H s1:=by
 have hpl:ps.length<=N.length:=by have:=congrArg J1 S.pre;rw[Z6] at this;omega
 obtain⟨h1,tk,rfl,hk⟩:=x.done;have noA:∀b:Addr,b∉(cxOf CX P w K mg base N qual scope f cd A outer s H E).ex:=λb z=>absurd (show b∈([]:List Addr) from z) (by simp)
 refine⟨⟨e0.mod,S.kind,rfl,rfl,B9 _,λy z c h1 h2=>?_,λy hy=>?_,λy c _ h=>?_,λ_=>hd,Around.frames_deeper e0.frames,.inr ⟨rfl,rfl⟩,λb z=>absurd z (noA b),e0.bs,e0.bsz,λb _ _=>noA b,λb z=>absurd z (noA b),e0.funs,e0.frf⟩,
  rfl,e0.bare,Un.kept hk,⟨_,x.toInCall.ns,λi y v h1 h2 h3=>?_⟩,λy c h=>⟨_,x.cell y c h⟩,e0.hok.fresh (B9 _),λy c h=>?_,λp hp=>absurd (show p∈([]:List (Addr×Obj)) from hp) (by simp),e0.hok.kept hk,?_⟩
 ·exact name_of_addr x.apart (P5 h1) (P5 h2)
 ·have hy:scope.names.lookup y=some .cell\/scope.names.lookup y=some .free:=hy
  rcases hy with hy|hy
  ·exact uz3 hy
  ·exact absurd rfl (S.nofree _ (P5 hy))
 ·exact L5 (x.above y c (P5 h))
 ·have hi:i<vs.length:=by
   unfold start at h2
   by_cases hi:i<vs.length
   ·exact hi
   ·rw[F0 (by simpa using hi)] at h2
    rw[V2] at h2;split at h2 <;> cases h2
  have ha:vs[i]?=some v:=by
   unfold start at h2;rw[E9 (by simpa using hi),F6] at h2;cases e:vs[i]? with
   | none=>rw[e] at h2;cases h2
   | some a=>rw[e] at h2;cases h2;rfl
  obtain⟨u,hu,rv⟩:=r.get ha;have hp:ps[i]?=some y:=by
   rw[<- S.pre,A45 (by omega)];exact h1
  have ndP:ps.Nodup:=by rw[<- S.pre];exact S.nd.sublist (List.take_sublist _ _)
  refine⟨u,rv,?_⟩
  rcases S.par y (J5 hp) with k|k
  ·exact .inl ⟨k,us5 ndP hp hu k⟩
  ·obtain⟨c,e⟩:=uz3 (n:=s.heap.objs.size+1) k
   refine .inr ⟨.inl k,c,e,?_⟩;have q:=x.cell y c e;rw[us7 ndP hp hu (by show scope.names.lookup y≠_;rw[k];decide)] at q;exact q
 ·exact e0.hok.fresh (L5 (x.above y c (P5 h)))
 ·unfold start
  show _=N.length
  rw[B0,B5,J9];omega
theorem x25{CX:CXT}{P:Program}{w:World}{K:W.Frag}{mg:Str->Option Value}{base:Heap}{k:Nat}{f:Addr}{name qual:Str}{params:Arguments}{body:List Stmt}{scope:Scope}{dV kV doc pm cdv ct oc:Value}{an od:Option Addr}
  {osl:Array (Option Value)} {N ps:List Str} {sp:Sp} (lk:K.lookup f=some ⟨oc,od,.func (W.fnOf name qual params body scope dV kV doc pm an cdv ct),osl⟩) (hcd:W.codeIn K cdv qual=true) (S:FnScope N ps scope)
  (len:∀vs H Q E,sp vs H Q E->vs.length=ps.length)
  (hbody:∀(A:Around) (outer:List Env) (s:Shared) (H:Hp) (vs:List V) (Q:VK) (E:XK),Room k (A.deeper (envOfC qual scope s.heap.objs.size f cdv))->sp vs H Q E ->
   ∃t,PSs (cxOf CX P w K mg base N qual scope f cdv A outer s H E) body t/\t { nx:=λ_ H'=>Q .non H',rt:=Q} (start N vs) H) :
  FnOk P w K mg base CX (k+1) f (W.fnOf name qual params body scope dV kV doc pm an cdv ct) ps sp:=by
 refine⟨len,λA outer s H args us vs Q E hr e0 hb r hsp=>?_⟩;have hl:=len _ _ _ _ hsp;have KX:K.In s.heap:=e0.mod.kin.keeps λb o e=>(e0.bs b o e).1
 have lim:s.heap.NoLimit:=e0.mod.nolimit.keeps λb o e=>(e0.bs b o e).1
 have hkind:∀y∈ps.zip us,scope.names.lookup y.1=some .local\/(scope.names.lookup y.1=some .cell/\((C09 (s.heap.objs.size+1) scope.names []).lookup y.1).isSome=true):=λ⟨n,v⟩ hy=>by
  rcases S.par n (A82 hy).1 with q|q
  ·exact .inl q
  ·exact .inr ⟨q,W.cellsFrom_some _ _ _ (.inl q)⟩
 refine codeAny_call_function hr.depth (KX _ _ lk) rfl S.co S.gen rfl (W.codeRec_of KX hcd) (hb _ _ _ _ ?_);refine wpAny_newFunctionEnv_cells S.kind hkind λenv he s1 x=>?_
 subst he;refine⟨lim.keeps x.toInCall.keep,codeAny_func ?_⟩;obtain⟨t,ht,hq⟩:=hbody A outer s H vs Q E (hr.deeper _) hsp;have I:Inv (cxOf CX P w K mg base N qual scope f cdv A outer s H E) [] (start N vs) H s1:=va3 S hr.hd e0 hl r x;refine P4 (ht [] s1 (start N vs) H _ I hq) (λfl s' hs=>?_) λe s' hs=>hs
 have fin:∀{σ':St} {H':Hp} {v:V} {u:Value},Inv (cxOf CX P w K mg base N qual scope f cdv A outer s H E) [] σ' H' s'->RelV v u->Q v H'->CE outer P w H s Q u s' :=
  λ{σ' H' v u} J rv q=>⟨v,H',J.os,J.bare,J.base,J.hok,rv,q⟩
 cases fl with
 | ret u =>
  obtain⟨v,σ',H',J,rv,q⟩:=hs;exact fin J rv q
 | next =>
  obtain⟨σ',H',J,q⟩:=hs;exact fin (v:=V.non) (u:=V5) J rfl q
 | brk =>
  obtain⟨_,_,_,q⟩:=hs;exact P0 q
 | cont =>
  obtain⟨_,_,_,q⟩:=hs;exact P0 q
section
variable{X:Cx}{x:Str}{p pos:Pos}{e:Expr}{es:List Expr}{t:TA}{id T:String}{r:List V->Hp->VK->Prop}
def tCB(r:List V->Hp->VK->Prop)(t:TA):TE:=λσ H Q=>t σ H λvs H1=>r vs H1 Q
theorem vi4(hc:CallR X (.builtin id) r)(hg:Gl X x)(hm:X.mg x=none)(hv:P3 x=some (.builtin id))(ha:PA X (e::es) t)(hn:x ≠ "__name__" := by decide)(hdb:(x==("__debug__" :Str))=false:=by decide)
  (he:C5 (e::es) X.env=(false,eval e X.env)::C5 es X.env:=by rfl) (hpl:(backTo pos (C5 es X.env)).any (·.1)=false:=by rfl):PE X (.Call (.Name x p) (e::es) [] pos) (tCB r t):=by
 intro pins s σ H Q I h;refine O6 (ub1 I hg hm hv ?_ hn hdb)
 (refine B45 (thn (ha pos pins s σ H _ I h) ?_) he hpl;rintro us s1 ⟨vs,H1,I1,r1,q1⟩;exact hc pins s1 σ H1 vs us Q I1 r1 q1)
theorem v76(hc:CallR X (.type T) r)(hg:Gl X x)(hm:X.mg x=none)(hv:P3 x=some (.type T))(ha:PA X (e::es) t)(hn:x ≠ "__name__" := by decide)(hdb:(x==("__debug__" :Str))=false:=by decide)
  (he:C5 (e::es) X.env=(false,eval e X.env)::C5 es X.env:=by rfl) (hpl:(backTo pos (C5 es X.env)).any (·.1)=false:=by rfl):PE X (.Call (.Name x p) (e::es) [] pos) (tCB r t):=by
 intro pins s σ H Q I h;refine O6 (ub1 I hg hm hv ?_ hn hdb)
 (refine K4 (thn (ha pos pins s σ H _ I h) ?_) he hpl;rintro us s1 ⟨vs,H1,I1,r1,q1⟩;exact hc pins s1 σ H1 vs us Q I1 r1 q1)
end
section
variable{κ:Type}[DecidableEq κ]
def valV(kvs:List (κ×V))(k:κ):Option V:=(kvs.find? λkv=>decide (kv.1=k)).map (·.2)
def putK(kvs:List (κ×V))(k:κ)(v:V):List (κ×V) :=
 if(kvs.any λkv=>decide (kv.1=k))=true then kvs.map (λkv=>if kv.1=k then(kv.1,v) else kv) else kvs++[(k,v)]
def wr7(kvs:List (κ×V))(k:κ):List (κ×V):=kvs.filter λkv=>decide (kv.1≠k)
theorem uf2{p:κ×V}{r:List (κ×V)}{k:κ}(e:p.1=k):valV (p::r) k=some p.2:=by simp[valV,O2,e]
theorem uf3{p:κ×V}{r:List (κ×V)}{k:κ}(e:¬ p.1=k):valV (p::r) k=valV r k:=by simp[valV,O2,e]
theorem uv9(k:κ):∀kvs:List (κ×V),(kvs.any λkv=>decide (kv.1=k))=(valV kvs k).isSome
 | []=>rfl
 | p::r=>by
  rw[O8]
  by_cases e:p.1=k
  ·simp only[uf2 e,decide_eq_true e,Q7,Option.isSome_some]
  ·rw[uf3 e,decide_eq_false e,N7];exact uv9 k r
theorem u76(kvs:List (κ×V))(k:κ)(v:V):(putK kvs k v).length<=kvs.length+1:=by
 unfold putK;split
 ·rw[B5];omega
 ·rw[B0,C0,A81];omega
theorem RelO.isSome_eq{o:Option V}{u:Option Value}(r:RelO o u):o.isSome=u.isSome:=by
 cases o with
 | none=>cases u with
  | none=>rfl
  | some _=>exact(show False from r).elim
 | some _=>cases u with
  | none=>exact(show False from r).elim
  | some _=>rfl
theorem RelO.getD{o:Option V}{u:Option Value}{d:V}{d':Value}(r:RelO o u)(rd:RelV d d'):RelV (o.getD d) (u.getD d'):=by
 cases o with
 | none=>cases u with
  | none=>exact rd
  | some _=>exact(show False from r).elim
 | some _=>cases u with
  | none=>exact(show False from r).elim
  | some _=>exact r
theorem KV.val{kvs:List (κ×V)}{vs:List (κ×Value)}(r:KV kvs vs)(k:κ):RelO (valV kvs k) (B07 vs k):=by
 unfold KV at r
 induction r with
 | nil=>exact Q3
 | @cons p q ps qs h t ih =>
  obtain⟨h1,h2⟩:=h
  by_cases e:p.1=k
  ·have e':q.1=k:=h1.symm.trans e
   have b:B07 (q::qs) k=some q.2:=by simp[B07,O2,e']
   rw[uf2 e,b];exact h2
  ·have e':¬ q.1=k:=λz=>e (h1.trans z)
   have b:B07 (q::qs) k=B07 qs k:=by simp[B07,O2,e']
   rw[uf3 e,b];exact ih
theorem KV.any{kvs:List (κ×V)}{vs:List (κ×Value)}(r:KV kvs vs)(k:κ):(kvs.any λkv=>decide (kv.1=k))=vs.any λkv=>decide (kv.1=k):=by
 unfold KV at r
 induction r with
 | nil=>rfl
 | cons h t ih=>rw[O8,O8,ih,h.1]
theorem KV.repl{kvs:List (κ×V)}{vs:List (κ×Value)}(r:KV kvs vs)(k:κ){y:V}{u:Value}(ry:RelV y u) :
  KV (kvs.map λkv=>if kv.1=k then(kv.1,y) else kv) (vs.map λkv=>if kv.1=k then(kv.1,u) else kv):=by
 unfold KV at r⊢
 induction r with
 | nil=>exact .nil
 | @cons p q ps qs h t ih =>
  rw[C8,C8];refine .cons ?_ ih;obtain⟨h1,h2⟩:=h
  by_cases e:p.1=k
  ·rw[if_pos e,if_pos (h1.symm.trans e)];exact⟨h1,ry⟩
  ·rw[if_neg e,if_neg (λz=>e (h1.trans z))];exact⟨h1,h2⟩
theorem KV.put{kvs:List (κ×V)}{vs:List (κ×Value)}(r:KV kvs vs)(k:κ){y:V}{u:Value}(ry:RelV y u):KV (putK kvs k y) (stored vs k u):=by
 unfold putK stored;rw[r.any k]
 by_cases e:(vs.any λkv=>decide (kv.1=k))=true
 ·rw[if_pos e,if_pos e];exact r.repl k ry
 ·rw[if_neg e,if_neg e];exact C24 r ⟨rfl,ry⟩
theorem KV.drop{kvs:List (κ×V)}{vs:List (κ×Value)}(r:KV kvs vs)(k:κ):KV (wr7 kvs k) (without vs k):=by
 unfold KV at r⊢;unfold wr7 without
 induction r with
 | nil=>exact .nil
 | @cons p q ps qs h t ih =>
  obtain⟨h1,h2⟩:=h;rw[B46,B46]
  by_cases e:p.1=k
  ·have a:¬ decide (p.1≠k)=true:=by simp[e]
   have b:¬ decide (q.1≠k)=true:=by simp[h1.symm.trans e]
   rw[if_neg a,if_neg b];exact ih
  ·have e':¬ q.1=k:=λz=>e (h1.trans z)
   have a:decide (p.1≠k)=true:=by simp[e]
   have b:decide (q.1≠k)=true:=by simp[e']
   rw[if_pos a,if_pos b];exact .cons ⟨h1,h2⟩ ih
theorem KV.keys{kvs:List (κ×V)}{vs:List (κ×Value)}(r:KV kvs vs):kvs.map (·.1)=vs.map (·.1):=by
 unfold KV at r
 induction r with
 | nil=>rfl
 | cons h t ih=>rw[C8,C8,ih,h.1]
theorem KV.length{kvs:List (κ×V)}{vs:List (κ×Value)}(r:KV kvs vs):kvs.length=vs.length:=B11 r
end
theorem va0{P:Program}{w:World}{k:Key}{u:Value}(r:RelV (kV k) u):(u39 P w).is k u=true:=by
 cases k with
 | inl i=>obtain⟨t,e⟩:=(show∃t,u=B03 i t from r);subst e;exact ut6 P w i t
 | inr x=>obtain⟨t,e⟩:=(show∃t,u=B04 x t from r);subst e;exact ut5 P w x t
theorem ur2{P:Program}{w:World}:∀{ks:List Key} {us:List Value},Vals (ks.map kV) us->ItemsAre (u39 P w) ks us
 | [],_,r=>by rw[B36] at r;cases r;exact .nil
 | k::ks,_,r=>by
  rw[C8] at r;cases r with
  | cons h t=>exact .cons (va0 h) (ur2 t)
abbrev KT(H:Hp):List (List Key×V)->List (List Key×Addr×Value)->Prop:=Paired λp q=>p.1=q.1/\H q.2.1=some (.tup (p.1.map kV))/\RelV p.2 q.2.2
theorem KT.val{H:Hp}{kvs:List (List Key×V)}{xs:List (List Key×Addr×Value)}(r:KT H kvs xs)(k:List Key):RelO (valV kvs k) ((atKey xs k).map (·.2)):=by
 induction r with
 | nil=>exact Q3
 | @cons p q ps qs h t ih =>
  obtain⟨h1,_,h2⟩:=h
  by_cases e:p.1=k
  ·have e':q.1=k:=h1.symm.trans e
   have b:atKey (q::qs) k=some q.2:=by simp[atKey,O2,e']
   rw[uf2 e,b];exact h2
  ·have e':¬ q.1=k:=λz=>e (h1.trans z)
   have b:atKey (q::qs) k=atKey qs k:=by simp[atKey,O2,e']
   rw[uf3 e,b];exact ih
theorem KT.repl{H:Hp}{kvs:List (List Key×V)}{xs:List (List Key×Addr×Value)}(r:KT H kvs xs)(k:List Key){y:V}{u:Value}(ry:RelV y u) :
  KT H (kvs.map λkv=>if kv.1=k then(kv.1,y) else kv) (xs.map (putAt k u)):=by
 induction r with
 | nil=>exact .nil
 | @cons p q ps qs h t ih =>
  rw[C8,C8];refine .cons ?_ ih;obtain⟨h1,h2,h3⟩:=h;unfold putAt
  by_cases e:p.1=k
  ·rw[if_pos e,if_pos (h1.symm.trans e)];exact⟨h1,h2,ry⟩
  ·rw[if_neg e,if_neg (λz=>e (h1.trans z))];exact⟨h1,h2,h3⟩
theorem KT.put{H:Hp}{kvs:List (List Key×V)}{xs:List (List Key×Addr×Value)}(r:KT H kvs xs)(k:List Key){b:Addr}{y:V}{u:Value}(hb:H b=some (.tup (k.map kV)))(ry:RelV y u) :
  KT H (putK kvs k y) (storedH xs k b u):=by
 have e:(kvs.any λkv=>decide (kv.1=k))=(atKey xs k).isSome:=by
  rw[uv9,(r.val k).isSome_eq,Option.isSome_map]
 unfold putK storedH;rw[e]
 by_cases q:(atKey xs k).isSome=true
 ·rw[if_pos q,if_pos q];exact r.repl k ry
 ·rw[if_neg q,if_neg q];exact C24 r ⟨rfl,hb,ry⟩
theorem KT.keeps{H H':Hp}{kvs:List (List Key×V)}{xs:List (List Key×Addr×Value)}(r:KT H kvs xs)(ht:∀b ys,H b=some (.tup ys)->H' b=some (.tup ys)):KT H' kvs xs :=
 Paired.mapP r λ_ _ z=>⟨z.1,ht _ _ z.2.1,z.2.2⟩
section
variable{P:Program}{w:World}{H:Hp}{h:Heap}{a:Addr}
theorem we0{u:HO}(ok:HOk P w H h)(e:Rd H a u):ObjOk P w H h a u:=e.ok ok
theorem v26{kvs:List (Key×V)}(ok:HOk P w H h)(e:Rd H a (.dK kvs)):kvs.length<=sizeLine/\(a==U8)=false/\∃vs,KV kvs vs/\h.DictOf (u39 P w) a vs :=
 show ObjOk P w H h a (.dK kvs) from we0 ok e
theorem vm2{kvs:List (Key×V)}(ok:HOk P w H h)(e:H a=some (.dK kvs)):kvs.length<=sizeLine/\(a==U8)=false/\∃vs,KV kvs vs/\h.DictOf (u39 P w) a vs:=v26 ok (.inl e)
theorem uy1{ks:List Key}(ok:HOk P w H h)(e:H a=some (.tup (ks.map kV))):(A62 (u39 P w)).is h ks a:=by
 obtain⟨_,its,r,o,h1,h2,⟨n,h3⟩,_⟩:=(show ObjOk P w H h a (.tup (ks.map kV)) from ok a _ e);exact⟨o,its.toArray,n,h1,h2,h3,by simpa using ur2 r⟩
theorem vb5{kvs:List (List Key×V)}(ok:HOk P w H h)(e:Rd H a (.dT kvs)):kvs.length<=sizeLine/\(a==U8)=false /\
  ∃xs,KT H kvs xs/\h.DictOfH (A62 (u39 P w)) a xs:=by
 obtain⟨z,y,xs,r,o,es,ep,h1,h2,h3,h4,h5⟩:=(show ObjOk P w H h a (.dT kvs) from we0 ok e);refine⟨z,y,xs,r,o,es,ep,h1,h2,h3,h4,λx hx=>?_,h5⟩;have all:∀{l:List (List Key×V)} {m:List (List Key×Addr×Value)},KT H l m->∀x∈m,(A62 (u39 P w)).is h x.1 x.2.1:=by
  intro l m q
  induction q with
  | nil=>intro x hx;exact nomatch hx
  | @cons p q ps qs hq t ih =>
   intro x hx
   rcases D1.mp hx with e|hx
   ·subst e
    exact uy1 ok (by rw[<- hq.1];exact hq.2.1)
   ·exact ih x hx
 exact all r x hx
theorem x29{kvs:List (List Key×V)}(ok:HOk P w H h)(e:H a=some (.dT kvs)):kvs.length<=sizeLine/\(a==U8)=false /\
  ∃xs,KT H kvs xs/\h.DictOfH (A62 (u39 P w)) a xs:=vb5 ok (.inl e)
end
def DGet(H:Hp)(a:Addr)(y:V)(r:Option V):Prop :=
 (∃kvs k,Rd H a (.dK kvs)/\y=kV k/\r=valV kvs k)\/∃kvs k b,Rd H a (.dT kvs)/\y=.ref b/\H b=some (.tup (k.map kV))/\r=valV kvs k
def DPut(H:Hp)(a:Addr)(y v:V)(H':Hp):Prop :=
 (∃kvs k,H a=some (.dK kvs)/\y=kV k/\kvs.length<sizeLine/\H'=upd H a (.dK (putK kvs k v))) \/
 ∃kvs k b,H a=some (.dT kvs)/\y=.ref b/\H b=some (.tup (k.map kV))/\kvs.length<sizeLine/\H'=upd H a (.dT (putK kvs k v))
theorem DGet.k{H:Hp}{a:Addr}{kvs:List (Key×V)}{k:Key}(e:H a=some (.dK kvs)):DGet H a (kV k) (valV kvs k):=.inl ⟨kvs,k,.inl e,rfl,rfl⟩
theorem DPut.k{H:Hp}{a:Addr}{kvs:List (Key×V)}{k:Key}{v:V}(e:H a=some (.dK kvs))(hl:kvs.length<sizeLine):DPut H a (kV k) v (upd H a (.dK (putK kvs k v))):=.inl ⟨kvs,k,e,rfl,hl,rfl⟩
section
variable{X:Cx}{pins:List (Addr×Obj)}{σ:St}{H:Hp}{s:Shared}{a:Addr}{y v:V}{u r:Value}{o:Option V}{A:Around}{E:Value->Shared->Prop}
theorem Inv.big(I:Inv X pins σ H s):U8<s.heap.objs.size:=by
 have h:F9<s.heap.objs.size:=(I.mod.glob.keeps I.bk).lt;exact C13 (by decide) h
theorem vc3{Q:Value->Shared->Prop}(hu:A.units+1<cLine)(I:Inv X pins σ H s)(g:DGet H a y (some v))(ry:RelV y u)(h:∀w' s',Inv X pins σ H s'->RelV v w'->Q w' s') :
  wpAny (model X.prog X.w) A (A79 (.ref a) u) Q E s:=by
 rcases g with⟨kvs,k,e,ey,l⟩|⟨kvs,k,b,e,ey,eb,l⟩
 ·subst ey
  obtain⟨z,hd,vs,rel,dd⟩:=v26 I.hok e;obtain⟨w',hw,rw'⟩:=RelO.some_of (v:=v) (o:=B07 vs k) (by rw[l];exact rel.val k);exact wpAny_getItem_of (va0 ry) dd.mapOf hw (h w' _ (I.tok _) rw')
 ·subst ey
  cases(show u=J4 b from ry);obtain⟨z,hd,xs,rel,dd⟩:=vb5 I.hok e;obtain⟨w',hw,rw'⟩:=RelO.some_of (v:=v) (o:=(atKey xs k).map (·.2)) (by rw[l];exact rel.val k);obtain⟨p,hp,hp2⟩:=E4.mp hw;refine wpAny_getItem_heap (A39 hu) (uy1 I.hok eb) dd hp ?_;rw[hp2];exact h w' _ (I.tok _) rw'
theorem un6{h':Heap}{t':Nat}{ob:HO}(I:Inv X pins σ H s)(mu:Mut (H a))(hs:Q6 a s.heap h')(he:∃q,h'.get? a=some q)(new:ObjOk X.prog X.w (upd H a ob) h' a ob) :
  Inv X pins σ (upd H a ob) { s with heap:=h',toks:=t'} :=
 I.write (x:=a) (e:=a) mu (.inl rfl) (λb q hb z=>(hs.2 b hb).trans z) he new
theorem vb8{P:Program}{w:World}{H':Hp}{h':Heap}{kvs:List (Key×V)}{vs:List (Key×Value)}(z:kvs.length<=sizeLine)(hd:(a==U8)=false)(rel:KV kvs vs)(dd:h'.DictOf (u39 P w) a vs) :
  ObjOk P w H' h' a (.dK kvs):=⟨z,hd,vs,rel,dd⟩
theorem vc2{H':Hp}{Q:Unit->Shared->Prop}(hu:A.units+1<cLine)(I:Inv X pins σ H s)(g:DPut H a y v H')(ry:RelV y u)(rv:RelV v r)(h:∀s',Inv X pins σ H' s'->Q () s') :
  wpAny (model X.prog X.w) A (C17 (.ref a) u r) Q E s:=by
 rcases g with⟨kvs,k,e,ey,l,eH⟩|⟨kvs,k,b,e,ey,eb,l,eH⟩
 ·subst ey eH
  obtain⟨z,hd,vs,rel,dd⟩:=vm2 I.hok e;have hz:vs.length<=sizeLine:=by rw[<- rel.length];exact z
  have hl:(putK kvs k v).length<=sizeLine:=by have:=u76 kvs k v;omega
  refine wpAny_setItem_pairs (hsz:=hz) (va0 ry) dd λh' dd' hs=>h _ ?_
  have he:∃q,h'.get? a=some q:=let ⟨q,_,_,hq,_⟩:=dd';⟨q,hq⟩;exact un6 I (by rw[e];exact Q3) hs he (vb8 hl hd (rel.put k rv) dd')
 ·subst ey eH
  cases(show u=J4 b from ry);obtain⟨z,hd,xs,rel,dd⟩:=x29 I.hok e;have hz:xs.length<=sizeLine:=by rw[<- B11 rel];exact z
  have hl:(putK kvs k v).length<=sizeLine:=by have:=u76 kvs k v;omega
  refine wpAny_setItem_heap (hsz:=hz) (A39 hu) (uy1 I.hok eb) dd λh' dd' hs=>h _ ?_
  obtain⟨q,es,ep,hq,h2,h3,h4,_,h5⟩:=dd';refine un6 I (by rw[e];exact Q3) hs ⟨q,hq⟩ ⟨hl,hd,_,(rel.put k eb rv).keeps λc ys ec=>?_,q,es,ep,hq,h2,h3,h4,h5⟩;rw[u22 (x22 ec e (λz=>nomatch z))];exact ec
end
def NoSl(i:Expr):Prop:=∀ov iv,subscripted i false ov iv=operate [ov,iv] (A79 ov iv)
theorem vv4{prog:Program}{w:World}{A:Around}{E:Value->Shared->Prop}{s:Shared}{env:Env}{value slice:Expr}{pos:Pos}{T id:String}{Q:Value->Shared->Prop}
  (hl:B29 (.type T) "__getitem__" = pure (some (.builtin id))) (hs:NoSl slice)
  (h:wpAny (model prog w) A (eval value env) (λo s₁=>wpAny (model prog w) A (eval slice env) (λi s₂=>s₂.TypeIs o T/\wpAny (model prog w) A (A79 o i) Q E s₂) E s₁) E s) :
  wpAny (model prog w) A (eval (.Subscript value slice pos) env) Q E s:=by
 refine B77 (P4 h (λo s₁ h₁=>P4 h₁ (λi s₂ h₂=>?_) λ_ _ x=>x) λ_ _ x=>x);obtain⟨hT,h₂⟩:=h₂;unfold B13;refine B4 ?_;rw[getitemInPython_of_ne hT.not_modules];refine B4 (wpAny_specialOf hT hl ?_);have fin:wpAny (model prog w) A (subscripted slice false o i) (λr s₃=>wpAny (model prog w) A (letTemporaryGo value o r >>= λ_=>pure r) Q E s₃) E s₂:=by
  rw[hs o i];exact wpAny_operating (P4 h₂ (λr s₃ h₃=>B4 (wpAny_letTemporaryGo (C9 h₃))) λ_ _ x=>x)
 first
  | exact C9 (B4 fin)
  | exact B4 (C9 (B4 fin))
  | exact B4 fin
theorem uu6{X:Cx}{pins:List (Addr×Obj)}{σ:St}{H:Hp}{s:Shared}{a:Addr}{y:V}{o:Option V}(I:Inv X pins σ H s)(g:DGet H a y o):s.TypeIs (.ref a) "dict" := by
 rcases g with⟨kvs,k,e,_,_⟩|⟨kvs,k,b,e,_,_,_⟩
 ·obtain⟨_,_,vs,_,dd⟩:=v26 I.hok e
  exact dd.typeIs
 ·obtain⟨_,_,xs,_,dd⟩:=vb5 I.hok e
  exact dd.typeIs
def vv1(td ty:TE):TE:=λσ H Q=>td σ H λx H1=>ty σ H1 λy H2=>∃a v,x=.ref a/\DGet H2 a y (some v)/\Q v H2
def x03(td ty tv:TE):TS:=λD σ H=>tv σ H λv H1=>td σ H1 λx H2=>ty σ H2 λy H3=>∃a H4,x=.ref a/\DPut H3 a y v H4/\D.nx σ H4
section
variable{X:Cx}{o i e value:Expr}{pos pos' tpos:Pos}{td ty tv:TE}
theorem v75(hu:X.A.units+1<cLine)(ho:PE X o td)(hi:PE X i ty)(hs:NoSl i):PE X (.Subscript o i pos) (vv1 td ty):=by
 intro pins s σ H Q I h
 (refine vv4 PySem.F.slot_dict_getitem.lookup hs (thn (ho pins s σ H _ I h) ?_);rintro u s1 ⟨x,H1,I1,rx,q1⟩;refine thn (hi pins s1 σ H1 _ I1 q1) ?_;rintro iv s2 ⟨y,H2,I2,ry,a,v,ex,g,q2⟩)
 subst ex;obtain rfl:u=J4 a:=rx;exact⟨uu6 I2 g,vc3 hu I2 g ry λw' s3 I3 rw'=>⟨v,H2,I3,rw',q2⟩⟩
theorem w17(hu:X.A.units+1<cLine)(ho:PE X o td)(hi:PE X i ty)(hv:PE X value tv)(hs:W5 value (some (.Subscript o i pos')) pos.line X.env=pure false) :
  PS X (.Assign [.Subscript o i pos'] value pos) (x03 td ty tv):=by
 intro pins s σ H D I h
 (refine wpAny_Assign_Subscript (thn (hv pins s σ H _ I h) ?_) hs;rintro r s1 ⟨v,H1,I1,rv,q1⟩;refine thn (ho pins s1 σ H1 _ I1 q1) ?_;rintro u s2 ⟨x,H2,I2,rx,q2⟩;refine thn (hi pins s2 σ H2 _ I2 q2) ?_;rintro iv s3 ⟨y,H3,I3,ry,a,H4,ex,g,q3⟩)
 subst ex;obtain rfl:u=J4 a:=rx;exact vc2 hu I3 g ry rv λs4 I4=>⟨σ,H4,I4,q3⟩
end
def uk7(kvs more:List (Key×V)):List (Key×V):=more.foldl (λacc kv=>putK acc kv.1 kv.2) kvs
theorem KV.merge:∀{more:List (Key×V)} {rs:List (Key×Value)} {kvs:List (Key×V)} {vs:List (Key×Value)},KV more rs->KV kvs vs->KV (uk7 kvs more) (merged vs rs):=by
 intro more rs kvs vs r;unfold KV at r
 induction r generalizing kvs vs with
 | nil=>intro q;exact q
 | @cons p q ps qs h t ih =>
  intro r0;have e:KV (putK kvs p.1 p.2) (stored vs q.1 q.2):=by
   have:=r0.put p.1 h.2;rw[<- h.1];exact this
  exact ih e
theorem uc9:∀(more kvs:List (Key×V)),(uk7 kvs more).length<=kvs.length+more.length
 | [],kvs=>by show kvs.length<=kvs.length+0;omega
 | p::r,kvs=>by
  have h1:=uc9 r (putK kvs p.1 p.2);have h2:=u76 kvs p.1 p.2
  show(uk7 (putK kvs p.1 p.2) r).length<=_
  rw[C0];omega
structure M1(X:Cx)(o:Expr)(m:Str)(apos:Pos)(e:Expr)(cpos:Pos):Prop where
 base:L9 o m X.env (eval o X.env)=eval o X.env
 few:((backTo cpos (C5 [e] X.env)).all (λx=>!x.1)&&(Q5 cpos (M5 [] X.env)).all (λx=>x.1.isSome)
  && decide (([e]:List Expr).length+([]:List Keyword).length+(if([]:List Keyword).isEmpty then 0 else 1)<30))=true
 line:(apos.endLine==cpos.line)=true
 trees:backTo cpos (C5 [e] X.env)=[(false,eval e X.env)]
structure M2(X:Cx)(o:Expr)(m:Str)(apos:Pos)(e f:Expr)(cpos:Pos):Prop where
 base:L9 o m X.env (eval o X.env)=eval o X.env
 few:((backTo cpos (C5 [e,f] X.env)).all (λx=>!x.1)&&(Q5 cpos (M5 [] X.env)).all (λx=>x.1.isSome)
  && decide (([e,f]:List Expr).length+([]:List Keyword).length+(if([]:List Keyword).isEmpty then 0 else 1)<30))=true
 line:(apos.endLine==cpos.line)=true
 trees:backTo cpos (C5 [e,f] X.env)=[(false,eval e X.env),(false,eval f X.env)]
def IsD(H:Hp)(a:Addr):Prop:=(∃kvs,Rd H a (.dK kvs))\/∃kvs,Rd H a (.dT kvs)
theorem vs8{X:Cx}{pins:List (Addr×Obj)}{σ:St}{H:Hp}{s:Shared}{a:Addr}(I:Inv X pins σ H s)(d:IsD H a) :
  s.TypeIs (.ref a) "dict" /\ (∀b,J4 a=.ref b->∃ob,s.heap.get? b=some ob/\ob.dict=none)/\(a==U8)=false:=by
 rcases d with⟨kvs,e⟩|⟨kvs,e⟩
 ·obtain⟨_,hd,vs,_,dd⟩:=v26 I.hok e
  refine⟨dd.typeIs,λb q=>?_,hd⟩;cases q;obtain⟨ob,_,_,h1,h2,_⟩:=dd;exact⟨ob,h1,h2.2.1⟩
 ·obtain⟨_,hd,xs,_,dd⟩:=vb5 I.hok e
  refine⟨dd.typeIs,λb q=>?_,hd⟩;cases q;obtain⟨ob,_,_,h1,h2,_⟩:=dd;exact⟨ob,h1,h2.2.1⟩
section
variable{X:Cx}{pins:List (Addr×Obj)}{σ:St}{H:Hp}{s:Shared}{a:Addr}{y d:V}{u r:Value}{o:Option V}{A:Around}{E:Value->Shared->Prop}
theorem wr9{Q:Value->Shared->Prop}(hu:A.units+1<cLine)(I:Inv X pins σ H s)(g:DGet H a y o)(ry:RelV y u)(rd:RelV d r)(h:∀w' s',Inv X pins σ H s'->RelV (o.getD d) w'->Q w' s') :
  wpAny (model X.prog X.w) A (call (.builtin "dict.get") [.ref a,u,r]) Q E s:=by
 rcases g with⟨kvs,k,e,ey,l⟩|⟨kvs,k,b,e,ey,eb,l⟩
 ·subst ey
  obtain⟨z,hd,vs,rel,dd⟩:=v26 I.hok e;refine B43 Z5 dd.typeIs A66 (A54 _ _ _) (meets_dict_get_default (u39 X.prog X.w) a (va0 ry) hd r) ⟨_,dd.mapOf,h _ _ (I.tok _) ?_⟩;rw[l];exact(rel.val k).getD rd
 ·subst ey
  cases(show u=J4 b from ry);obtain⟨z,hd,xs,rel,dd⟩:=vb5 I.hok e;refine B43 Z5 dd.typeIs A66 (A54 _ _ _) (meetsH_dict_get_default (A62 (u39 X.prog X.w)) a b hd r) ⟨A39 hu,k,xs,uy1 I.hok eb,dd,h _ _ (I.tok _) ?_⟩;rw[l];exact(rel.val k).getD rd
end
def vp2(td ty tx:TE):TE:=λσ H Q=>td σ H λx H1=>∃a,x=.ref a/\IsD H1 a/\ty σ H1 λy H2=>tx σ H2 λz H3=>∃o,DGet H3 a y o/\Q (o.getD z) H3
section
variable{X:Cx}{o e f:Expr}{apos cpos:Pos}{td ty tx:TE}
theorem vi2(hu:X.A.units+1<cLine)(ho:PE X o td)(he:PE X e ty)(hf:PE X f tx)(m:M2 X o "get" apos e f cpos):PE X (.Call (.Attribute o "get" apos) [e,f] [] cpos) (vp2 td ty tx):=by
 intro pins s σ H Q I h
 (refine wpAny_Call_method m.base m.few m.line A55 Z5 PySem.F.type_dict_get (thn (ho pins s σ H _ I h) ?_);rintro u s1 ⟨x,H1,I1,rx,a,ex,d,q1⟩)
 subst ex;obtain rfl:u=J4 a:=rx;obtain⟨t1,t2,_⟩:=vs8 I1 d;refine⟨t1,t2,?_⟩;rw[m.trees];refine V6 rfl (A04 (R6 (thn (he pins s1 σ H1 _ I1 q1) λiv s2 ⟨y,H2,I2,ry,q2⟩ =>
  R6 (thn (hf pins s2 σ H2 _ I2 q2) λfv s3 ⟨z,H3,I3,rz,ov,g,q3⟩=>W7 ?_))))
 exact wr9 hu I3 g ry rz λw' s4 I4 rw'=>⟨_,H3,I4,rw',q3⟩
end
section
variable{X:Cx}{pins:List (Addr×Obj)}{σ:St}{H:Hp}{s:Shared}{a:Addr}{kvs:List (Key×V)}{A:Around}{E:Value->Shared->Prop}
theorem vm3{Q:Value->Shared->Prop}(I:Inv X pins σ H s)(e:Rd H a (.dK kvs))(h:∀p s',H p=none->Inv X pins σ (upd H p (.dK kvs)) s'->Q (.ref p) s'):wpAny (model X.prog X.w) A (call (.type "dict") [.ref a]) Q E s:=by
 obtain⟨z,hd,vs,rel,dd⟩:=v26 I.hok e;refine kt_call_dict hd dd (by rw[<- rel.length];exact z) λh' dd' hs=>?_
 refine h _ _ (I.hok.fresh (B9 _)) (I.laid (a:=s.heap.objs.size) (o:=.dK kvs) (t':=s.toks) (λb q hq=>?_) (B9 _) (vb8 z (beq_eq_false_iff_ne.mpr (D6 (E6 I.big))) rel dd'));exact(hs.2 b (E6 (D5 hq))).trans (B7 _ hq)
end
end L2
namespace HT
open PySem PyProof.Rows
section
open PySem.SeqAt
open PySem.AutoSeq1 (wpAny_loadPart')
open PySem.MeetsSeq PySem.MeetsSeq2 PySem.MeetsSeq3
end
section
variable{prog:Program}{w:World}{A:Around}{E:Value->Shared->Prop}{s:Shared}
theorem cat_tup{t b:Addr}{vs ws:List Value}{Q:Value->Shared->Prop}(ht:IsTup s.heap t vs.toArray)(hb:IsTup s.heap b ws.toArray)(hv:vs≠[])
  (h1:ws=[]->Q (.ref t) s) (h2:ws≠[]->Q (.ref s.heap.objs.size) { s with heap:=s.heap.push { cls:=.type "tuple",data:=.seq (vs++ws).toArray}})
  (hsz:vs.length+ws.length<=sizeLine):wpAny (model prog w) A (K7 .Add (.ref t) (.ref b)) Q E s:=by
 obtain⟨⟨cls,dd,data,sl⟩,ho,hc,n,hd⟩:=id ht;obtain⟨⟨cls2,dd2,data2,sl2⟩,ho2,hc2,n2,hd2⟩:=id hb;simp only at hc hd hc2 hd2;subst hc hd hc2 hd2;have e:vs.toArray++ws.toArray=(vs++ws).toArray:=by simp
 by_cases hw:ws=[]
 ·exact concat_meets ⟨_,ho,rfl⟩ ⟨_,ho2,rfl⟩ noFill_tuple_add seq_tuple_add A67 A56 (A46 _ _)
   (tuple_addW1 t b vs.toArray ws.toArray n n2 dd dd2 sl sl2 (by simpa using hv) (by simp[hw])) ⟨ho,ho2,h1 hw⟩
 ·refine concat_meets ⟨_,ho,rfl⟩ ⟨_,ho2,rfl⟩ noFill_tuple_add seq_tuple_add A67 A56 (A46 _ _)
   (tuple_addW2 t b vs.toArray ws.toArray n n2 dd dd2 sl sl2 (by simpa using hv) (by simpa using hw) (by rw[D3,D3];exact hsz)) ⟨ho,ho2,?_⟩
  rw[e];exact h2 hw
def sIx(n d:Nat):Option Int->Nat
 | none=>d
 | some v=>if v<0 then(v+(n:Int)).toNat else min v.toNat n
theorem sIx_none(n d:Nat):sIx n d none=d:=rfl
theorem sIx_nat(n d k:Nat):sIx n d (some (k:Int))=min k n:=by
 show(if(k:Int)<0 then((k:Int)+(n:Int)).toNat else min (k:Int).toNat n)=min k n
 rw[if_neg (by omega),T7]
theorem wd7(n d:Nat)(hd:d<=n)(o:Option Int):sIx n d o<=n:=by
 cases o with
 | none=>exact hd
 | some v =>
  show(if v<0 then(v+(n:Int)).toNat else min v.toNat n)<=n
  by_cases hv:v<0
  ·rw[if_pos hv];omega
  ·rw[if_neg hv];exact Nat.min_le_right _ _
theorem vc8(v:Int)(n d:Nat):(if v<0 then max (v+(n:Int)) 0 else min v (n:Int))=((sIx n d (some v):Nat):Int):=by
 show(if v<0 then max (v+(n:Int)) 0 else min v (n:Int))=(((if v<0 then(v+(n:Int)).toNat else min v.toNat n):Nat):Int)
 by_cases hv:v<0
 ·simp only[if_pos hv];omega
 ·simp only[if_neg hv];omega
theorem v29(lo hi:Option Int)(n:Nat):X5 lo hi 1 (n:Int)=(((sIx n 0 lo:Nat):Int),((sIx n n hi:Nat):Int)):=by
 have h1:¬ ((1:Int)<0):=by omega
 unfold X5;simp only[h1,if_false];refine Prod.ext ?_ ?_
 ·cases lo with
  | none=>rfl
  | some v=>exact vc8 v n 0
 ·cases hi with
  | none=>rfl
  | some v=>exact vc8 v n n
theorem v07(i j:Nat):R9 (i:Int) (j:Int) 1=j-i:=by
 unfold R9;have h1:(1:Int)>0:=by omega
 simp only[h1,if_true,Int.ediv_one];split <;> omega
theorem uj9{v:Value}{o:Option Int}{Q:Option Int->Shared->Prop}(p:IsPart v o)(h:Q o s):wpAny (model prog w) A (B62 v) Q E s:=by
 cases p with
 | none=>exact slicePart_none h
 | int i t=>exact slicePart_int h
theorem ue7{sl:Addr}{vl vu:Value}{lo hi:Option Int}{n:Nat}{Q:Int×Int×Nat->Shared->Prop}(hs:s.heap.IsSliceOf sl vl vu .none)(pl:IsPart vl lo)(pu:IsPart vu hi)
  (h:Q (((sIx n 0 lo:Nat):Int),1,sIx n n hi-sIx n 0 lo) s):wpAny (model prog w) A (A33 (.ref sl) (pure (n:Int))) Q E s:=by
 obtain⟨os,hos,hcs,hds⟩:=id hs;unfold A33 B89;refine B4 (B4 (K3 hos hds (x:=vl) rfl (B4 (K3 hos hds (x:=vu) rfl (B4 (K3 hos hds (x:=.none) rfl (C9 ?_)))))));refine B4 (slicePart_none ?_)
 show wpAny _ _ (if((1:Int)==0)=true then _ else _) _ _ s
 rw[if_neg (by decide)];refine B4 (uj9 pl (B4 (uj9 pu (B4 (C9 ?_)))))
 show wpAny _ _ (match X5 lo hi 1 (n:Int) with|(lo,hi)=>pure (lo,(1:Int),R9 lo hi 1)) _ _ s
 rw[v29 lo hi n]
 show wpAny _ _ (pure (((sIx n 0 lo:Nat):Int),(1:Int),R9 ((sIx n 0 lo:Nat):Int) ((sIx n n hi:Nat):Int) 1)) _ _ s
 rw[v07];exact C9 h
theorem vh6(xs:Array Value)(i k:Nat):((J6 k).filterMap λ(m:Nat)=>xs[((i:Int)+(m:Int)*1).toNat]?).toArray=((xs.toList.drop i).take k).toArray:=by
 have e:(λ(m:Nat)=>xs[((i:Int)+(m:Int)*1).toNat]?)=λm=>xs[i+m]?:=by
  funext m
  have:((i:Int)+(m:Int)*1).toNat=i+m:=by omega
  rw[this]
 rw[e];have:=pick_run xs i k;rw[List.filterMap_map] at this;have e2:((λx=>xs[x]?)∘λx=>i+x)=λm=>xs[i+m]?:=rfl
 rw[e2] at this;rw[this]
theorem getItem_tuple_cut{t sl:Addr}{items:Array Value}{vl vu:Value}{lo hi:Option Int}{Q:Value->Shared->Prop}(ht:IsTup s.heap t items)(hs:s.heap.IsSliceOf sl vl vu .none)(pl:IsPart vl lo)(pu:IsPart vu hi)
  (hw:¬ (sIx items.size 0 lo=0/\sIx items.size items.size hi=items.size))
  (h:Q (.ref s.heap.objs.size) { s with heap:=s.heap.push { cls:=.type "tuple",data:=.seq ((items.toList.drop (sIx items.size 0 lo)).take (sIx items.size items.size hi-sIx items.size 0 lo)).toArray}})
  (hsz:items.size<=sizeLine):wpAny (model prog w) A (A79 (.ref t) (.ref sl)) Q E s:=by
 have htake:sizeOk (.seq ((items.toList.drop (sIx items.size 0 lo)).take (sIx items.size items.size hi-sIx items.size 0 lo)).toArray):=by
  show((items.toList.drop (sIx items.size 0 lo)).take (sIx items.size items.size hi-sIx items.size 0 lo)).toArray.size<=sizeLine
  rw[D3,Z6,A57,A20];omega
 have hj:sIx items.size items.size hi<=items.size:=wd7 _ _ (B9 _) hi;obtain⟨os,hos,hcs,hds⟩:=id hs;have hTs:s.TypeIs (.ref sl) "slice" := ⟨os,hos,hcs⟩;unfold A79
 try with_reducible refine O1 ?_
 first|refine B4 (C9 ?_)|skip
 refine B4 (wpAny_sequenceKey ht.typeIs (by decide) ?_);refine B4 (M6 (name:=C1 "__getitem__") ht.typeIs U9
  (R4 U9 ht.typeIs entry_tuple_getitem ?_ (args_tuple_getitem _ _)))
 show wpAny _ _ (B68 (.ref t) >>= _) _ _ s
 refine B4 (tupleItemsOf_ ht ?_);refine B4 (A80 hTs ?_);rw[if_pos (by decide)];refine B4 (ue7 hs pl pu ?_);have hno:¬ ((((sIx items.size 0 lo:Nat):Int)==0&&(1:Int)==1&&(sIx items.size items.size hi-sIx items.size 0 lo)==items.size)=true):=by
  intro q;rw[L7,L7] at q;have q1:((sIx items.size 0 lo:Nat):Int)=0:=eq_of_beq q.1.1;have q2:sIx items.size items.size hi-sIx items.size 0 lo=items.size:=eq_of_beq q.2;exact hw ⟨by omega,by omega⟩
 show wpAny _ _ (if(((sIx items.size 0 lo:Nat):Int)==0&&(1:Int)==1&&(sIx items.size items.size hi-sIx items.size 0 lo)==items.size)=true then _ else _) _ _ s
 rw[if_neg hno,vh6]
 first
  | exact B4 (m:=U5 _) (Q2 (C9 ⟨_,rfl,C9 h⟩) htake)
  | exact B4 (m:=U5 _) (Q2 (B4 (C9 (C9 ⟨_,rfl,C9 h⟩))) htake)
  | exact B4 (B4 (m:=U5 _) (Q2 (C9 (C9 ⟨_,rfl,C9 h⟩)) htake))
  | exact B4 (B4 (m:=U5 _) (Q2 (C9 ⟨_,rfl,C9 h⟩) htake))
end
end HT
namespace L2
open PySem PySem.Spec PyProof.Rows
abbrev TO:=St->Hp->(Option Int->Hp->Prop)->Prop
def PO(X:Cx)(e:Option Expr)(t:TO):Prop :=
 ∀(pins:List (Addr×Obj)) (s:Shared) (σ:St) (H:Hp) (Q:Option Int->Hp->Prop),Inv X pins σ H s->t σ H Q ->
  wpAny (model X.prog X.w) X.A (evalPart e X.env) (λu s'=>∃o H',Inv X pins σ H' s'/\IsPart u o/\Q o H') X.xe s
def v49:TO:=λ_ H Q=>Q none H
def wc2(t:TE):TO:=λσ H Q=>t σ H λx H1=>∃i,x=.int i/\Q (some i) H1
section
variable{X:Cx}{e:Expr}{te:TE}{lo hi:Option Expr}{tl th:TO}{pos p2:Pos}
theorem w19:PO X none v49:=by
 intro pins s σ H Q I h;rw[evalPart_none];exact C9 ⟨none,H,I,.none,h⟩
theorem w18(h:PE X e te):PO X (some e) (wc2 te):=by
 intro pins s σ H Q I hw;rw[evalPart_some]
 (refine thn (h pins s σ H _ I hw) ?_;rintro u s1 ⟨x,H1,I1,r1,q1⟩)
 obtain⟨i,rfl,q⟩:=q1;obtain⟨t,rfl⟩:=r1;exact⟨some i,H1,I1,.int i t,q⟩
def SlR(X:Cx)(r:V->Option Int->Option Int->Hp->VK->Prop):Prop :=
 ∀(pins:List (Addr×Obj)) (s:Shared) (σ:St) (H:Hp) (x:V) (v vl vu:Value) (lo hi:Option Int) (sl:Addr) (Q:VK),Inv X pins σ H s->RelV x v->s.heap.IsSliceOf sl vl vu .none->IsPart vl lo->IsPart vu hi->r x lo hi H Q ->
  ∃T id,B29 (.type T) "__getitem__" = pure (some (.builtin id))/\s.TypeIs v T/\wpAny (model X.prog X.w) X.A (A79 v (.ref sl)) (EP X pins σ Q) X.xe s
theorem SlR.or{r r':V->Option Int->Option Int->Hp->VK->Prop}(h:SlR X r)(h':SlR X r'):SlR X (λx lo hi H Q=>r x lo hi H Q\/r' x lo hi H Q):=by
 intro pins s σ H x v vl vu lo hi sl Q I rx hs pl pu q
 rcases q with q|q
 ·exact h pins s σ H x v vl vu lo hi sl Q I rx hs pl pu q
 ·exact h' pins s σ H x v vl vu lo hi sl Q I rx hs pl pu q
def tSl(r:V->Option Int->Option Int->Hp->VK->Prop)(te:TE)(tl th:TO):TE:=λσ H Q=>te σ H λx H1=>tl σ H1 λl H2=>th σ H2 λu H3=>r x l u H3 Q
theorem vh9{r:V->Option Int->Option Int->Hp->VK->Prop}(hr:SlR X r)(he:PE X e te)(hl:PO X lo tl)(hu:PO X hi th):PE X (.Subscript e (.Slice lo hi none p2) pos) (tSl r te tl th):=by
 intro pins s σ H Q I h
 (refine B77 (thn (he pins s σ H _ I h) ?_);rintro v s1 ⟨x,H1,I1,r1,q1⟩)
 (refine wpAny_Slice (thn (hl pins s1 σ H1 _ I1 q1) ?_);rintro vl s2 ⟨l,H2,I2,pl,q2⟩;refine thn (hu pins s2 σ H2 _ I2 q2) ?_;rintro vu s3 ⟨u,H3,I3,pu,q3⟩)
 rw[evalPart_none];refine C9 ?_;have I4:Inv X pins σ H3 { s3 with heap:=s3.heap.push { cls:=.type "slice",data:=.fields #[vl,vu,.none]}}:=I3.kept (t':=s3.toks) λb ob q=>B7 _ q
 obtain⟨T,id,hT,ht,hg⟩:=hr pins { s3 with heap:=s3.heap.push { cls:=.type "slice",data:=.fields #[vl,vu,.none]}} σ H3 x v vl vu l u s3.heap.objs.size Q I4 r1 (C45 ..) pl pu q3
 show wpAny (model X.prog X.w) X.A (B13 e (.Slice lo hi none p2) v (.ref s3.heap.objs.size)) (EP X pins σ Q) X.xe { s3 with heap:=s3.heap.push { cls:=.type "slice",data:=.fields #[vl,vu,.none]}}
 exact tail_any (ops:=[.ref s3.heap.objs.size,v]) ht hT hg (by with_unfolding_all rfl)
def cutV(xs:List V)(lo hi:Option Int):List V:=(xs.drop (HT.sIx xs.length 0 lo)).take (HT.sIx xs.length xs.length hi-HT.sIx xs.length 0 lo)
theorem uh9(xs:List V)(lo hi:Option Int):(cutV xs lo hi).length<=xs.length:=by
 unfold cutV;rw[Z6,A57];omega
def rSlT(K:W.Frag):V->Option Int->Option Int->Hp->VK->Prop:=λx lo hi H Q=>∃a xs,x=.ref a/\SqT K H a xs /\
 ¬ (HT.sIx xs.length 0 lo=0/\HT.sIx xs.length xs.length hi=xs.length)/\∀p,H p=none->Q (.ref p) (upd H p (.tup (cutV xs lo hi)))
theorem wd2:SlR X (rSlT X.K):=by
 intro pins s σ H x v vl vu lo hi sl Q I rx hs pl pu h;obtain⟨a,xs,rfl,hx,hw,q⟩:=h;cases rx;obtain⟨its,r,ht,hz⟩:=I.tuple hx;have hlen:its.toArray.size=xs.length:=by rw[D3];exact r.length.symm
 refine⟨"tuple",_,U9.lookup,ht.typeIs,?_⟩;refine HT.getItem_tuple_cut ht hs pl pu (by rw[hlen];exact hw) ?_ (by rw[hlen];exact hz);rw[hlen];refine⟨.ref s.heap.objs.size,_,I.laid (t':=s.toks) (o:=.tup (cutV xs lo hi)) (λb ob q=>B7 _ q) (B9 _) ?_,rfl,q _ (I.hok.fresh (B9 _))⟩;exact⟨D4 (uh9 xs lo hi) hz,_,(r.drop (HT.sIx xs.length 0 lo)).take (HT.sIx xs.length xs.length hi-HT.sIx xs.length 0 lo),TupD.new _ _⟩
def x05(K:W.Frag):R2:=λx y H Q=>∃a b xs ys,x=.ref a/\y=.ref b/\SqT K H a xs/\SqT K H b ys/\xs≠[]/\xs.length+ys.length<=sizeLine /\
 (ys=[]->Q (.ref a) H)/\(ys≠[]->∀p,H p=none->Q (.ref p) (upd H p (.tup (xs++ys))))
theorem Vals.nil_iff{xs:List V}{us:List Value}(r:Vals xs us):us=[]↔xs=[]:=by
 cases r with
 | nil=>simp
 | cons _ _=>simp
theorem op_catT:OpR X (K7 .Add) (x05 X.K):=by
 intro pins s σ H x y v u Q I rx ry h;obtain⟨a,b,xs,ys,rfl,rfl,ha,hb,hx,hz,q1,q2⟩:=h;cases rx;cases ry;obtain⟨its,r1,p1,_⟩:=I.tuple ha;obtain⟨its2,r2,p2,_⟩:=I.tuple hb;refine HT.cat_tup p1 p2 (λz=>hx (r1.nil_iff.mp z)) (λz=>⟨.ref a,H,I,rfl,q1 (r2.nil_iff.mp z)⟩) (λz=>?_) (by rw[<- r1.length,<- r2.length];exact hz);refine⟨.ref s.heap.objs.size,_,I.laid (t':=s.toks) (o:=.tup (xs++ys)) (λb ob q=>B7 _ q) (B9 _) ?_,rfl,q2 (λw=>z (r2.nil_iff.mpr w)) _ (I.hok.fresh (B9 _))⟩;exact⟨by rw[B0];exact hz,_,r1.append r2,TupD.new _ _⟩
end
def ixN(n:Nat)(i:Int):Option Nat:=if 0<=i then(if i<n then some i.toNat else none) else if -(n:Int)<=i then some (i+n).toNat else none
def atI{α:Type}(xs:List α)(i:Int):Option α:=(ixN xs.length i).bind λj=>xs[j]?
theorem ut9{n:Nat}{i:Int}{j:Nat}(h:ixN n i=some j):C10 i n=some j/\j<n/\-(n:Int)<=i/\i<n:=by
 unfold ixN at h
 by_cases h0:0<=i
 ·rw[if_pos h0] at h
  by_cases h1:i<n
  ·rw[if_pos h1] at h
   have e:i.toNat=j:=E2 h;exact⟨by rw[B59 h0 h1,e],by omega,by omega,h1⟩
  ·rw[if_neg h1] at h;cases h
 ·rw[if_neg h0] at h
  by_cases h1:-(n:Int)<=i
  ·rw[if_pos h1] at h
   have e:(i+n).toNat=j:=E2 h;exact⟨by rw[B44 (by omega) h1,e],by omega,h1,by omega⟩
  ·rw[if_neg h1] at h;cases h
theorem uv4{α:Type}{xs:List α}{i:Int}{v:α}(h:atI xs i=some v):∃j,C10 i xs.length=some j/\xs[j]?=some v/\j<xs.length/\-(xs.length:Int)<=i/\i<xs.length:=by
 unfold atI at h;cases e:ixN xs.length i with
 | none=>rw[e] at h;cases h
 | some j =>
  rw[e] at h;obtain⟨h1,h2,h3,h4⟩:=ut9 e;exact⟨j,h1,h,h2,h3,h4⟩
theorem u72{α:Type}{xs:List α}{j:Nat}{v:α}(h:xs[j]?=some v):atI xs (j:Int)=some v:=by
 have hj:j<xs.length:=(J7.mp h).1;have e:ixN xs.length (j:Int)=some j:=by
  unfold ixN;rw[if_pos (by omega),if_pos (by omega)];simp
 unfold atI;rw[e];exact h
def ve4(b:Expr):Prop:=∀o i,subscripted b false o i=operate [o,i] (A79 o i)
def IxR(X:Cx)(r:R2):Prop :=
 ∀(value slice:Expr) (pins:List (Addr×Obj)) (s:Shared) (σ:St) (H:Hp) (x y:V) (v u:Value) (Q:VK),Inv X pins σ H s->RelV x v->RelV y u->r x y H Q ->
  subscripted slice false v u=operate [v,u] (A79 v u)->wpAny (model X.prog X.w) X.A (B13 value slice v u) (EP X pins σ Q) X.xe s
def MtR(X:Cx)(id:String)(r:V->List V->Hp->VK->Prop):Prop :=
 ∀(pins:List (Addr×Obj)) (s:Shared) (σ:St) (H:Hp) (x:V) (xs:List V) (v:Value) (us:List Value) (Q:VK),Inv X pins σ H s->RelV x v->Vals xs us->r x xs H Q ->
  wpAny (model X.prog X.w) X.A (call (.builtin id) (v::us)) (EP X pins σ Q) X.xe s
section
variable{X:Cx}{a b:Expr}{ta tb:TE}{pos:Pos}
theorem IxR.or{r r':R2}(h:IxR X r)(h':IxR X r'):IxR X (λx y H Q=>r x y H Q\/r' x y H Q):=by
 intro value slice pins s σ H x y v u Q I rx ry q hs
 rcases q with q|q
 ·exact h value slice pins s σ H x y v u Q I rx ry q hs
 ·exact h' value slice pins s σ H x y v u Q I rx ry q hs
theorem MtR.or{id:String}{r r':V->List V->Hp->VK->Prop}(h:MtR X id r)(h':MtR X id r'):MtR X id (λx xs H Q=>r x xs H Q\/r' x xs H Q):=by
 intro pins s σ H x xs v us Q I rx rs q
 rcases q with q|q
 ·exact h pins s σ H x xs v us Q I rx rs q
 ·exact h' pins s σ H x xs v us Q I rx rs q
theorem x12{r:R2}(hr:IxR X r)(ha:PE X a ta)(hb:PE X b tb)(hs:ve4 b):PE X (.Subscript a b pos) (tOp r ta tb):=by
 intro pins s σ H Q I h;exact B77 (binT ha hb I h λv u s2 x y H2 I2 rx ry q=>hr a b pins s2 σ H2 x y v u Q I2 rx ry q (hs _ _))
def rIxL(K:W.Frag):R2:=λx y H Q=>∃p xs i v,x=.ref p/\y=.int i/\SqL K H p xs/\atI xs i=some v/\Q v H
def rIxT(K:W.Frag):R2:=λx y H Q=>∃p xs i v,x=.ref p/\y=.int i/\SqT K H p xs/\atI xs i=some v/\Q v H
def rIxS:R2:=λx y H Q=>∃z i c,x=.str z/\y=.int i/\z.length<=sizeLine/\atI z.cps.toList i=some c/\Q (.str ⟨#[c]⟩) H
theorem ix_list:IxR X (rIxL X.K):=by
 intro value slice pins s σ H x y v u Q I rx ry h hs;obtain⟨p,xs,i,z,rfl,rfl,hq,he,q⟩:=h;cases rx;obtain⟨t,rfl⟩:=ry;obtain⟨its,r,pl,hz⟩:=I.list hq;obtain⟨j,h1,h2,h3,h4,h5⟩:=uv4 he;obtain⟨w,ew,rw'⟩:=r.get h2;have hl:=r.length;have hn:=line63;have fin:EP X pins σ Q w s:=⟨z,H,I,rw',q⟩
 by_cases h0:0<=i
 ·have hj:i.toNat=j:=by
   rw[B59 h0 h5] at h1;exact E2 h1
  exact item_listR pl.isList h0 (by omega) (by rw[hj];simpa using ew) fin hs
 ·have hj:(i+(its.toArray.size:Int)).toNat=j:=by
   rw[B44 (by omega) h4] at h1;rw[D3,<- hl];exact E2 h1
  exact subscriptTail_builtinR (x:=w) pl.isList.typeIs slot_list_getitem.lookup
   (wpAny_getItem_list_neg (Q:=λr s'=>r=w/\EP X pins σ Q r s') pl.isList (by omega) (by rw[D3] <;> omega) (by omega) (by rw[hj];simpa using ew) ⟨rfl,fin⟩) hs
theorem ix_tup:IxR X (rIxT X.K):=by
 intro value slice pins s σ H x y v u Q I rx ry h hs;obtain⟨p,xs,i,z,rfl,rfl,hq,he,q⟩:=h;cases rx;obtain⟨t,rfl⟩:=ry;obtain⟨its,r,pl,hz⟩:=I.tuple hq;obtain⟨j,h1,h2,h3,h4,h5⟩:=uv4 he;obtain⟨w,ew,rw'⟩:=r.get h2;have hl:=r.length;have hn:=line63;have fin:EP X pins σ Q w s:=⟨z,H,I,rw',q⟩;exact subscriptTail_builtinR (x:=w) pl.typeIs slot_tuple_getitem.lookup
  (getItem_tuple (j:=j) (Q:=λr s'=>r=w/\EP X pins σ Q r s') pl (by omega) (by omega) (by rw[D3,<- hl];exact h1) (by simpa using ew) ⟨rfl,fin⟩) hs
theorem wp7:IxR X rIxS:=by
 intro value slice pins s σ H x y v u Q I rx ry h hs;obtain⟨z,i,c,rfl,rfl,hz,he,q⟩:=h;obtain⟨t,rfl⟩:=rx;obtain⟨t',rfl⟩:=ry;obtain⟨j,h1,h2,h3,h4,h5⟩:=uv4 he;have hl:z.cps.toList.length=z.length:=by simp[B18]
 rw[hl] at h1 h4 h5;have hn:=line63;exact tail_any (B30 s z t) slot_str_getitem.lookup (getItem_str (c:=c) (by
  have e1:decide (i < -(2^63:Int))=false:=decide_eq_false (by omega);have e2:decide (i ≥ 2^63)=false:=decide_eq_false (by omega);rw[e1,e2,P9]) (by rw[h1];simpa using h2) ⟨.str ⟨#[c]⟩,H,I.tok _,⟨_,rfl⟩,q⟩) hs
def rIx(K:W.Frag):R2:=λx y H Q=>rIxL K x y H Q\/rIxT K x y H Q\/rIxS x y H Q
theorem wp8:IxR X (rIx X.K):=ix_list.or (ix_tup.or wp7)
theorem v14(its:List Value)(n j:Nat)(u:Value):A68 (·.setIfInBounds j u) { cls:=.type "list",data:=.seq its.toArray n}={ cls:=.type "list",data:=.seq (its.set j u).toArray n}:=by
 simp[A68]
theorem Inv.lst{pins:List (Addr×Obj)}{σ:St}{H:Hp}{s:Shared}{p:Addr}{xs:List V}(I:Inv X pins σ H s)(h:H p=some (.lst xs)) :
  ∃(its:List Value) (n:Nat),Vals xs its/\s.heap.get? p=some { cls:=.type "list",data:=.seq its.toArray n}/\xs.length<=sizeLine:=by
 obtain⟨z,its,n,r,e⟩:=I.hok p _ h;exact⟨its,n,r,e,z⟩
theorem Inv.lstUpd{pins:List (Addr×Obj)}{σ:St}{H:Hp}{s:Shared}{p:Addr}{xs ys:List V}{its its':List Value}{n n':Nat}{f:Obj->Obj}(I:Inv X pins σ H s)(h:H p=some (.lst xs))
  (ho:s.heap.get? p=some { cls:=.type "list",data:=.seq its.toArray n}) (hf:f { cls:=.type "list",data:=.seq its.toArray n}={ cls:=.type "list",data:=.seq its'.toArray n'}) (r:Vals ys its') (hz:ys.length<=sizeLine) (t:Nat) :
  Inv X pins σ (upd H p (.lst ys)) { s with heap:=s.heap.update p f,toks:=t}:=by
 have e:(s.heap.update p f).get? p=some { cls:=.type "list",data:=.seq its'.toArray n'}:=by
  rw[A94 f ho (by rw[hf] <;> rfl),hf]
 refine I.write (x:=p) (e:=p) (by rw[h];trivial) (.inl rfl) (λb u hb q=>(A69 _ _ (D6 hb)).trans q) ⟨_,e⟩ ?_;exact⟨hz,its',n',r,e⟩
def x04:V->V->V->Hp->(Hp->Prop)->Prop:=λo i v H Q=>∃p xs k j,o=.ref p/\i=.int k/\H p=some (.lst xs)/\ixN xs.length k=some j/\Q (upd H p (.lst (xs.set j v)))
theorem set_list:PSet X x04:=by
 intro pins s σ H o i v ov iv u Q I ro ri rv h;obtain⟨p,xs,k,j,rfl,rfl,hp,hj,q⟩:=h;cases ro;obtain⟨t,rfl⟩:=ri;obtain⟨its,n,r,ho,hz⟩:=I.lst hp;obtain⟨h1,h2,h3,h4⟩:=ut9 hj;have hl:=r.length;have hn:=line63;have I':Inv X pins σ (upd H p (.lst (xs.set j v))) { s with heap:=s.heap.update p (A68 (·.setIfInBounds j u))} :=
  I.lstUpd hp ho (v14 its n j u) (r.set rv j) (by rw[J0];exact hz) s.toks
 by_cases h0:0<=k
 ·have hk:k.toNat=j:=by
   rw[B59 h0 h4] at h1;exact E2 h1
  exact W.ki_setAt ho h0 (by omega) (by rw[D3,<- hl];exact h4) (by rw[hk];exact⟨_,I',q⟩)
 ·have hk:(k+(its.toArray.size:Int)).toNat=j:=by
   rw[B44 (by omega) h3] at h1;rw[D3,<- hl];exact E2 h1
  exact W.ki_setBack ho (by omega) (by rw[D3,<- hl];exact h3) (by omega) (by rw[hk];exact⟨_,I',q⟩)
theorem uq0(lo hi:Option Int)(n:Nat):(Y8 lo hi none n).1=((HT.sIx n 0 lo:Nat):Int)/\(Y8 lo hi none n).2.1=((HT.sIx n n hi:Nat):Int)/\(Y8 lo hi none n).2.2=1:=by
 refine⟨?_,?_,rfl⟩
 ·cases lo with
  | none=>simp[Y8,HT.sIx]
  | some i =>
   simp only[Y8,HT.sIx,B47,show(1:Int)>0 by decide,if_true]
   by_cases h:i<0
   ·simp only[h,if_true] <;> omega
   ·simp only[h,if_false] <;> omega
 ·cases hi with
  | none=>simp[Y8,HT.sIx]
  | some i =>
   simp only[Y8,HT.sIx,B47,show(1:Int)>0 by decide,if_true]
   by_cases h:i<0
   ·simp only[h,if_true] <;> omega
   ·simp only[h,if_false] <;> omega
theorem um5(its:List Value)(lo hi:Option Int):slicePick its.toArray lo hi none=((its.drop (HT.sIx its.length 0 lo)).take (HT.sIx its.length its.length hi-HT.sIx its.length 0 lo)).toArray:=by
 obtain⟨h1,h2,h3⟩:=uq0 lo hi its.toArray.size;unfold slicePick;rw[h1,h2,h3];simp only[sliceRange_one,pick_run,D3] <;> rfl
def rSlL(K:W.Frag):V->Option Int->Option Int->Hp->VK->Prop:=λx lo hi H Q=>∃a xs,x=.ref a/\SqL K H a xs/\∀p,H p=none->Q (.ref p) (upd H p (.lst (cutV xs lo hi)))
theorem sl_list:SlR X (rSlL X.K):=by
 intro pins s σ H x v vl vu lo hi sl Q I rx hs pl pu h;obtain⟨a,xs,rfl,hx,q⟩:=h;cases rx;obtain⟨its,r,ht,hz⟩:=I.list hx;have hlen:=r.length;refine⟨"list",_,slot_list_getitem.lookup,ht.isList.typeIs,?_⟩;refine wpAny_getItem_list_slice ht.isList hs pl pu .none (by simp) ?_ (by rw[D3] <;> omega);rw[um5,<- hlen];refine⟨.ref s.heap.objs.size,_,I.laid (t':=s.toks) (o:=.lst (cutV xs lo hi)) (λb ob q=>B7 _ q) (B9 _) ?_,rfl,q _ (I.hok.fresh (B9 _))⟩;exact⟨D4 (uh9 xs lo hi) hz,_,0,(r.drop (HT.sIx xs.length 0 lo)).take (HT.sIx xs.length xs.length hi-HT.sIx xs.length 0 lo),D8 _ rfl⟩
def uh7:V->Bool
 | .non=>true
 | .bl _=>true
 | .int _=>true
 | .str _=>true
 | _=>false
def eqV:V->V->Bool
 | .non,.non=>true
 | .bl a,.bl b=>a==b
 | .bl a,.int b=>(if a then 1 else 0)==b
 | .int a,.bl b=>a==(if b then 1 else 0)
 | .int a,.int b=>a==b
 | .str a,.str b=>a==b
 | _,_=>false
theorem vt3{A:Around}{s:Shared}{y x:V}{u v:Value}(ry:RelV y u)(rx:RelV x v)(fy:uh7 y=true)(fx:uh7 x=true):A70 A s u v (eqV y x):=by
 cases y with
 | non =>
  cases ry;cases x with
  | non=>cases rx;exact A83 _
  | bl b=>cases rx;exact C25 b
  | int b=>obtain⟨t,rfl⟩:=rx;exact C35 b t
  | str b=>obtain⟨t,rfl⟩:=rx;exact C36 b t
  | _=>exact absurd (show false=true from fx) C7
 | bl a =>
  cases ry;cases x with
  | non=>cases rx;exact C26 a
  | bl b=>cases rx;exact C27 a b
  | int b=>obtain⟨t,rfl⟩:=rx;exact C37 a b t
  | str b=>obtain⟨t,rfl⟩:=rx;exact C38 a b t
  | _=>exact absurd (show false=true from fx) C7
 | int a =>
  obtain⟨t',rfl⟩:=ry;cases x with
  | non=>cases rx;exact C39 a t'
  | bl b=>cases rx;exact C40 a t' b
  | int b=>obtain⟨t,rfl⟩:=rx;exact C46 a t' b t
  | str b=>obtain⟨t,rfl⟩:=rx;exact B14 a t' b t
  | _=>exact absurd (show false=true from fx) C7
 | str a =>
  obtain⟨t',rfl⟩:=ry;cases x with
  | non=>cases rx;exact C41 a t'
  | bl b=>cases rx;exact C42 a t' b
  | int b=>obtain⟨t,rfl⟩:=rx;exact B15 a t' b t
  | str b=>obtain⟨t,rfl⟩:=rx;exact C47 a t' b t
  | _=>exact absurd (show false=true from fx) C7
 | _=>exact absurd (show false=true from fy) C7
def eqU(x:V)(u:Value):Bool:=match u with
 | .none=>eqV .non x
 | .bool b=>eqV (.bl b) x
 | .int i _=>eqV (.int i) x
 | .str z _=>eqV (.str z) x
 | _=>false
theorem vt2{x y:V}{u:Value}(r:RelV y u)(f:uh7 y=true):eqU x u=eqV y x:=by
 cases y with
 | non=>cases r;rfl
 | bl b=>cases r;rfl
 | int i=>obtain⟨t,rfl⟩:=r;rfl
 | str z=>obtain⟨t,rfl⟩:=r;rfl
 | _=>exact absurd (show false=true from f) C7
theorem ui2{x:V}:∀{xs:List V} {us:List Value},Vals xs us->xs.all uh7=true->us.any (eqU x)=xs.any λy=>eqV y x
 | _,_,.nil,_=>rfl
 | y::xs,u::us,.cons r t,f=>by
  rw[U6,L7] at f;rw[O8,O8,vt2 r f.1,ui2 t f.2]
theorem uc8{A:Around}{s:Shared}{x:V}{v:Value}(rx:RelV x v)(fx:uh7 x=true):∀{xs:List V} {us:List Value},Vals xs us->xs.all uh7=true->∀u∈us,A70 A s u v (eqU x u)
 | _,_,.nil,_=>λu hu=>by cases hu
 | y::xs,u::us,.cons r t,f=>λu' hu=>by
  rw[U6,L7] at f
  rcases D1.mp hu with rfl|hu
  ·rw[vt2 r f.1];exact vt3 r rx f.1 fx
  ·exact uc8 rx fx t f.2 u' hu
def inV(x:V)(xs:List V):Bool:=xs.any λy=>eqV y x
def rIn(K:W.Frag)(neg:Bool):R2:=λx y H Q=>∃p xs,y=.ref p/\(SqL K H p xs\/SqT K H p xs)/\uh7 x=true/\xs.all uh7=true/\Q (.bl (if neg then !inV x xs else inV x xs)) H
theorem v79:OpR X (K1 .In) (rIn X.K false):=by
 intro pins s σ H x y v u Q I rx ry h;obtain⟨p,xs,rfl,hq,fx,fs,q⟩:=h;cases ry
 rcases hq with hq|hq
 ·obtain⟨its,r,pl,hz⟩:=I.list hq
  refine SeqAt.in_listAt (eqU x) pl.isList (λw hw=>uc8 rx fx r fs w (by simpa using hw)) ⟨.bl _,H,I,rfl,?_⟩;rw[show its.toArray.any (eqU x)=its.any (eqU x) by simp,ui2 r fs];exact q
 ·obtain⟨its,r,pl,hz⟩:=I.tuple hq
  refine SeqAt.in_tupleAt (eqU x) pl (λw hw=>uc8 rx fx r fs w (by simpa using hw)) ⟨.bl _,H,I,rfl,?_⟩;rw[show its.toArray.any (eqU x)=its.any (eqU x) by simp,ui2 r fs];exact q
theorem uq5:OpR X (K1 .NotIn) (rIn X.K true):=by
 intro pins s σ H x y v u Q I rx ry h;obtain⟨p,xs,rfl,hq,fx,fs,q⟩:=h;cases ry
 rcases hq with hq|hq
 ·obtain⟨its,r,pl,hz⟩:=I.list hq
  refine SeqAt.notIn_listAt (eqU x) pl.isList (λw hw=>uc8 rx fx r fs w (by simpa using hw)) ⟨.bl _,H,I,rfl,?_⟩;rw[show its.toArray.any (eqU x)=its.any (eqU x) by simp,ui2 r fs];exact q
 ·obtain⟨its,r,pl,hz⟩:=I.tuple hq
  refine SeqAt.notIn_tupleAt (eqU x) pl (λw hw=>uc8 rx fx r fs w (by simpa using hw)) ⟨.bl _,H,I,rfl,?_⟩;rw[show its.toArray.any (eqU x)=its.any (eqU x) by simp,ui2 r fs];exact q
theorem call_len_seq:CallR X (.builtin "len") (λxs H Q=>∃p ys,xs=[.ref p]/\(SqL X.K H p ys\/SqT X.K H p ys)/\Q (.int ys.length) H):=by
 intro pins s σ H xs us Q I r h;obtain⟨p,ys,rfl,hq,q⟩:=h;obtain⟨u,rfl,rx⟩:=vals1 r;cases rx;have hn:=line63
 rcases hq with hq|hq
 ·obtain⟨its,r',pl,hz⟩:=I.list hq
  have hlen:=r'.length;exact Calls.call_len_list pl.isList (by simp only[D3] <;> omega) ⟨.int ys.length,H,I.tok _,⟨s.toks+1,by rw[D3,hlen]⟩,q⟩
 ·obtain⟨its,r',pl,hz⟩:=I.tuple hq
  have hlen:=r'.length;exact len_tuple pl (by simp only[D3] <;> omega) ⟨.int ys.length,H,I.tok _,⟨s.toks+1,by rw[D3,hlen]⟩,q⟩
theorem us1:CallR X (.builtin "len") (λxs H Q=>∃z,xs=[.str z]/\z.length<=sizeLine/\Q (.int z.length) H):=by
 intro pins s σ H xs us Q I r h;obtain⟨z,rfl,hz,q⟩:=h;obtain⟨u,rfl,t,rfl⟩:=vals1 r;have hn:=line63;exact len_str (by omega) ⟨.int z.length,H,I.tok _,⟨_,rfl⟩,q⟩
theorem CallR.or{f:Value}{r r':List V->Hp->VK->Prop}(h:CallR X f r)(h':CallR X f r'):CallR X f (λxs H Q=>r xs H Q\/r' xs H Q):=by
 intro pins s σ H xs us Q I rs q
 rcases q with q|q
 ·exact h pins s σ H xs us Q I rs q
 ·exact h' pins s σ H xs us Q I rs q
theorem us0:CallR X (.type "list") (λxs H Q=>∃p ys,xs=[.ref p]/\(SqL X.K H p ys\/SqT X.K H p ys)/\∀l,H l=none->Q (.ref l) (upd H l (.lst ys))):=by
 intro pins s σ H xs us Q I r h;obtain⟨p,ys,rfl,hq,q⟩:=h;obtain⟨u,rfl,rx⟩:=vals1 r;cases rx;have fin:∀(its:List Value),Vals ys its->ys.length<=sizeLine->∀(h':Heap) (c':Nat),(∀b o',s.heap.get? b=some o'->h'.get? b=some o') ->
   h'.get? s.heap.objs.size=some { cls:=.type "list",dict:=none,data:=.seq its.toArray c',slots:=#[]}->EP X pins σ Q (.ref s.heap.objs.size) { s with heap:=h'}:=λits r' hz h' c' kp e =>
  ⟨.ref s.heap.objs.size,_,I.laid (t':=s.toks) kp (B9 _) (show ObjOk X.prog X.w _ h' _ (.lst ys) from⟨hz,its,c',r',e⟩),rfl,q _ (I.hok.fresh (B9 _))⟩
 rcases hq with hq|hq
 ·obtain⟨its,r',pl,hz⟩:=I.list hq
  have hlen:=r'.length;obtain⟨o,ho,hc,n,hd⟩:=pl.isList;exact call_list_seq p (.inl rfl) ho hc hd (λh' c' kp e=>fin its r' hz h' c' kp e) (by simp only[D3] <;> omega)
 ·obtain⟨its,r',pl,hz⟩:=I.tuple hq
  have hlen:=r'.length;obtain⟨o,ho,hc,n,hd⟩:=pl;exact call_list_seq p (.inr rfl) ho hc hd (λh' c' kp e=>fin its r' hz h' c' kp e) (by simp only[D3] <;> omega)
theorem un8:CallR X (.type "tuple") (λxs H Q=>∃p ys,xs=[.ref p]/\((SqL X.K H p ys/\∀l,H l=none->Q (.ref l) (upd H l (.tup ys)))\/(SqT X.K H p ys/\Q (.ref p) H))):=by
 intro pins s σ H xs us Q I r h;obtain⟨p,ys,rfl,h⟩:=h;obtain⟨u,rfl,rx⟩:=vals1 r;cases rx
 rcases h with⟨hq,q⟩|⟨hq,q⟩
 ·obtain⟨its,r',pl,hz⟩:=I.list hq
  have hlen:=r'.length;refine call_tuple_list pl.isList (λh' kp=>?_) (by simp only[D3] <;> omega);have I1:Inv X pins σ H { s with heap:=h'}:=I.kept (t':=s.toks) kp
  have I2:Inv X pins σ (upd H h'.objs.size (.tup ys)) { s with heap:=h'.push { cls:=.type "tuple",data:=.seq its.toArray}} :=
   I1.laid (t':=s.toks) (λb o e=>B7 _ e) (B9 _) (show ObjOk X.prog X.w _ _ _ (.tup ys) from⟨hz,its,r',TupD.new _ _⟩)
  exact⟨.ref h'.objs.size,_,I2,rfl,q _ (I1.hok.fresh (B9 _))⟩
 ·obtain⟨its,r',pl,hz⟩:=I.tuple hq
  exact call_tuple_same pl ⟨.ref p,H,I,rfl,q⟩
def tyV(K:W.Frag)(T:String)(x:V)(H:Hp):Prop:=match x with
 | .str _=>T = "str"
 | .int _=>T = "int"
 | .ref p=>(T = "list" /\ ∃xs,SqL K H p xs)\/(T = "tuple" /\ ∃o,K.lookup p=some o/\o.cls=.type "tuple" /\ o.dict=none) \/
   (T = "dict" /\ ((∃kvs,H p=some (.dK kvs))\/∃kvs,H p=some (.dT kvs)))\/(T = "set" /\ ∃S n,H p=some (.set S n))
 | _=>False
theorem vo9{pins:List (Addr×Obj)}{σ:St}{H:Hp}{s:Shared}{T:String}{x:V}{v:Value}(I:Inv X pins σ H s)(r:RelV x v)(ty:tyV X.K T x H) :
  s.TypeIs v T/\∀a,v=.ref a->∃ob,s.heap.get? a=some ob/\ob.dict=none:=by
 cases x with
 | str z =>
  obtain⟨t,rfl⟩:=r;cases(show T = "str" from ty);exact⟨B30 s z t,λ_ e=>nomatch e⟩
 | int i =>
  obtain⟨t,rfl⟩:=r;cases(show T = "int" from ty);exact⟨B78 s i t,λ_ e=>nomatch e⟩
 | ref p =>
  cases r
  rcases ty with⟨rfl,xs,hq⟩|⟨rfl,o,hk,hc,hd⟩|⟨rfl,hk⟩|⟨rfl,S,n,hk⟩
  ·obtain⟨its,_,pl,_⟩:=I.list hq
   refine⟨pl.isList.typeIs,λa e=>?_⟩;cases e;obtain⟨o,n,e,c,hd,_⟩:=pl;exact⟨o,e,hd⟩
  ·refine⟨⟨o,I.kIn p o hk,hc⟩,λa e=>?_⟩
   cases e;exact⟨o,I.kIn _ o hk,hd⟩
  ·have z:∃o,s.heap.get? p=some o/\o.ExactDict:=by
    rcases hk with⟨kvs,hk⟩|⟨kvs,hk⟩
    ·obtain⟨_,_,_,_,o,_,_,e,ex,_⟩:=I.hok p _ hk
     exact⟨o,e,ex⟩
    ·obtain⟨_,_,_,_,o,_,_,e,ex,_⟩:=I.hok p _ hk
     exact⟨o,e,ex⟩
   obtain⟨o,e,ex⟩:=z;refine⟨⟨o,e,ex.1⟩,λa e2=>?_⟩;cases e2;exact⟨o,e,ex.2.1⟩
  ·obtain⟨o,_,_,_,e,ex,_⟩:=I.hok p _ hk
   refine⟨⟨o,e,ex.1⟩,λa e2=>?_⟩;cases e2;exact⟨o,e,ex.2.1⟩
 | _=>exact P0 ty
def tBM0(K:W.Frag)(T:String)(r:V->List V->Hp->VK->Prop)(to:TE):TE:=λσ H Q=>to σ H λx H1=>tyV K T x H1/\r x [] H1 Q
def tBM(K:W.Frag)(T:String)(r:V->List V->Hp->VK->Prop)(to:TE)(t:TA):TE:=λσ H Q=>to σ H λx H1=>tyV K T x H1/\t σ H1 λxs H2=>r x xs H2 Q
variable{o e:Expr}{es:List Expr}{to:TE}{t:TA}{name:Str}{apos cpos:Pos}{T id:String}{r:V->List V->Hp->VK->Prop}
theorem wg5(pa:PlainAttrs T)(slot:Slot T name id)(hty:typeOf (.builtin id)=pure (.type "method_descriptor"))(hm:MtR X id r)(ho:PE X o to)
  (hbase:L9 o name X.env (eval o X.env)=eval o X.env:=by rfl) (hline:(apos.endLine==cpos.line)=true:=by rfl):PE X (.Call (.Attribute o name apos) [] [] cpos) (tBM0 X.K T r to):=by
 intro pins s σ H Q I h
 (refine wpAny_Call_method0_late hbase hline (thn (ho pins s σ H _ I h) ?_);rintro v s1 ⟨x,H1,I1,r1,ty,q1⟩)
 obtain⟨h1,h2⟩:=vo9 I1 r1 ty;exact⟨T,id,pa,slot,hty,h1,h2,V6 rfl (PySem.evalArgs_none (hm pins s1 σ H1 x [] v [] Q I1 r1 .nil q1))⟩
theorem vi5(pa:PlainAttrs T)(slot:Slot T name id)(hty:typeOf (.builtin id)=pure (.type "method_descriptor"))(hm:MtR X id r)(ho:PE X o to)(ha:PA X (e::es) t)
  (hbase:L9 o name X.env (eval o X.env)=eval o X.env:=by rfl)
  (hfew:((backTo cpos (C5 (e::es) X.env)).all (λx=>!x.1)&&(Q5 cpos (M5 [] X.env)).all (λx=>x.1.isSome)
   && decide ((e::es).length+([]:List Keyword).length+(if([]:List Keyword).isEmpty then 0 else 1)<30))=true:=by rfl)
  (hline:(apos.endLine==cpos.line)=true:=by rfl) (hs:C5 (e::es) X.env=(false,eval e X.env)::C5 es X.env:=by rfl) (hplain:(backTo cpos (C5 es X.env)).any (·.1)=false:=by rfl) :
  PE X (.Call (.Attribute o name apos) (e::es) [] cpos) (tBM X.K T r to t):=by
 intro pins s σ H Q I h
 (refine wpAny_Call_method_late hbase hfew hline rfl (thn (ho pins s σ H _ I h) ?_);rintro v s1 ⟨x,H1,I1,r1,ty,q1⟩)
 obtain⟨h1,h2⟩:=vo9 I1 r1 ty;refine⟨T,id,pa,slot,hty,h1,h2,?_⟩;have hA:=ha cpos pins s1 σ H1 _ I1 q1;rw[hs] at hA⊢;refine V6 (by show(false||(backTo cpos (C5 es X.env)).any (·.1))=false;rw[hplain] <;> rfl) (A04 ?_)
 (refine thn hA ?_;rintro us s2 ⟨vs,H2,I2,r2,q2⟩;exact hm pins s2 σ H2 x vs v us Q I2 r1 r2 q2)
/- xs.append(e),list.index on a module's tuple .. are MtR facts of 06m -/
end
def MtM(X:Cx)(id:String)(r:V->List V->Hp->VK->Prop):Prop :=
 ∀(pins:List (Addr×Obj)) (s:Shared) (σ:St) (H:Hp) (x:V) (xs:List V) (v:Value) (us:List Value) (Q:VK),Inv X pins σ H s->RelV x v->Vals xs us->r x xs H Q ->
  wpAny (model X.prog X.w) X.A (call (.builtin id) (v::us)) (EP X pins σ Q) X.xe s
theorem Vals.one{x:V}{us:List Value}(h:Vals [x] us):∃u,us=[u]/\RelV x u:=by
 cases h with|cons r t=>cases t;exact⟨_,rfl,r⟩
theorem Vals.two{x y:V}{us:List Value}(h:Vals [x,y] us):∃u v,us=[u,v]/\RelV x u/\RelV y v:=by
 cases h with|cons r t=>cases t with|cons q t=>cases t;exact⟨_,_,rfl,r,q⟩
theorem Vals.zero:∀{us:List Value},Vals [] us->us=[]
 | _,.nil=>rfl
theorem Vals.dropLast{xs:List V}{us:List Value}(h:Vals xs us):Vals xs.dropLast us.dropLast:=by
 induction h with
 | nil=>exact .nil
 | cons r t ih =>
  cases t with
  | nil=>exact .nil
  | cons q t'=>exact .cons r ih
theorem Vals.eraseIdx:∀{xs:List V} {us:List Value} (i:Nat),Vals xs us->Vals (xs.eraseIdx i) (us.eraseIdx i)
 | _,_,_,.nil=>.nil
 | _,_,0,.cons _ t=>t
 | _,_,i+1,.cons r t=>.cons r (Vals.eraseIdx i t)
theorem Vals.rep{xs:List V}{us:List Value}(h:Vals xs us):∀k:Nat,Vals (C2 k xs).flatten (C2 k us).flatten
 | 0=>.nil
 | k+1=>by
  rw[M4,M4,T8,T8];exact Vals.append h (Vals.rep h k)
theorem v23{α:Type}(l:List α):l.eraseIdx (l.length-1)=l.dropLast:=by
 induction l with
 | nil=>rfl
 | cons a r ih =>
  cases r with
  | nil=>rfl
  | cons b r =>
   have e:(a::b::r).length-1=((b::r).length-1)+1:=by
    have h1:(a::b::r).length=r.length+2:=rfl;have h2:(b::r).length=r.length+1:=rfl;omega
   rw[e,List.eraseIdx_cons_succ,ih]
   all_goals rfl
theorem ur0{α:Type}:∀(l:List α) (i:Nat),(l.eraseIdx i).length<=l.length
 | [],_=>B9 _
 | _::_,0=>M0 _
 | _::r,i+1=>Nat.succ_le_succ (ur0 r i)
theorem foldl_rep(its:List Value):∀(k:Nat) (acc:List Value),
  B69 (λx1 x2=>x1++x2) acc.toArray (C2 k its.toArray)=(acc++(C2 k its).flatten).toArray
 | 0,acc=>by simp
 | k+1,acc=>by
  have e:acc.toArray++its.toArray=(acc++its).toArray:=by simp
  have e2:(acc++its)++(C2 k its).flatten=acc++(C2 (k+1) its).flatten:=by
   rw[M4,T8,E1]
  rw[<- e2,<- foldl_rep its k (acc++its),<- e,M4,A84]
section
variable{X:Cx}{pins:List (Addr×Obj)}{σ:St}{H:Hp}{s:Shared}{l b:Addr}{xs ys zs:List V}
theorem Inv.lset{its its':List Value}{n:Nat}{f:Array Value->Array Value}{t':Nat}(I:Inv X pins σ H s)(hH:H l=some (.lst xs))
  (e:s.heap.get? l=some { cls:=.type "list",data:=.seq its.toArray n}) (hf:f its.toArray=its'.toArray) (hv:Vals ys its') (hz:ys.length<=sizeLine) :
  Inv X pins σ (upd H l (.lst ys)) { s with heap:=s.heap.update l (A68 f),toks:=t'}:=by
 have q:=C57 e f;rw[hf] at q;refine I.write (x:=l) (e:=l) (by rw[hH];exact trivial) (.inl rfl) (λb' u hb hu=>(A69 s.heap (A68 f) (D6 hb)).trans hu) ⟨_,q⟩ ?_;exact⟨hz,its',_,hv,q⟩
theorem Inv.lnew{its:List Value}{t':Nat}(I:Inv X pins σ H s)(hv:Vals ys its)(hz:ys.length<=sizeLine) :
  Inv X pins σ (upd H s.heap.objs.size (.lst ys)) { s with heap:=s.heap.push { cls:=.type "list",data:=.seq its.toArray},toks:=t'} :=
 I.laid (λ_ _ q=>B7 _ q) (B9 _) ⟨hz,its,0,hv,D8 _ rfl⟩
theorem Inv.fresh(I:Inv X pins σ H s):H s.heap.objs.size=none:=I.hok.fresh (B9 _)
theorem Inv.lstM(I:Inv X pins σ H s)(hH:H l=some (.lst xs)):xs.length<=sizeLine/\∃(its:List Value) (n:Nat),Vals xs its/\xs.length=its.length/\s.heap.get? l=some { cls:=.type "list",data:=.seq its.toArray n}:=by
 obtain⟨z,its,n,r,e⟩:=I.hok l _ hH;exact⟨z,its,n,r,r.length,e⟩
theorem ux2{n:Nat}(h:n<=sizeLine):U7 n=false:=by
 unfold U7;exact decide_eq_false (by omega)
end
section
variable{X:Cx}
def w06:V->List V->Hp->VK->Prop:=λx vs H Q=>∃l xs y,x=.ref l/\vs=[y]/\H l=some (.lst xs)/\xs.length<sizeLine/\Q .non (upd H l (.lst (xs++[y])))
theorem uq7:MtM X "list.append" w06:=by
 intro pins s σ H x vs v us Q I rx rv h;obtain⟨l,xs,y,rfl,rfl,hH,hz,q⟩:=h;cases rx;obtain⟨u,rfl,ru⟩:=rv.one;obtain⟨z,its,n,r,hl,e⟩:=I.lstM hH;refine X2 F.slot_list_append ⟨_,e,rfl⟩ F.entry_list_append (F.args_list_append_2 _ _) (PySem.list_append l its.toArray n u (by rw[D3];omega)) ⟨e,?_⟩;refine⟨.non,_,I.lset (its':=its++[u]) hH e (by simp) (r.append (.cons ru .nil)) ?_,rfl,q⟩;rw[B0,R8];omega
def w05:V->List V->Hp->VK->Prop:=λx vs H Q=>∃l b xs zs,x=.ref l/\vs=[.ref b]/\H l=some (.lst xs)/\H b=some (.lst zs)/\xs.length+zs.length<=sizeLine/\Q .non (upd H l (.lst (xs++zs)))
theorem v83:MtM X "list.extend" w05:=by
 intro pins s σ H x vs v us Q I rx rv h;obtain⟨l,b,xs,zs,rfl,rfl,hH,hB,hz,q⟩:=h;cases rx;obtain⟨u,rfl,ru⟩:=rv.one;cases ru;obtain⟨z,its,n,r,hl,e⟩:=I.lstM hH;obtain⟨z2,its2,n2,r2,hl2,e2⟩:=I.lstM hB;have hsz:its.toArray.size+its2.toArray.size<=sizeLine:=by rw[D3,D3];omega
 have hlong:¬ (!its.toArray.isEmpty&&U7 (its.toArray.size+its2.toArray.size))=true:=by
  rw[ux2 hsz,Bool.and_false];exact C7
 refine X2 F.slot_list_extend ⟨_,e,rfl⟩ F.entry_list_extend (F.args_list_extend_2 _ _)
  (AutoSeq1.list_extend_list_list_0 l its.toArray n b its2.toArray n2 hlong (by rw[D3];omega) (by omega)) ⟨e,e2,?_⟩
 refine⟨.non,_,I.lset (its':=its++its2) hH e (by simp) (r.append r2) ?_,rfl,q⟩;rw[B0];omega
def rPop:V->List V->Hp->VK->Prop:=λx vs H Q=>∃l xs y,x=.ref l/\vs=[]/\H l=some (.lst xs)/\xs[xs.length-1]?=some y/\Q y (upd H l (.lst xs.dropLast))
theorem x32:MtM X "list.pop" rPop:=by
 intro pins s σ H x vs v us Q I rx rv h;obtain⟨l,xs,y,rfl,rfl,hH,hy,q⟩:=h;cases rx;have hus:=rv.zero;subst hus;obtain⟨z,its,n,r,hl,e⟩:=I.lstM hH;obtain⟨u,hu,ru⟩:=r.get hy;have hy':its.toArray[its.toArray.size-1]?=some u:=by
  show its.toArray[its.length-1]?=some u
  rw[<- W6,<- hl];exact hu
 refine X2 F.slot_list_pop ⟨_,e,rfl⟩ F.entry_list_pop (F.args_list_pop_1 _) (MeetsSeq.list_pop_last l its.toArray n u hy' (by rw[D3];omega)) ⟨e,?_⟩;refine⟨y,_,I.lset (its':=its.dropLast) hH e ?_ r.dropLast ?_,ru,q⟩
 ·show its.toArray.eraseIdxIfInBounds (its.toArray.size-1)=its.dropLast.toArray
  rw[D3,Z4,v23]
 ·rw[List.length_dropLast]
  omega
def we1:V->List V->Hp->VK->Prop:=λx vs H Q=>∃l xs i k y,x=.ref l/\vs=[.int i]/\H l=some (.lst xs)/\-(2^63)<=i/\i<2^63/\C10 i xs.length=some k/\xs[k]?=some y/\Q y (upd H l (.lst (xs.eraseIdx k)))
theorem vi8:MtM X "list.pop" we1:=by
 intro pins s σ H x vs v us Q I rx rv h;obtain⟨l,xs,i,k,y,rfl,rfl,hH,h1,h2,hk,hy,q⟩:=h;cases rx;obtain⟨u,rfl,ru⟩:=rv.one;obtain⟨t,rfl⟩:=ru;obtain⟨z,its,n,r,hl,e⟩:=I.lstM hH;obtain⟨w,hw,rw'⟩:=r.get hy;refine X2 F.slot_list_pop ⟨_,e,rfl⟩ F.entry_list_pop (F.args_list_pop_2 _ _)
  (MeetsSeq.list_pop_at l its.toArray n i t k w (fitsIndex_both h1 h2) (by rw[D3,<- hl];exact hk) (by rw[<- W6];exact hw) (by rw[D3];omega)) ⟨e,?_⟩
 refine⟨y,_,I.lset (its':=its.eraseIdx k) hH e ?_ (r.eraseIdx k) ?_,rw',q⟩
 ·show its.toArray.eraseIdxIfInBounds k=(its.eraseIdx k).toArray
  rw[Z4]
 ·have:=ur0 xs k
  omega
def we2:V->List V->Hp->VK->Prop:=λx vs H Q=>∃l xs,x=.ref l/\vs=[]/\H l=some (.lst xs)/\Q .non (upd H l (.lst []))
theorem vi9:MtM X "list.clear" we2:=by
 intro pins s σ H x vs v us Q I rx rv h;obtain⟨l,xs,rfl,rfl,hH,q⟩:=h;cases rx;have hus:=rv.zero;subst hus;obtain⟨z,its,n,r,hl,e⟩:=I.lstM hH;refine X2 F.slot_list_clear ⟨_,e,rfl⟩ F.entry_list_clear (F.args_list_clear_1 _) (AutoSeq1.list_clear_list_0 l its.toArray n (by rw[D3];omega)) ⟨e,?_⟩;exact⟨.non,_,I.lset (its':=[]) (ys:=[]) hH e rfl .nil (N4 _),rfl,q⟩
def rCat:R2:=λx y H Q=>∃l b xs zs,x=.ref l/\y=.ref b/\H l=some (.lst xs)/\H b=some (.lst zs)/\xs.length+zs.length<=sizeLine/\∀p,H p=none->Q (.ref p) (upd H p (.lst (xs++zs)))
theorem wh8:OpR X (K7 .Add) rCat:=by
 intro pins s σ H x y v u Q I rx ry h;obtain⟨l,b,xs,zs,rfl,rfl,hH,hB,hz,q⟩:=h;cases rx;cases ry;obtain⟨z,its,n,r,hl,e⟩:=I.lstM hH;obtain⟨z2,its2,n2,r2,hl2,e2⟩:=I.lstM hB;refine PySem.P.add_list e e2 ?_ (by rw[D3,D3];omega);have ea:its.toArray++its2.toArray=(its++its2).toArray:=by simp
 rw[ea];exact⟨.ref _,_,I.lnew (t':=s.toks) (r.append r2) (by rw[B0];omega),rfl,q _ I.fresh⟩
def rRep:R2:=λx y H Q=>∃l k xs,x=.ref l/\y=.int k/\H l=some (.lst xs)/\-(2^63)<=k/\k<2^63/\xs.length*k.toNat<=sizeLine /\
 ∀p,H p=none->Q (.ref p) (upd H p (.lst (C2 k.toNat xs).flatten))
theorem len_rep{α:Type}(xs:List α)(k:Nat):(C2 k xs).flatten.length=k*xs.length:=by
 induction k with
 | zero=>simp
 | succ k ih=>rw[M4,T8,B0,ih,B37,Q0]
theorem wh3:OpR X (K7 .Mult) rRep:=by
 intro pins s σ H x y v u Q I rx ry h;obtain⟨l,k,xs,rfl,rfl,hH,h1,h2,hz,q⟩:=h;cases rx;obtain⟨t,rfl⟩:=ry;obtain⟨z,its,n,r,hl,e⟩:=I.lstM hH;have hlen:its.toArray.size*k.toNat<=sizeLine:=by rw[D3,<- hl];exact hz
 have hcap:¬ its.toArray.size*k.toNat>(2^63-1) / 8:=by
  have:(sizeLine:Nat)<=(2^63-1) / 8:=by decide
  omega
 have hfit:¬ (!Builtin.List.listFitsIndex k)=true:=by
  rw[fitsIndex_both h1 h2];exact C7
 have hlong:¬ U7 (its.toArray.size*k.toNat)=true:=by
  rw[ux2 hlen];exact C7
 have hnew:B69 (λx1 x2=>x1++x2) #[] (C2 (if its.toArray.isEmpty=true then 0 else k.toNat) its.toArray)=(C2 k.toNat its).flatten.toArray:=by
  have f0:∀m:Nat,B69 (λx1 x2=>x1++x2) #[] (C2 m its.toArray)=(C2 m its).flatten.toArray:=λm=>by
   have:=foldl_rep its m [];rw[F8] at this;exact this
  rw[f0];cases its with
  | nil=>simp
  | cons a r'=>rw[if_neg (by simp)]
 refine wpAny_binaryOp_repeat_ref (T := "list") (U := "int") (by decide) ⟨_,e,rfl⟩ (λs'=>B78 s' k t) noFill_list_mul F.fills_int_mul F.slot_int_rmul repeat_list F.slot_int_index.lookup
  (X2 F.slot_int_rmul (B78 s k t) F.entry_int_rmul (F.args_int_rmul_2 _ _) (int___rmul___int_list k t l its.toArray n)
   ⟨e,rfl,⟨_,e,rfl⟩,X2 F.slot_list_mul ⟨_,e,rfl⟩ F.entry_list_mul (F.args_list_mul_2 _ _) (B32 l its.toArray n k t hfit hcap hlong) ⟨e,?_⟩⟩)
 rw[hnew];exact⟨.ref _,_,I.lnew (t':=s.toks) (r.rep k.toNat) (by rw[len_rep,Nat.mul_comm];exact hz),rfl,q _ I.fresh⟩
end
end L2
namespace Att
open PySem PySem.W PySem.Calls PyProof.Rows
theorem uh4{P:Params}{h:Heap}:∀(ns:List Int) (vs:List Value),WellAll P h vs (ns.map C58)->B67 vs ns:=by
 intro ns
 induction ns with
 | nil =>
  intro vs w;rw[B36] at w;cases w;exact .nil
 | cons n ns ih =>
  intro vs w;rw[C8] at w;cases w with
  | cons a b =>
   cases a;exact .cons _ _ (ih _ b)
theorem v56{l:C18}{n:Nat}(hn:l.most=some n){P:Params}{h:Heap}{args:List WData}{vals:List Value}
  (hpre:l.row.toRowW.claim.pre args=true) (hwl:WellAll P h vals args) :
  ∃a vs ns,vals=[J4 a]/\args=[WData.list (ns.map C58)]/\h.get? a=some { cls:=.type "list",data:=.seq vs.toArray}/\B67 vs ns/\ns.length<=n:=by
 have hsh:WShape.hasAll [] args [.list .int]=true:=(pre_splitW hpre).1;have hc:l.pre.holds [] { args:=args}=true:=(pre_splitW hpre).2;obtain⟨d,r,rfl,h1,h2⟩:=hasAllW_cons hsh;obtain rfl:=hasAllW_nil h2;obtain⟨xs,rfl,h3⟩:=hasW_list h1;obtain⟨ns,rfl⟩:=items_int h3;have hlen:ns.length<=n:=by
  unfold C18.pre at hc;have h4:(WTm.not (.lt (.lit (.int (n:Int))) (.len (.arg 0)))).holds [] { args:=[.list (ns.map .int)]}=true:=by
   have h4:=(holds_andW hc).1;rw[hn] at h4;exact h4
  have h5:=condW_of h4 (w_not (w_lt w_lit (w_len_list (w_arg rfl))));rw[B5] at h5;refine Nat.le_of_not_lt λq=>?_
  have q':(n:Int)<((ns.length:Nat):Int):=by omega
  first
   | (rw[decide_eq_true q'] at h5;exact absurd h5 (by decide))
   | (simp at h5;omega)
 cases hwl with
 | cons w1 w2 =>
  cases w2;cases w1 with
  | list ho hall=>exact⟨_,_,ns,rfl,rfl,ho,uh4 ns _ hall,hlen⟩
theorem v71(l:C18)(args:List WData):l.row.toRowW.claim.post args (.bool true) args=true :=
 postW_of (r:=l.row.toRowW) (X:=(true==true))
  (show C48 [] (.bool true) .bool=true by first|rfl|decide|simp[C48,WShape.arms,WShape.armsAll])
  (show(WTm.eq .res (.lit (.bool true))).value [] { args:=args,res:=some (.bool true),after:=args}=some (.bool (true==true)) from w_eq_bool (w_res rfl) w_lit) rfl
theorem attach_call{l:C18}{n:Nat}{q:Program}{loose:List Str}{XP:(Str->Option Value)->Heap->Prop}{YP:World->Heap->Prop}{d:DefRec}
  (hn:l.most=some n) (hdf:d.params.defaults=[])
  (call:∀(w:World) (s₀ s₁:Shared) (mg mb:Str->Option Value) (fa:Addr) (o:Obj) (pm cd doc:Value) (a:Addr) (vs:List Value) (ns:List Int),
   Ground q loose [] XP w s₀ mg mb s₁.heap->YP w s₁.heap ->
   s₁.heap.get? fa=some o->o.data=.func (docDef d.name d.params d.body d.scope pm cd doc)->s₁.heap.CodeRec cd d.name->mg d.name=some (.ref fa) ->
   s₁.heap.get? a=some { cls:=.type "list",data:=.seq vs.toArray}->B67 vs ns->ns.length<=n->s₁.gens=#[] ->
   A01 (model l.prog w) B08 (.call (.ref fa) ⟨[.ref a],[]⟩) (λr s'=>r=.ok (.ret (.bool true))/\OldK s₁.heap s'.heap/\s'.os=s₁.os/\A44 s'.gens) s₁) :
  WalkO q loose XP YP l.row.toRowW d [] (λf vs=>B70 f vs):=by
 intro w s₀ s₁ mg mb G Y fa o pm cd doc dV kV ho hd hcd hD hmg hg args vals as hpre hlay hrd hwl hlo;obtain rfl:dV=.none:=Dflts.none hD hdf;obtain rfl:kV=.none:=Dflts.noKw hD;obtain⟨a,vs,ns,rfl,rfl,hobj,hints,hlen⟩:=v56 hn hpre hwl;refine enter_call (A78 (call w s₀ s₁ mg mb fa o pm cd doc a vs ns G Y ho (fd_plain hd) hcd hmg hobj hints hlen hg) λr s' hq=>?_);obtain⟨rfl,h2,h3,h4⟩:=hq;exact⟨.inl ⟨.bool true,.bool true,[],rfl,λ_=>rfl,.bool true,v71 l _,λ_=>⟨C51,λ_ hm=>(nomatch hm)⟩⟩,h2,h3,h4⟩
end Att
namespace L2
open PySem PySem.Spec PyProof.Rows
theorem uo6:∀{vs:List Value} {ns:List Int},B67 vs ns->Vals (ns.map V.int) vs
 | _,_,.nil=>.nil
 | _,_,.cons n t h=>.cons ⟨t,rfl⟩ (uo6 h)
def Only(H:Hp):Prop:=∀b,H b=none\/∃o xs,H b=some (.frz o (.lst xs))
theorem vl2{P:Program}{w:World}{K:W.Frag}{mg mb:Str->Option Value}{CX:CXT}{k:Nat}{fa a:Addr}{fd:Y0}{x:Str}{sp:Sp}{s₁:Shared}{vs:List Value}{ns:List Int}
  (KX:K.In s₁.heap) (hns:s₁.heap.Ns F9 mg) (hb:s₁.heap.Ns B28 mb) (hbb:∀x:Str,x ≠ "__name__" -> mb x=P3 x) (hlim:s₁.heap.NoLimit) (hg:s₁.gens=#[])
  (ha:s₁.heap.get? a=some { cls:=.type "list",data:=.seq vs.toArray}) (hi:B67 vs ns) (hl:ns.length<=sizeLine) (hr:Room k B08)
  (F:∀base:Heap,K.In base->base.Ns F9 mg->FnOk P w K mg base CX k fa fd [x] sp) (hbind:∀(s:Shared) (u:Value),B06 s fd ⟨[u],[]⟩ [(x,u)])
  (hsp:∀H:Hp,Only H->SqL K H a (ns.map V.int)->sp [.ref a] H (λv _=>v=.bl true) λ_ _ _=>False)
  (hCX:∀H e s',CX [] H s₁ (λ_ _ _=>False) e s'->False) :
  A01 (model P w) B08 (.call (.ref fa) ⟨[.ref a],[]⟩) (λr s'=>r=.ok (.ret (.bool true))/\OldK s₁.heap s'.heap/\s'.os=s₁.os/\A44 s'.gens) s₁:=by
 have rv:=uo6 hi;have lenV:=hi.length;have core:∀H:Hp,Only H->SqL K H a (ns.map V.int)->HOk P w H s₁.heap->(∀b,H b≠none->b=a)->(H a≠none->K.lookup a=none) ->
   A01 (model P w) B08 (.call (.ref fa) ⟨[.ref a],[]⟩) (λr s'=>r=.ok (.ret (.bool true))/\OldK s₁.heap s'.heap/\s'.os=s₁.os/\A44 s'.gens) s₁:=by
  intro H hO hS hok hA hK;have base_of:∀{b:Addr} {o:Obj},s₁.heap.get? b=some o->H b=none->(hidT s₁.heap H).get? b=some o:=λe n=>vl5 e n
  have noA:∀{b:Addr} {o:Obj} {es:Array B54} {ep:Nat},s₁.heap.get? b=some o->o.data=.dict es ep->H b=none:=λ{b o es ep} e d=>by
   cases q:H b with
   | none=>rfl
   | some u =>
    have e':b=a:=hA b (by rw[q];simp);subst e';rw[ha] at e;cases e;have d':C28 vs.toArray _=Data.dict es ep:=d;cases d'
  have nsK:∀{b:Addr} {m:Str->Option Value},s₁.heap.Ns b m->(hidT s₁.heap H).Ns b m:=λ{b m} ⟨o,es,ep,e,d,r⟩=>⟨o,es,ep,base_of e (noA e d),d,r⟩
  have hKb:K.In (hidT s₁.heap H):=λb o e=>base_of (KX b o e) (by
   cases q:H b with
   | none=>rfl
   | some u =>
    have e':b=a:=hA b (by rw[q];simp);subst e';rw[hK (by rw[q];simp)] at e;cases e)
  have hM:Mod K mg (hidT s₁.heap H):=⟨hKb,nsK hns,⟨mb,nsK hb,hbb⟩,let ⟨mc,h1,h2⟩:=hlim;⟨mc,nsK h1,h2⟩⟩;have e0:Env0 P w K mg (hidT s₁.heap H) B08 [] s₁ H:=⟨rfl,hM,λb o e=>w34 e,C12 (va6 _ _),trivial,λb hb=>absurd (show b∈([]:List Addr) from hb) (by simp),hok,.of_eq hg⟩;refine A78 ((F _ hKb (nsK hns)).run B08 [] s₁ H ⟨[.ref a],[]⟩ [.ref a] [.ref a] _ _ hr e0 (hbind s₁ (.ref a)) (.cons rfl .nil) (hsp H hO hS)) λr s' h=>?_
  cases r with
  | error e=>exact(hCX H e s' h).elim
  | ok fl =>
   cases fl with
   | next=>exact P0 h
   | brk=>exact P0 h
   | cont=>exact P0 h
   | ret u =>
    obtain⟨v,H',os,bare,un,hok',r',q⟩:=h;have q':v=.bl true:=q;subst q';obtain rfl:u=W9 true:=r';refine⟨rfl,OldK.of_keep λb o e=>?_,os,bare⟩;cases q:H b with
    | none=>exact un.keep b o e q (by intro z;exact absurd (show b∈([]:List Addr) from z) (by simp)) (by simp)
    | some u =>
     rcases hO b with z|⟨ob,xs,z⟩
     ·rw[q] at z;cases z
     ·have z2:=un.frzs b ob ⟨_,by intro _ e;cases e⟩ z
      obtain⟨e1,_⟩:=hok b _ z;obtain⟨e2,_⟩:=hok' b _ z2;rw[e] at e1;cases e1;exact e2
 cases hk:K.lookup a with
 | some o =>
  have e:=KX a o hk;rw[ha] at e;cases e;refine core (λ_=>none) (λ_=>.inl rfl) (.inr ⟨_,vs.toArray,_,hk,rfl,rfl,rfl,by rw[D3,lenV];exact hl,by simpa using rv⟩) (λb u z=>by have z':(none:Option HO)=some u:=z;cases z') (λb z=>absurd rfl z) λz=>absurd rfl z
 | none =>
  refine core (λb=>if b=a then some (.frz { cls:=.type "list",data:=.seq vs.toArray} (.lst (ns.map V.int))) else none) (λb=>?_) (.inl (.inr ⟨{ cls:=.type "list",data:=.seq vs.toArray},if_pos rfl⟩)) (λb u z=>?_) (λb z=>?_) λ_=>hk
  ·by_cases hb:b=a
   ·exact .inr ⟨_,_,if_pos hb⟩
   ·exact .inl (if_neg hb)
  ·by_cases hb:b=a
   ·have z':=(if_pos hb).symm.trans z
    cases z';subst hb;exact⟨ha,by rw[B5];exact hl,vs,_,rv,ha⟩
   ·have z':=(if_neg hb).symm.trans z
    cases z'
  ·by_cases hb:b=a
   ·exact hb
   ·exact absurd (if_neg hb) z
abbrev KOf{K:W.Frag}{h:Heap}(_:K.In h):W.Frag:=K
theorem walk_of{l:W.OpenLaw}{n k:Nat}{q:Program}{loose:List Str}{XP:(Str->Option Value)->Heap->Prop}{YP:World->Heap->Prop}{d:DefRec}{K:Params->W.Frag}{CX:World->CXT}{sp:World->Sp}{x:Str}
  (hn:l.most=some n) (hn2:n<=sizeLine) (hdf:d.params.defaults=[]) (hr:Room k B08)
  (hY:∀(w:World) (h:Heap),YP w h->(K w.params).In h)
  (F:∀(w:World) (mg:Str->Option Value) (fa:Addr) (h:Heap),(K w.params).In h->h.Ns F9 mg->mg d.name=some (.ref fa) ->
   ∃fd:Y0,(∀(s:Shared) (u:Value),B06 s fd ⟨[u],[]⟩ [(x,u)]) /\
    ∀base:Heap,(K w.params).In base->base.Ns F9 mg->FnOk l.prog w (K w.params) mg base (CX w) k fa fd [x] (sp w))
  (hsp:∀(w:World) (H:Hp) (a:Addr) (ns:List Int),ns.length<=n->Only H->SqL (K w.params) H a (ns.map V.int)->sp w [.ref a] H (λv _=>v=.bl true) λ_ _ _=>False)
  (hCX:∀(w:World) (H:Hp) (s:Shared) (e:Value) (s':Shared),CX w [] H s (λ_ _ _=>False) e s'->False) :
  W.WalkO q loose XP YP l.row.toRowW d [] (λf vs=>B70 f vs):=by
 refine Att.attach_call hn hdf λw s₀ s₁ mg mb fa o pm cd doc a vs ns G Y ho hd hcd hmg hobj hints hlen hg=>?_
 have KX:=hY w _ Y;obtain⟨fd,hb,hF⟩:=F w mg fa _ KX G.T.g hmg;exact vl2 KX G.T.g G.T.b G.T.builtins G.T.nolimit hg hobj hints (D4 hlen hn2) hr hF hb (λH hO hS=>hsp w H a ns hlen hO hS) λH e s'=>hCX w H s₁ e s'
end L2
/- THE LAST THEOREM (shape; LID,My.* are yours):
   My.Adr:a structure of the addresses that your layer names (classes,functions);My.Txt K t:a structure (Prop) of the equations over K;
   My.txt_mk:{K} {implicit addresses ..} (e1:nsIn K F9 "law" = some (some (.ref f))) (e2:K.lookup f=some ⟨oc,od,.func (fnOf "law" "law" params body scope dV kV doc pm an cdv ct),sl⟩) (e3:codeIn K cdv "law" = true) ..:∃t,My.Txt K t
set_option maxHeartbeats 0 in
theorem PySem.Challenge.cw_LID_holds:PySem.Challenge.rw_LID.Holds:=by
 w_on;o_law;k_head;(case hw=>w_witness2)
 k_fill
 refine L2.walk_of (l:=PySem.Challenge.rw_LID) (n:=63) (k:=40) (x := "script") (CX:=λw=>..) (sp:=λ_=>My.sp_law) rfl (by decide) rfl ⟨rfl,by decide,by decide⟩ (λw h Y=>W.kIn_of Y) ?F ?S ?C
 case F =>
  intro w mg fa h KX G hmg;have T:∃t,My.Txt (L2.KOf KX) t:=by
   dsimp only[L2.KOf]                          -- K must stand as «<heap const> w.params» for k_is;refine' My.txt_mk ?e1 ?e2 ?e3 ..
   (case e1=>W.k_is)                    -- in the order:a name->its address->its object->its parts
   (case e2=>W.k_is)
   ..
  obtain⟨t,T⟩:=T;have e0:=hmg.symm.trans (W.mg_of KX G T.law);cases e0                                       -- fa is the law's own address;exact⟨_,λs u=>.of_eq rfl,λbase kb nb=>My.law_fn T kb nb⟩     -- if «.of_eq rfl» comes too early:refine' ⟨_,?b,λbase kb nb=>My.law_fn T kb nb⟩;exact λs u=>.of_eq rfl
 case S=>exact λw H a ns hl hO hS=>..
 case C=>exact ..
(the tactic k_is has no namespace:write k_is) -/
namespace L2
open PySem PySem.Spec PyProof.Rows
def inClass(s:Stmt)(j:Nat):Stmt:=match s with
 | .ClassDef _ _ _ body _ _ _ _ _ _ _=>body.getD j (.Pass ⟨0,0,0,0⟩)
 | _=>.Pass ⟨0,0,0,0⟩
def u70(s:Stmt):Arguments:=match s with
 | .FunctionDef _ a _ _ _ _ _ _ _ _=>a
 | _=>{ posonlyargs:=[],args:=[],vararg:=none,kwonlyargs:=[],kw_defaults:=[],kwarg:=none,defaults:=[]}
def u62(s:Stmt):List Stmt:=match s with
 | .FunctionDef _ _ b _ _ _ _ _ _ _=>b
 | _=>[]
def u04(s:Stmt):Scope:=match s with
 | .FunctionDef _ _ _ _ _ _ sc _ _ _=>sc
 | _=>{ kind:=.function,names:=[],isGenerator:=false,isCoroutine:=false}
abbrev CX0:CXT:=λ_ _ _ _ _ _=>False
abbrev E0:XK:=λ_ _ _=>False
theorem pass0{X:Cx}:Passes CX0 X E0:=λ_ _ _ _ _ _ _ h=>h.elim
theorem vl4{A:Around}{k:Nat}(hr:Room k A):A.units+1<cLine:=C4 (Nat.add_le_add_left (by decide:1<=64) _) hr.units
theorem w52{prog:Program}{w:World}{A:Around}{R:Result->Shared->Prop}{s:Shared}{elt target iter:Expr}{ifs:List Expr}{scope:Scope}{pos:Pos}{it acc:Value}{env:Env}(I:Nat->Shared->Prop)
  (turn:∀n s,I n s->wpAny (model prog w) A (pyNext it) (λr s₁=>match r with
   | none=>R (.ok .next) s₁
   | some v=>wpAny (model prog w) A (A16 target it v) (λ_ s₁=>wpAny (model prog w) A (assign target env v) (λ_ s₂ =>
     wpAny (model prog w) A (forIn ifs true λc r=>if r=true then do let ok <- isTrue c env (eval c env);pure (Q4 ok) else pure (Q4 r)) (λok s₃ =>
      if ok=true then wpAny (model prog w) A (eval elt env) (λx s₄ =>
       wpAny (model prog w) A (call (.builtin "list.append") [acc,x]) (λ_ s₅=>∃m,m<n/\I m s₅) (λ_ _=>False) s₄) (λ_ _=>False) s₃
      else∃m,m<n/\I m s₃) (λ_ _=>False) s₂) (λ_ _=>False) s₁) (λ_ _=>False) s₁) (λ_ _=>False) s)
  (n:Nat) (h:I n s) :
  A01 (model prog w) A (.compLoop (.ListComp elt [⟨target,iter,ifs,0⟩] scope pos) 0 it acc env) R s:=by
 refine codeAny_loop rfl I (λn s hI=>?_) n h
 show wpAny _ A ((compTurn (.ListComp elt [⟨target,iter,ifs,0⟩] scope pos) 0 it acc env).onRaise (λx=>do noteFrame x env;theTreesLotGoes x)) _ _ s
 refine wpAny_noted ?_;rw[compTurn_list];refine B4 (A50 (B4 (P4 (turn n s hI) (λr s₁ h₁=>?_) λ_ _ h'=>h'.elim)));cases r with
 | none=>exact C9 h₁
 | some v =>
  refine B4 (P4 h₁ (λ_ s₂ h₂=>?_) λ_ _ h'=>h'.elim);refine B4 (P4 h₂ (λ_ s₂ h₂=>B4 (P4 h₂ (λok s₃ h₃=>?_) λ_ _ h'=>h'.elim)) λ_ _ h'=>h'.elim);cases ok with
  | false=>exact C9 ⟨rfl,h₃⟩
  | true =>
   exact B4 (B4 (P4 h₃ (λx s₄ h₄=>B4 (P4 h₄ (λ_ s₅ h₅=>C9 (C9 ⟨rfl,h₅⟩)) λ_ _ h'=>h'.elim)) λ_ _ h'=>h'.elim))
def clOf(env:Env):List (Str×E8)->List (Str×Addr)->List (Str×Addr)
 | [],cs=>cs
 | (x,k)::r,cs=>clOf env r (if(k == .free)=true then(x,(env.cells.lookup x).getD 0)::cs else cs)
theorem uu9{env:Env}{x:Str}{c:Addr}(h:env.cells.lookup x=some c):cellOf env x=pure c:=by
 unfold cellOf;rw[h]
theorem ul4{scope:Scope}{env:Env}(h:∀y∈scope.names,y.2=.free->∃c,env.cells.lookup y.1=some c):closureFor scope env=pure (clOf env scope.names []):=by
 have key:∀(l:List (Str×E8)) (cs:List (Str×Addr)),(∀y∈l,y.2=.free->∃c,env.cells.lookup y.1=some c) ->
   (forIn l cs λ(y:Str×E8) r=>if(y.2==E5)=true then do let c <- cellOf env y.1;pure (Q4 ((y.1,c)::r)) else pure (Q4 r):Sem (List (Str×Addr)))=pure (clOf env l cs):=by
  intro l
  induction l with
  | nil=>intro cs _;rfl
  | cons y r ih =>
   intro cs hl;obtain⟨x,k⟩:=y;rw[Y2]
   by_cases hk:k=.free
   ·subst hk
    obtain⟨c,hc⟩:=hl (x,.free) D7 rfl;have e:((E5==E5):Bool)=true:=rfl;simp only[e,if_true,uu9 hc,pure_bind];rw[ih _ λz hz=>hl z (C6 _ hz)]
    show _=pure (clOf env r (if(E5==E5)=true then _ else _))
    rw[e,if_pos rfl,hc] <;> rfl
   ·have e:(k==E5)=false:=by simpa using hk
    simp only[e,V7,if_false,pure_bind];rw[ih _ λz hz=>hl z (C6 _ hz)]
    show _=pure (clOf env r (if(k==E5)=true then _ else _))
    rw[e,if_neg C7]
 have e:closureFor scope env=((forIn scope.names ([]:List (Str×Addr)) λ(y:Str×E8) r=>if(y.2==E5)=true then do let c <- cellOf env y.1;pure (Q4 ((y.1,c)::r)) else pure (Q4 r):Sem (List (Str×Addr))) >>= λcs=>pure cs):=rfl;rw[e,key scope.names [] h];rfl
theorem ui0{env:Env}{x:Str}{c:Addr}:∀{l:List (Str×E8)} {cs:List (Str×Addr)},(∀y∈l,y.2=.free->∃c,env.cells.lookup y.1=some c)->(∀x c,cs.lookup x=some c->env.cells.lookup x=some c) ->
  (clOf env l cs).lookup x=some c->env.cells.lookup x=some c
 | [],_,_,h,e=>h x c e
 | (y,k)::r,cs,hl,h,e=>by
  refine ui0 (l:=r) (λz hz=>hl z (C6 _ hz)) (λx c e=>?_) e
  by_cases hk:k=.free
  ·subst hk
   obtain⟨d,hd⟩:=hl (y,.free) D7 rfl;rw[if_pos (show(E5==E5)=true from rfl),E7] at e;cases hx:x==y with
   | true=>rw[hx,hd] at e;cases e;rw[eq_of_beq hx];exact hd
   | false=>rw[hx] at e;exact h x c e
  ·rw[if_neg (by simpa using hk)] at e;exact h x c e
theorem un7{env:Env}{x:Str}:∀{l:List (Str×E8)} {cs:List (Str×Addr)},((∃c,cs.lookup x=some c)\/(x,E5)∈l)->∃c,(clOf env l cs).lookup x=some c
 | [],_,h=>by
  rcases h with h|h
  ·exact h
  ·simp at h
 | (y,k)::r,cs,h=>by
  refine un7 (l:=r) ?_
  rcases h with⟨c,h⟩|h
  ·left
   by_cases hk:(k==E5)=true
   ·rw[if_pos hk,E7]
    cases hx:x==y with
    | true=>exact⟨_,rfl⟩
    | false=>exact⟨c,h⟩
   ·rw[if_neg hk];exact⟨c,h⟩
  ·rcases D1.mp h with e|h
   ·injection e with e1 e2
    subst e1;subst e2
    left
    rw[if_pos (show(E5==E5)=true from rfl),E7];simp
   ·exact .inr h
def u65(X:Cx)(N':List Str)(scope:Scope)(C:Addr)(s:Shared)(H:Hp)(fp:List Addr):Cx :=
 { X with N:=N',s₀:=s,H₀:=H,env:=C34 scope (clOf X.env scope.names []) C X.env,outer:=X.stack,ex:=fp,fn:=λ_=>false,pn:=[],xe:=λ_ _=>False}
structure BlkOk(X:Cx)(N':List Str)(ix:List (Option Nat))(scope:Scope):Prop where
 kind:scope.kind=.function
 nocell:∀y∈scope.names,y.2≠.cell
 names:∀y∈scope.names,y.2=.local->scope.names.lookup y.1=some .local
 frees:∀y∈scope.names,y.2=.free->X.env.kindOf y.1=some .cell\/X.env.kindOf y.1=some .free
 len:ix.length=N'.length
 at_:∀(i j:Nat) (x:Str),N'[i]?=some x->ix[i]?=some (some j)->X.N[j]?=some x/\scope.names.lookup x=some .free
def inner(ix:List (Option Nat))(σ:St):St:=ix.map λo=>o.bind λj=>(σ[j]?).bind id
def vv2(ix:List (Option Nat))(wi:TI)(g:TG)(tc:TT)(te:TE):TE:=λσ H Q=>wi σ H λJ H1=>∀D,H1 D=none->∃W:Nat->Nat->St->Hp->Prop,(∃m,W 0 m (inner ix σ) (upd H1 D (.lst [])))/\∀i m σi H,W i m σi H ->
 (J.stop i H/\Q (.ref D) H)\/(J.go i H/\∃N:St->Hp->Prop,(∀σ' H',N σ' H'->∃m',m'<m/\W (i+1) m' σ' H')/\∀x H',J.yld i H x H'->g x σi H' λσ2 H2=>tc σ2 H2 λb H3 =>
  if b=true then te σ2 H3 λv H4=>∃ys,H4 D=some (.lst ys)/\ys.length<sizeLine/\N σ2 (upd H4 D (.lst (ys++[v]))) else N σ2 H3)
theorem u74{env:Env}{x:Str}:∀{names:List (Str×E8)},names.lookup x=some .free->(env.kindOf x=some .cell\/env.kindOf x=some .free) ->
  (names.map λ(n,k)=>if(k==E5&&env.scope.kind == .function&&env.kindOf n==some .cell) then(n,N8) else(n,k)).lookup x=some .cell \/
  (names.map λ(n,k)=>if(k==E5&&env.scope.kind == .function&&env.kindOf n==some .cell) then(n,N8) else(n,k)).lookup x=some .free
 | [],h,_=>by simp at h
 | (n,k)::r,h,ho=>by
  cases hx:x==n with
  | true =>
   simp only[E7,hx] at h;cases h
   by_cases hc:(E5==E5&&env.scope.kind == .function&&env.kindOf n==some .cell)=true
   ·left
    show I0 x ((if(E5==E5&&env.scope.kind == .function&&env.kindOf n==some .cell)=true then(n,N8) else(n,.free))::_)=_
    rw[if_pos hc];simp only[E7,hx]
   ·right
    show I0 x ((if(E5==E5&&env.scope.kind == .function&&env.kindOf n==some .cell)=true then(n,N8) else(n,.free))::_)=_
    rw[if_neg hc];simp only[E7,hx]
  | false =>
   simp only[E7,hx] at h;have ih:=u74 (env:=env) h ho
   show I0 x ((if(k==E5&&env.scope.kind == .function&&env.kindOf n==some .cell)=true then(n,N8) else(n,k))::_)=_ \/
    I0 x ((if(k==E5&&env.scope.kind == .function&&env.kindOf n==some .cell)=true then(n,N8) else(n,k))::_)=_
   by_cases hc:(k==E5&&env.scope.kind == .function&&env.kindOf n==some .cell)=true
   ·rw[if_pos hc];simp only[E7,hx];exact ih
   ·rw[if_neg hc];simp only[E7,hx];exact ih
theorem u75{env:Env}{x:Str}:∀{names:List (Str×E8)},(∀y∈names,y.2≠.cell) ->
  ((names.map λ(n,k)=>if(k==E5&&env.scope.kind == .function&&env.kindOf n==some .cell) then(n,N8) else(n,k)).lookup x=some .cell \/
  (names.map λ(n,k)=>if(k==E5&&env.scope.kind == .function&&env.kindOf n==some .cell) then(n,N8) else(n,k)).lookup x=some .free)->(x,E5)∈names
 | [],_,h=>by simp at h
 | (n,k)::r,hn,h=>by
  have h:I0 x ((if(k==E5&&env.scope.kind == .function&&env.kindOf n==some .cell)=true then(n,N8) else(n,k))::(r.map λ(n,k)=>if(k==E5&&env.scope.kind == .function&&env.kindOf n==some .cell) then(n,N8) else(n,k)))=some .cell \/
   I0 x ((if(k==E5&&env.scope.kind == .function&&env.kindOf n==some .cell)=true then(n,N8) else(n,k))::(r.map λ(n,k)=>if(k==E5&&env.scope.kind == .function&&env.kindOf n==some .cell) then(n,N8) else(n,k)))=some .free:=h
  cases hx:x==n with
  | true =>
   have e:x=n:=eq_of_beq hx;subst e
   by_cases hc:(k==E5&&env.scope.kind == .function&&env.kindOf x==some .cell)=true
   ·have hk:k=.free:=by
     simp only[L7,beq_iff_eq] at hc;exact hc.1.1
    subst hk;exact D7
   ·rw[if_neg hc] at h
    simp only[E7,hx,C52] at h
    rcases h with h|h
    ·exact absurd h (hn (x,k) D7)
    ·subst h;exact D7
  | false =>
   refine C6 _ (u75 (env:=env) (λy hy=>hn y (C6 _ hy)) ?_)
   by_cases hc:(k==E5&&env.scope.kind == .function&&env.kindOf n==some .cell)=true
   ·rw[if_pos hc] at h;simp only[E7,hx] at h;exact h
   ·rw[if_neg hc] at h;simp only[E7,hx] at h;exact h
def PIfs(X:Cx)(ifs:List Expr)(t:TT):Prop :=
 ∀(pins:List (Addr×Obj)) (s:Shared) (σ:St) (H:Hp) (Q:Bool->Hp->Prop),Inv X pins σ H s->t σ H Q ->
  wpAny (model X.prog X.w) X.A (forIn ifs true λc r=>if r=true then do let ok <- isTrue c X.env (eval c X.env);pure (Q4 ok) else pure (Q4 r)) (TP X pins σ Q) X.xe s
def tYes:TT:=λ_ H Q=>Q true H
section
variable{X:Cx}{pins:List (Addr×Obj)}{σ:St}{H:Hp}{s:Shared}
theorem vh5:PIfs X [] tYes:=λ_ _ _ H _ I h=>wpAny_tests_nil ⟨H,I,h⟩
theorem vh4{c:Expr}{t:TT}(h:PT X c t):PIfs X [c] t:=λpins s σ H Q I hw=>wpAny_tests_one (h pins s σ H Q I hw)
theorem Inv.blk{N':List Str}{ix:List (Option Nat)}{scope:Scope}{fp:List Addr}{h1:Heap}{tk:Nat}(I:Inv X pins σ H s)(B:BlkOk X N' ix scope)(f:∀b∈fp,FpOk X pins H b)(hlt:∀b∈fp,b<s.heap.objs.size)
  (ns:h1.Ns s.heap.objs.size (λ_=>none)) (old:∀b o,s.heap.get? b=some o->h1.get? b=some o) :
  Inv (u65 X N' scope s.heap.objs.size s H fp) [] (inner ix σ) H { s with heap:=h1,toks:=tk}:=by
 have hfree:∀y∈scope.names,y.2=.free->∃c,X.env.cells.lookup y.1=some c:=λy hy e=>I.ok.has y.1 (B.frees y hy e)
 have hc:∀x c,(clOf X.env scope.names []).lookup x=some c->X.env.cells.lookup x=some c:=λx c e=>ui0 hfree (λ_ _ z=>by cases z) e
 have stk:∀b∈fp,b∉frs X.stack:=λb hb z=>by
  rcases D1.mp (I.stkSub b z) with e|e
  ·exact(f b hb).2.1 e
  ·exact(f b hb).2.2.1 e
 refine⟨⟨I.ok.mod,B.kind,I.ok.glob,I.ok.blt,B9 _,λx y c h1 h2=>I.ok.inj x y c (hc x c h1) (hc y c h2),λx hx=>?_,λx c h=>(by cases h),I.ok.hd,I.ok.frames,.inl rfl,λb hb=>⟨E6 (hlt b hb),λx c e=>(f b hb).2.2.2.2.1 x c (hc x c e)⟩,
   I.bs,D4 I.ok.bsz I.sz,λb o e hb=>?_,stk,I.stack,I.stkFree⟩,rfl,I.bare,Un.kept old,⟨_,ns,λi x v h1 h2 h3=>?_⟩,λx c e=>?_,I.hok.fresh (B9 _),λx c e=>I.freeC x c (hc x c e),λp hp=>absurd (show p∈([]:List (Addr×Obj)) from hp) (by simp),I.hok.kept old,?_⟩
 ·exact un7 (.inr (u75 B.nocell hx))
 ·rcases(f b hb).2.2.2.1 with z|z
  ·exact I.ok.noex b o e z
  ·exact absurd (B8 (D5 e) (D4 I.ok.bsz z)) (W2 _)
 ·have h2:(ix.map λo=>o.bind λj=>(σ[j]?).bind id)[i]?=some (some v):=h2
  rw[F6] at h2;cases ho:ix[i]? with
  | none=>rw[ho] at h2;cases h2
  | some o =>
   rw[ho] at h2;cases o with
   | none=>cases h2
   | some j =>
    have h2:(σ[j]?).bind id=some v:=E2 h2;have h2:σ[j]?=some (some v):=by
     cases hs:σ[j]? with
     | none=>rw[hs] at h2;cases h2
     | some w=>rw[hs] at h2;cases h2;rfl
    obtain⟨hN,hf⟩:=B.at_ i j x h1 ho
    have hk:=B.frees (x,.free) (P5 hf) rfl;obtain⟨m,hn,hl⟩:=I.loc;obtain⟨u,r,lk⟩:=hl j x v hN h2 (hk.elim (λz=>.inr (.inl z)) λz=>.inr (.inr z));refine⟨u,r,.inr ?_⟩
    rcases lk with⟨z,_⟩|⟨_,c,e,z⟩
    ·rcases hk with hk|hk
     ·exact absurd (hk.symm.trans z) (by decide)
     ·exact absurd (hk.symm.trans z) (by decide)
    ·obtain⟨c',e'⟩:=un7 (env:=X.env) (cs:=[]) (.inr (P5 hf))
     have ec:c'=c:=E2 ((hc x c' e').symm.trans e);subst ec;refine⟨u74 hf hk,c',e',?_⟩;obtain⟨o,ho,hd⟩:=z;exact⟨o,old _ _ ho,hd⟩
 ·obtain⟨v,o,ho,hd⟩:=I.cell x c (hc x c e)
  exact⟨v,o,old _ _ ho,hd⟩
 ·show(inner ix σ).length=N'.length
  unfold inner;rw[B5];exact B.len
theorem vd4{elt tg iter:Expr}{ifs:List Expr}{scope:Scope}{pos:Pos}{N':List Str}{ix:List (Option Nat)}{g:TG}{tc:TT}{te:TE}{J:It}{fp:List Addr}{it:Addr}{tn:Nat->Heap->Prop}(B:BlkOk X N' ix scope)
  (hg:∀C s H fp,PG (u65 X N' scope C s H fp) tg g) (hi:∀C s H fp,PIfs (u65 X N' scope C s H fp) ifs tc) (he:∀C s H fp,PE (u65 X N' scope C s H fp) elt te) (hc:X.calm=true)
  (I:Inv X pins σ H s) (T:Turn X.prog X.w X.K tg J fp it tn) (st:tn 0 s.heap) (f:∀b∈fp,FpOk X pins H b) {Q:VK} {E:Value->Shared->Prop}
  (w:∃W:Nat->Nat->St->Hp->Prop,(∃m,W 0 m (inner ix σ) (upd H s.heap.objs.size (.lst [])))/\∀i m σi H,W i m σi H ->
   (J.stop i H/\Q (.ref s.heap.objs.size) H)\/(J.go i H/\∃N:St->Hp->Prop,(∀σ' H',N σ' H'->∃m',m'<m/\W (i+1) m' σ' H')/\∀x H',J.yld i H x H'->g x σi H' λσ2 H2=>tc σ2 H2 λb H3 =>
    if b=true then te σ2 H3 λv H4=>∃ys,H4 s.heap.objs.size=some (.lst ys)/\ys.length<sizeLine/\N σ2 (upd H4 s.heap.objs.size (.lst (ys++[v]))) else N σ2 H3))
  {RR:Value->Addr->Result->Shared->Prop} (hRR:∀C H' s' m,Inv X pins σ H' s'->FpOk X pins H' C->s'.heap.Ns C m->Q (.ref s.heap.objs.size) H'->RR (.ref s.heap.objs.size) C (.ok .next) s') :
  wpAny (model X.prog X.w) X.A (newList []) (λacc s₃=>wpAny (model X.prog X.w) X.A (newFunctionEnv scope X.env.globals (clOf X.env scope.names []) [] X.env.qual none .none (some X.env)) (λcenv s₄ =>
   A01 (model X.prog X.w) X.A (.compStart (.ListComp elt [⟨tg,iter,ifs,0⟩] scope pos) 0 (.ref it) acc { cenv with scope:=relabel scope X.env}) (RR acc cenv.locals) s₄) E s₃) E s:=by
 obtain⟨W,⟨m0,w0⟩,turn⟩:=w;have flt:∀b∈fp,b<s.heap.objs.size:=λb hb=>by
  obtain⟨o,ho,_⟩:=T.obj 0 _ st b hb;exact D5 ho
 have I3:Inv X pins σ (upd H s.heap.objs.size (.lst [])) { s with heap:=s.heap.push { cls:=.type "list",data:=.seq ([]:List Value).toArray},toks:=s.toks}:=I.lnew .nil (N4 _)
 have hfr:∀b∈fp,(upd H s.heap.objs.size (.lst [])) b=none:=λb hb=>by rw[u22 (E6 (flt b hb))];exact(f b hb).1
 have f3:∀b∈fp,FpOk X pins (upd H s.heap.objs.size (.lst [])) b:=λb hb=>⟨hfr b hb,(f b hb).2⟩
 refine Q2 (wpAny_newFunctionEnv B.nocell (by intro y hy;simp at hy) (λh₁ hns₁ hsb₁=>?_) B.kind);dsimp only at hns₁ hsb₁⊢;generalize hH3:s.heap.push { cls:=.type "list",data:=.seq ([]:List Value).toArray}=h3 at hns₁ hsb₁ I3⊢;obtain⟨s3,e3⟩:∃s3:Shared,s3={ s with heap:=h3}:=⟨_,rfl⟩
 obtain rfl:h3=s3.heap:=by rw[e3]
 have I3:Inv X pins σ (upd H s.heap.objs.size (.lst [])) s3:=by
  have e:s3={ s with heap:=s3.heap,toks:=s.toks}:=e3
  rw[e];exact I3
 have eT:s3.toks=s.toks:=by rw[e3]
 have eS:({ s with heap:=h₁,toks:=s.toks+([]:List (Str×Value)).length}:Shared)={ s3 with heap:=h₁,toks:=s3.toks+([]:List (Str×Value)).length}:=by rw[e3]
 rw[eS];have hz3:s3.heap.objs.size=s.heap.objs.size+1:=by rw[<- hH3];exact L6 _ _
 have old:∀b o,s3.heap.get? b=some o->h₁.get? b=some o:=λb o e=>hsb₁.extBut b o (E6 (D5 e)) (B7 _ e)
 have st3:tn 0 s3.heap:=T.keep _ _ _ st λb hb o e=>by rw[<- hH3];exact B7 _ e
 have st4:tn 0 h₁:=T.keep _ _ _ st3 λb _ o e=>old b o e
 have I4:=I3.blk (tk:=s3.toks+([]:List (Str×Value)).length) B f3 (λb hb=>B8 (flt b hb) (by rw[hz3];exact M0 _)) (show h₁.Ns s3.heap.objs.size (λ_=>none) from hns₁) old;generalize hX':u65 X N' scope s3.heap.objs.size s3 (upd H s.heap.objs.size (.lst [])) fp=X' at I4;have eX:X'.prog=X.prog/\X'.w=X.w/\X'.K=X.K/\X'.A=X.A/\X'.calm=X.calm/\X'.env=C34 scope (clOf X.env scope.names []) s3.heap.objs.size X.env/\X'.ex=fp/\X'.outer=X.stack/\X'.s₀=s3/\X'.H₀=upd H s.heap.objs.size (.lst [])/\X'.pn=[]/\X'.xe=(λ_ _=>False):=by
  rw[<- hX'];exact⟨rfl,rfl,rfl,rfl,rfl,rfl,rfl,rfl,rfl,rfl,rfl,rfl⟩
 have hg':PG X' tg g:=hX'▸hg _ _ _ _;have hi':PIfs X' ifs tc:=hX'▸hi _ _ _ _;have he':PE X' elt te:=hX'▸he _ _ _ _;obtain⟨e1,e2,e3,e4,e5,e6,e7,e8,e9,e10,e11,e12⟩:=eX;have stat:∀{H':Hp},(∀b∈fp,H' b=none)->∀b∈fp,FpOk X' [] H' b:=λ{H'} hn b hb=>by
  have q:=I4.ok.exf b (by rw[e7];exact hb);refine⟨hn b hb,q.1,?_,.inl (by rw[e7];exact hb),q.2,λp hp=>?_⟩
  ·exact I4.ok.exfs b (by rw[e7];exact hb)
  ·rw[e11] at hp;simp at hp
 have loop:A01 (model X.prog X.w) X.A (.compLoop (.ListComp elt [⟨tg,iter,ifs,0⟩] scope pos) 0 (.ref it) (.ref s.heap.objs.size) (C34 scope (clOf X.env scope.names []) s3.heap.objs.size X.env))
   (RR (.ref s.heap.objs.size) s3.heap.objs.size) { s3 with heap:=h₁,toks:=s3.toks+([]:List (Str×Value)).length}:=by
  refine w52 (λn s'=>∃i σi Hi,Inv X' [] σi Hi s'/\tn i s'.heap/\(∀b∈fp,Hi b=none)/\W i n σi Hi) ?_ m0 ⟨0,_,_,I4,st4,hfr,w0⟩;rintro n s5 ⟨i,σ5,H5,I5,st5,fr5,w5⟩
  rcases turn i n σ5 H5 w5 with⟨stop,qn⟩|⟨go,N,hN,step⟩
  ·have d:=T.done X' e1 e2 e3 (by rw[e5];exact hc) i [] s5 σ5 H5 (λ_ _=>False) I5 (stat fr5) st5 stop
   rw[e4] at d
   (refine thn d ?_;rintro r s6 ⟨hr,I6⟩)
   subst hr;have u:=I6.base;rw[e7,e9,e10] at u;have u:Un (frs X'.outer) fp (upd H s.heap.objs.size (.lst [])) H5 s3.heap s6.heap:=u;rw[e8] at u;have ok6:=I6.hok;rw[e1,e2] at ok6;have I7:Inv X pins σ H5 s6:=I3.call' (ch:=fp) (by have:=I6.os;rw[e9] at this;exact this) u ok6 I6.bare λb hb=>⟨(f b hb).2.2.2.1,(f b hb).2.1,(f b hb).2.2.2.2.1,(f b hb).2.2.2.2.2⟩
   have hfree:=I6.free;obtain⟨m,hm,_⟩:=I6.loc;rw[e6] at hfree hm;exact hRR _ H5 s6 m I7 (I3.fpOk (B9 _) hfree) hm qn
  ·have d:=T.item X' e1 e2 e3 (by rw[e5];exact hc) i [] s5 σ5 H5 (λ_ _=>False) I5 (stat fr5) st5 go
   rw[e4] at d
   (refine thn d ?_;rintro r s6 ⟨u,hr,h6⟩)
   subst hr
   (refine thn h6 ?_;rintro _ s7 ⟨x,H7,I7,r7,y7,st7,fr7⟩)
   have I7':=I7.pinned (stat fr7) (T.obj _ _ st7);have a:=hg' _ s7 σ5 H7 x u _ I7' r7 (step x H7 y7);rw[e1,e2,e4,e6,e12] at a
   (refine thn a ?_;rintro _ s8 ⟨σ8,H8,I8,q8⟩)
   have t:=hi' _ s8 σ8 H8 _ I8 q8;rw[e1,e2,e4,e6,e12] at t;have again:∀{σ9:St} {H9:Hp} {s9:Shared},Inv X' ([]++uq4 fp s7.heap) σ9 H9 s9->N σ9 H9->∃m,m<n/\∃i σi Hi,Inv X' [] σi Hi s9/\tn i s9.heap/\(∀b∈fp,Hi b=none)/\W i m σi Hi:=λ{σ9 H9 s9} I9 n9=>by
    obtain⟨m',hm,w9⟩:=hN σ9 H9 n9;refine⟨m',hm,i+1,σ9,H9,I9.unpinned,T.keep _ _ _ st7 λb hb o e=>(I9.pin (b,o) (K6 _ (K6 _ (ua5 hb e)))).1,λb hb=>?_,w9⟩;obtain⟨o,e,d⟩:=T.obj _ _ st7 b hb;exact(I9.pin (b,o) (K6 _ (K6 _ (ua5 hb e)))).2.1
   (refine thn t ?_;rintro ok s9 ⟨H9,I9,q9⟩)
   cases ok with
   | false =>
    rw[if_neg C7] at q9⊢;exact again I9 q9
   | true =>
    rw[if_pos rfl] at q9⊢;have v:=he' _ s9 σ8 H9 _ I9 q9;rw[e1,e2,e4,e6,e12] at v
    (refine thn v ?_;rintro y s10 ⟨z,H10,I10,r10,ys,hD,hz,q10⟩)
    have ap:=uq7 _ s10 σ8 H10 (.ref s.heap.objs.size) [z] (.ref s.heap.objs.size) [y] (λ_ H'=>N σ8 H') I10 rfl (.cons r10 .nil) ⟨_,ys,z,rfl,rfl,hD,hz,q10⟩;rw[e1,e2,e4,e12] at ap
    (refine thn ap ?_;rintro _ s11 ⟨_,H11,I11,_,q11⟩;exact again I11 q11)
 exact codeAny_compStart_list loop (T.self _ _ _ _ _ st4 loop)
variable{elt tg iter:Expr}{ifs:List Expr}{scope:Scope}{pos:Pos}{N':List Str}{ix:List (Option Nat)}{wi:TI}{g:TG}{tc:TT}{te:TE}
theorem w28(B:BlkOk X N' ix scope)(hc:X.calm=true)(hw:PI X tg iter wi)
  (hg:∀C s H fp,PG (u65 X N' scope C s H fp) tg g) (hi:∀C s H fp,PIfs (u65 X N' scope C s H fp) ifs tc) (he:∀C s H fp,PE (u65 X N' scope C s H fp) elt te)
  (hs:∀x,U2 iter X.env x=pure x:=by intro _;rfl) :
  PE X (.ListComp elt [⟨tg,iter,ifs,0⟩] scope pos) (vv2 ix wi g tc te):=by
 intro pins s σ H Q I h;rw[eval_ListComp];refine wpAny_comprehension_free (use:=none) rfl hs (ul4 λy hy e=>I.ok.has y.1 (B.frees y hy e)) B.kind B.names ?_;refine thn (hw pins s σ H _ I h) λv s1 h1=>thn h1 λitv s2 h2=>?_
 obtain⟨it,fp,tn,J,H2,e,I2,T,st2,f2,q2⟩:=h2;subst e;refine vd4 B hg hi he hc I2 T st2 f2 (Q:=Q) (q2 _ I2.fresh) λC H' s' m I' fC hm q=>?_
 refine⟨m,hm,λh' sb=>⟨.ref s2.heap.objs.size,H',?_,rfl,q⟩⟩;exact I'.turned (t':=s'.toks) (it:=C) (λb o hb e=>sb.extBut b o hb e) fC.1 fC.2.1 fC.2.2.2.1 fC.2.2.2.2.1 fC.2.2.2.2.2
def x01(i:Nat)(t:TE):TS:=λD σ H=>t σ H λx H1=>D.nx (σ.set i (some x)) H1
theorem w14{i:Nat}{y:Str}{py spos:Pos}(B:BlkOk X N' ix scope)(hc:X.calm=true)(hN:X.N.Nodup)(hy:X.N[i]?=some y)(hl:Loc X.env.scope y)(hw:PI X tg iter wi)
  (hg:∀C s H fp,PG (u65 X N' scope C s H fp) tg g) (hi:∀C s H fp,PIfs (u65 X N' scope C s H fp) ifs tc) (he:∀C s H fp,PE (u65 X N' scope C s H fp) elt te)
  (hsw:W5 (.ListComp elt [⟨tg,iter,ifs,0⟩] scope pos) (some (.Name y py)) spos.line X.env=pure true:=by rfl)
  (hf:X.fn y=true\/X.env.scope.names.lookup y=some .local:=by first|exact .inl rfl|exact .inr rfl|assumption)
  (hs:∀x,U2 iter X.env x=pure x:=by intro _;rfl) :
  PS X (.Assign [.Name y py] (.ListComp elt [⟨tg,iter,ifs,0⟩] scope pos) spos) (x01 i (vv2 ix wi g tc te)):=by
 intro pins s σ H D I h;rw[exec_Assign_Name_used _ _ _ _ hsw];refine B4 (A50 (B4 ?_))
 show wpAny _ X.A (do let _ <- comprehension (.ListComp elt [⟨tg,iter,ifs,0⟩] scope pos) scope X.env _ (newList []) false (eval iter X.env) (some (assign (.Name y py) X.env))) _ _ s
 refine B4 (P4 (wpAny_comprehension_free (use:=some (assign (.Name y py) X.env)) (Q:=λ_ s'=>SP X pins D .next s') rfl hs (ul4 λy hy e=>I.ok.has y.1 (B.frees y hy e)) B.kind B.names
  (thn (hw pins s σ H _ I h) λv s1 h1=>thn h1 λitv s2 h2=>?_)) (λ_ s' hq=>C9 (C9 hq)) λ_ _ e=>e)
 obtain⟨it,fp,tn,J,H2,e,I2,T,st2,f2,q2⟩:=h2;subst e;refine vd4 B hg hi he hc I2 T st2 f2 (Q:=λx H1=>D.nx (σ.set i (some x)) H1) (q2 _ I2.fresh) λC H' s' m I' fC hm q=>?_
 show wpAny _ _ (assign (.Name y py) X.env (.ref s2.heap.objs.size)) _ _ _
 (refine wpAny_assign_Name (uo8 I' hN hy hl (v:=.ref s2.heap.objs.size) rfl (?_) hf);rintro s'' I'' ⟨a,hsame,ha⟩)
 have hCa:C≠a:=by
  rcases ha with z|z
  ·rw[z];exact fC.2.1
  ·intro e;exact fC.2.2.2.2.1 _ _ z e.symm
 refine⟨m,hm.sameBut hsame hCa,λh' sb=>⟨_,H',?_,q⟩⟩;exact I''.turned (t':=s''.toks) (it:=C) (λb o hb e=>sb.extBut b o hb e) fC.1 fC.2.1 fC.2.2.2.1 fC.2.2.2.2.1 fC.2.2.2.2.2
end
section
variable{X:Cx}{pos:Pos}
def gLst(K:W.Frag)(n:Nat)(t:TGs):TG:=λv σ H Q=>∃a xs,v=.ref a/\SqL K H a xs/\xs.length=n/\t xs σ H Q
theorem w23{es:List Expr}{k:Nat}{t:TGs}{n:Nat}(hc:X.calm=true)(h:PGs X es t)
  (hn:(P8 es X.env).length=n:=by rfl) (hst:(P8 es X.env).findIdx? (·.1)=none:=by rfl):PG X (.Tuple es k pos) (gLst X.K n t):=by
 intro pins s σ H v u Q I r hw;obtain⟨a,xs,e1,hq,hl,hw⟩:=hw;subst e1;cases r;obtain⟨its,rv,ht,hz⟩:=I.list hq;rw[B90];refine B4 (A50 ?_);unfold unpack;have hsz:(P8 es X.env).length=its.toArray.size:=by simp[hn,<- hl,rv.length]
 rw[hsz,hst];refine B4 (O1 (W.kun_itemsOf (I.ok.hd hc) ht.isList λh' hx=>?_));have I1:Inv X pins σ H { s with heap:=h'}:=I.kept (t':=s.toks) λb o e=>hx b o (E6 (D5 e)) e
 exact h pins _ σ H xs _ Q I1 (by simpa using rv) hw
theorem x09{tg:Expr}{t t':TG}(h:PG X tg t)(h':PG X tg t'):PG X tg (λv σ H Q=>t v σ H Q\/t' v σ H Q):=by
 intro pins s σ H v u Q I r q
 rcases q with q|q
 ·exact h pins s σ H v u Q I r q
 ·exact h' pins s σ H v u Q I r q
def iSeq(K:W.Frag)(tl:TE):TI:=λσ H R=>tl σ H λx H1=>∃a,x=.ref a/\(((∃xs,SqL K H1 a xs)/\R (Itl K a) H1)\/((∃xs,SqT K H1 a xs)/\R (Itt K a) H1))
theorem wf3{tg l:Expr}{tl:TE}(hl:PE X l tl):PI X tg l (iSeq X.K tl):=by
 intro pins s σ H R I h
 (refine thn (hl pins s σ H _ I h) ?_;rintro v s1 ⟨x,H1,I1,r1,q1⟩)
 obtain⟨a,e,⟨⟨xs,hq⟩,q⟩|⟨⟨xs,hq⟩,q⟩⟩:=q1
 ·subst e
  cases r1;obtain⟨its,rv,p,hz⟩:=I1.list hq;refine U4 p.isList ?_;refine⟨s1.heap.objs.size,[s1.heap.objs.size],_,_,H1,rfl,I1.kept (t':=s1.toks) λb o e=>B7 _ e,v46 a _,⟨_,D8 _ rfl,rfl,rfl⟩,λb hb=>?_,q⟩;have e:b=s1.heap.objs.size:=by simpa using hb
  subst e;exact I1.fpOk (B9 _) (I1.hok.fresh (B9 _))
 ·subst e
  cases r1;obtain⟨its,rv,p,hz⟩:=I1.tuple hq;refine W0 (show s1.heap.IsTuple a its.toArray from p) ?_;refine⟨s1.heap.objs.size,[s1.heap.objs.size],_,_,H1,rfl,I1.kept (t':=s1.toks) λb o e=>B7 _ e,uz7 a _,⟨_,D8 _ rfl,rfl,rfl⟩,λb hb=>?_,q⟩;have e:b=s1.heap.objs.size:=by simpa using hb
  subst e;exact I1.fpOk (B9 _) (I1.hok.fresh (B9 _))
theorem v78:OpR X (K1 .IsNot) (λx y H Q=>∃b,y=.bl b/\Q (.bl (!decide (x=.bl b))) H):=by
 intro pins s σ H x y v u Q I rx ry h;obtain⟨b,rfl,q⟩:=h;cases ry;refine wpAny_isNot_plain ?_ (u37 I q ?_)
 ·cases x <;> first
   | (cases rx;rfl)
   | (obtain⟨t,rfl⟩:=rx;rfl)
 ·cases x <;> first
   | (obtain⟨t,rfl⟩:=rx;rfl)
   | (cases rx;cases b <;> rfl)
   | (cases rx;rename_i c;cases b <;> cases c <;> rfl)
theorem uj2:∀{bs:List Bool} {us:List Value},Vals (bs.map V.bl) us->us=bs.map W9
 | [],_,.nil=>rfl
 | b::bs,_,.cons r t=>by cases r;rw[uj2 t];rfl
theorem vm9(hc:X.calm=true):CallR X (.builtin "all") (λxs H Q=>∃(p:Addr) (bs:List Bool),xs=[.ref p]/\SqL X.K H p (bs.map V.bl)/\Q (.bl (bs.all id)) H):=by
 intro pins s σ H xs us Q I r h;obtain⟨p,bs,rfl,hq,q⟩:=h;obtain⟨u,rfl,rx⟩:=vals1 r;cases rx;obtain⟨its,r',pl,hz⟩:=I.list hq;have e:=uj2 r';subst e;have hl:=pl.isList;have hlt:p<s.heap.objs.size:=by obtain⟨_,e,_⟩:=hl;exact D5 e
 refine call_all_walk (U4 hl ?_);refine⟨s.heap.objs.size,[s.heap.objs.size,p],[s.heap.objs.size],(bs.map W9).toArray.size,_,_,λi=>(bs[i]?).getD true,rfl,Walks.list (A:=X.A.in1) (I.ok.hd hc) _ p (E6 hlt) (bs.map W9).toArray,
  ⟨⟨_,D8 _ rfl,rfl,rfl⟩,hl.push _⟩,λi v s' Q' E' hP hQ=>?_,λh' tk hk=>?_⟩
 ·have hP:(bs.map W9)[i]?=some v:=by simpa using hP
  rw[F6] at hP;cases hb:bs[i]? with
  | none=>rw[hb] at hP;cases hP
  | some b =>
   rw[hb] at hP;cases hP;simp only[hb,Option.getD_some] at hQ;exact U1 hQ
 ·have e:((J6 (bs.map W9).toArray.size).all λi=>(bs[i]?).getD true)=bs.all id:=by
   rw[D3,B5,W1,N0,N0]
   constructor
   ·intro h b hb
    obtain⟨i,hi,e⟩:=A05.mp hb;have:=h i (O9.mpr hi);rw[B6 hi,e] at this;exact this
   ·intro h i hi
    have hi:=O9.mp hi;rw[B6 hi];exact h _ (P7 hi)
  rw[e];refine⟨.bl _,H,?_,rfl,q⟩;exact I.kept λb x e=>hk b x (λhm=>by rw[D9.mp hm] at e;exact W2 _ (D5 e)) (B7 _ e)
def w53(K:W.Frag)(H:Hp):V->String->Prop
 | .non,n=>n = "NoneType"
 | .bl _,n=>n = "bool"
 | .int _,n=>n = "int"
 | .str _,n=>n = "str"
 | .ref a,n=>(n = "list" /\ ((∃xs,H a=some (.lst xs))\/∃o xs,H a=some (.frz o (.lst xs))))\/(n = "tuple" /\ ∃xs,H a=some (.tup xs))\/(n = "dict" /\ ∃xs,H a=some (.dK xs))
 | _,_=>False
def subK(n T:String):Bool:=n==T||(n == "bool" && T == "int")
theorem u88{K:W.Frag}{n T:String}(hn:n = "NoneType" \/ n = "bool" \/ n = "int" \/ n = "str" \/ n = "list" \/ n = "tuple" \/ n = "dict")(hT:T = "int" \/ T = "str" \/ T = "bool" \/ T = "list" \/ T = "tuple" \/ T = "dict"):W.kitOne K (.type n) (.type T)=some (subK n T):=by
 rcases hn with rfl|rfl|rfl|rfl|rfl|rfl|rfl <;> rcases hT with rfl|rfl|rfl|rfl|rfl|rfl <;> rfl
theorem uv0:CallR X (.builtin "isinstance") (λxs H Q=>∃x n T,xs=[x,.ty T]/\w53 X.K H x n/\(T = "int" \/ T = "str" \/ T = "bool" \/ T = "list" \/ T = "tuple" \/ T = "dict")/\Q (.bl (subK n T)) H):=by
 intro pins s σ H xs us Q I r h;obtain⟨x,n,T,rfl,hk,hT,q⟩:=h;obtain⟨u,w,rfl,rx,rt⟩:=vals2 r;cases rt;have fin:∀tk,EP X pins σ Q (.bool (subK n T)) { s with toks:=tk}:=λtk=>⟨.bl (subK n T),H,I.tok tk,rfl,q⟩
 cases x with
 | non=>cases(show n = "NoneType" from hk);exact u64 I rx .non (u88 (by simp) hT) fin
 | bl b=>cases(show n = "bool" from hk);exact u64 I rx (.bl b) (u88 (by simp) hT) fin
 | int i=>cases(show n = "int" from hk);exact u64 I rx (.int i) (u88 (by simp) hT) fin
 | str i=>cases(show n = "str" from hk);exact u64 I rx (.str i) (u88 (by simp) hT) fin
 | ref a =>
  rcases(show(n = "list" /\ ((∃xs,H a=some (.lst xs))\/∃o xs,H a=some (.frz o (.lst xs))))\/(n = "tuple" /\ ∃xs,H a=some (.tup xs))\/(n = "dict" /\ ∃xs,H a=some (.dK xs)) from hk) with⟨e,⟨xs,h1⟩|⟨o,xs,h1⟩⟩|⟨e,xs,h1⟩|⟨e,xs,h1⟩
  ·cases e;exact u64 I rx (.lst h1) (u88 (by simp) hT) fin
  ·cases e;exact u64 I rx (.frz h1) (u88 (by simp) hT) fin
  ·cases e;exact u64 I rx (.tup h1) (u88 (by simp) hT) fin
  ·cases e;exact u64 I rx (.dK h1) (u88 (by simp) hT) fin
 | _=>exact(show False from hk).elim
end
end L2
namespace L2
open PySem
def XH(a C:Addr)(dx:Option Addr)(h:Heap):Prop:=∃o vs,h.get? a=some o/\o.cls=.ref C/\o.dict=dx/\o.data=.fields vs
def XDict(H:Hp):Option Addr->List (Str×V)->Prop
 | none,ys=>ys=[]
 | some d,ys=>∃o,H d=some (.frz o (.xd ys))
end L2
namespace L3
open PySem L2
inductive D where
 | non|bl (b:Bool)|int (i:Int)|str (x:Str)|tup (xs:List D)|ref (a:Addr)|ty (n:String)
inductive DO where
 | lst (xs:List D)|fro (xs:List D)|dic (kvs:List (Key×D))|dit (kvs:List (List Key×D))|ins (C:Addr) (fs:List (Str×D))|exc (C:Addr) (fs:List (Str×D))|frd (o:Obj) (kvs:List (Key×D))|tb (qn:Str) (bm:Addr)
abbrev Gp:=Addr->Option DO
def gup(G:Gp)(a:Addr)(o:DO):Gp:=λb=>if b=a then some o else G b
theorem u01{G:Gp}{a:Addr}{o:DO}:gup G a o a=some o:=by unfold gup;rw[if_pos rfl]
theorem u06{G:Gp}{a b:Addr}{o:DO}(h:b≠a):gup G a o b=G b:=by unfold gup;rw[if_neg h]
theorem u29{G:Gp}{a:Addr}{o u:DO}:gup (gup G a o) a u=gup G a u:=by
 funext b;unfold gup;split <;> rfl
theorem gne{G:Gp}{a b:Addr}{o:DO}(h:G a=some o)(h':G b=none):a≠b:=by
 intro e;subst e;rw[h] at h';cases h'
theorem gne'{G:Gp}{a b:Addr}{o:DO}(h':G b=none)(h:G a=some o):b≠a:=D6 (gne h h')
structure Le(H H':Hp):Prop where
 tups:∀b xs,H b=some (.tup xs)->H' b=some (.tup xs)
 frzs:∀b o (u:NK),H b=some (.frz o u.1)->H' b=some (.frz o u.1)
theorem Le.refl(H:Hp):Le H H:=⟨λ_ _ h=>h,λ_ _ _ h=>h⟩
theorem Le.trans{H H1 H2:Hp}(a:Le H H1)(b:Le H1 H2):Le H H2:=⟨λc xs h=>b.tups c xs (a.tups c xs h),λc o u h=>b.frzs c o u (a.frzs c o u h)⟩
theorem Le.sqT{K:W.Frag}{H H':Hp}(l:Le H H'){a:Addr}{xs:List V}(h:SqT K H a xs):SqT K H' a xs:=by
 rcases h with(h|⟨o,h⟩)|h
 ·exact .inl (.inl (l.tups _ _ h))
 ·exact .inl (.inr ⟨o,l.frzs _ _ ⟨_,by intro _ e;cases e⟩ h⟩)
 ·exact .inr h
theorem Le.fresh{H:Hp}{p:Addr}{o:HO}(h:H p=none):Le H (upd H p o) :=
 ⟨λb xs q=>by rw[u22 (u55 q h)];exact q,λb o u q=>by rw[u22 (u55 q h)];exact q⟩
mutual
def RelD(K:W.Frag)(H:Hp):D->V->Prop
 | .non,v=>v=.non
 | .bl b,v=>v=.bl b
 | .int i,v=>v=.int i
 | .str x,v=>v=.str x
 | .ref a,v=>v=.ref a
 | .ty n,v=>v=.ty n
 | .tup ds,v=>∃a xs,v=.ref a/\SqT K H a xs/\RelDs K H ds xs
def RelDs(K:W.Frag)(H:Hp):List D->List V->Prop
 | [],xs=>xs=[]
 | d::ds,xs=>∃x r,xs=x::r/\RelD K H d x/\RelDs K H ds r
end
section
variable{K:W.Frag}{H H':Hp}
mutual
theorem RelD.le(l:Le H H'):∀{d:D} {v:V},RelD K H d v->RelD K H' d v
 | .non,_,h=>by simpa[RelD] using h
 | .bl _,_,h=>by simpa[RelD] using h
 | .int _,_,h=>by simpa[RelD] using h
 | .str _,_,h=>by simpa[RelD] using h
 | .ref _,_,h=>by simpa[RelD] using h
 | .ty _,_,h=>by simpa[RelD] using h
 | .tup ds,_,h=>by
  rw[RelD] at h⊢;obtain⟨a,xs,e,s,r⟩:=h;exact⟨a,xs,e,l.sqT s,RelDs.le l r⟩
theorem RelDs.le(l:Le H H'):∀{ds:List D} {xs:List V},RelDs K H ds xs->RelDs K H' ds xs
 | [],_,h=>by simpa[RelDs] using h
 | d::ds,_,h=>by
  rw[RelDs] at h⊢;obtain⟨x,r,e,h1,h2⟩:=h;exact⟨x,r,e,RelD.le l h1,RelDs.le l h2⟩
end
theorem RelDs.nil:RelDs K H [] []:=by rw[RelDs]
theorem RelDs.cons{d:D}{ds:List D}{x:V}{xs:List V}(h:RelD K H d x)(t:RelDs K H ds xs):RelDs K H (d::ds) (x::xs):=by
 rw[RelDs];exact⟨x,xs,rfl,h,t⟩
theorem RelDs.inv_nil{xs:List V}(h:RelDs K H [] xs):xs=[]:=by rw[RelDs] at h;exact h
theorem RelDs.inv_cons{d:D}{ds:List D}{xs:List V}(h:RelDs K H (d::ds) xs):∃x r,xs=x::r/\RelD K H d x/\RelDs K H ds r:=by rw[RelDs] at h;exact h
theorem RelDs.length:∀{ds:List D} {xs:List V},RelDs K H ds xs->ds.length=xs.length
 | [],_,h=>by rw[h.inv_nil];rfl
 | _::_,_,h=>by obtain⟨x,r,e,_,t⟩:=h.inv_cons;rw[e,C0,C0,t.length]
theorem RelDs.get:∀{ds:List D} {xs:List V} {i:Nat} {d:D},RelDs K H ds xs->ds[i]?=some d->∃x,xs[i]?=some x/\RelD K H d x
 | [],_,_,_,_,e=>by simp at e
 | _::_,_,0,_,h,e=>by
  obtain⟨x,r,rfl,h1,t⟩:=h.inv_cons;simp at e;subst e;exact⟨x,rfl,h1⟩
 | _::_,_,i+1,d,h,e=>by
  obtain⟨x,r,rfl,h1,t⟩:=h.inv_cons;obtain⟨y,h2,h3⟩:=RelDs.get (i:=i) t (by simpa using e);exact⟨y,by simpa using h2,h3⟩
theorem RelDs.of:∀{ds:List D} {xs:List V},ds.length=xs.length->(∀(i:Nat) d x,ds[i]?=some d->xs[i]?=some x->RelD K H d x)->RelDs K H ds xs
 | [],[],_,_=>.nil
 | [],_::_,h,_=>by simp at h
 | _::_,[],h,_=>by simp at h
 | d::ds,x::xs,h,f=>.cons (f 0 d x rfl rfl) (RelDs.of (by simpa using h) λi d x a b=>f (i+1) d x (by simpa using a) (by simpa using b))
theorem RelDs.append:∀{ds es:List D} {xs ys:List V},RelDs K H ds xs->RelDs K H es ys->RelDs K H (ds++es) (xs++ys)
 | [],_,_,_,h,t=>by rw[h.inv_nil];exact t
 | _::_,_,_,_,h,t=>by
  obtain⟨x,r,rfl,h1,h2⟩:=h.inv_cons;exact .cons h1 (h2.append t)
theorem RelDs.set{d:D}{x:V}(q:RelD K H d x):∀{ds:List D} {xs:List V} (i:Nat),RelDs K H ds xs->RelDs K H (ds.set i d) (xs.set i x)
 | [],_,_,h=>by rw[h.inv_nil];exact .nil
 | _::_,_,0,h=>by
  obtain⟨x,r,rfl,h1,h2⟩:=h.inv_cons;exact .cons q h2
 | _::_,_,i+1,h=>by
  obtain⟨x,r,rfl,h1,h2⟩:=h.inv_cons;exact .cons h1 (h2.set q i)
theorem RelDs.take:∀{ds:List D} {xs:List V} (n:Nat),RelDs K H ds xs->RelDs K H (ds.take n) (xs.take n)
 | _,_,0,_=>by simpa using RelDs.nil
 | [],_,_+1,h=>by rw[h.inv_nil];exact .nil
 | _::_,_,n+1,h=>by
  obtain⟨x,r,rfl,h1,h2⟩:=h.inv_cons;exact .cons h1 (h2.take n)
theorem RelDs.drop:∀{ds:List D} {xs:List V} (n:Nat),RelDs K H ds xs->RelDs K H (ds.drop n) (xs.drop n)
 | _,_,0,h=>by simpa using h
 | [],_,_+1,h=>by rw[h.inv_nil];exact .nil
 | _::_,_,n+1,h=>by
  obtain⟨x,r,rfl,h1,h2⟩:=h.inv_cons;exact h2.drop n
theorem RelDs.eraseIdx:∀{ds:List D} {xs:List V} (n:Nat),RelDs K H ds xs->RelDs K H (ds.eraseIdx n) (xs.eraseIdx n)
 | [],_,_,h=>by rw[h.inv_nil];exact .nil
 | _::_,_,0,h=>by
  obtain⟨x,r,rfl,h1,h2⟩:=h.inv_cons;exact h2
 | _::_,_,n+1,h=>by
  obtain⟨x,r,rfl,h1,h2⟩:=h.inv_cons;exact .cons h1 (h2.eraseIdx n)
theorem RelDs.dropLast{ds:List D}{xs:List V}(h:RelDs K H ds xs):RelDs K H ds.dropLast xs.dropLast:=by
 rw[A95,A95,h.length];exact h.take _
theorem RelDs.rep{ds:List D}{xs:List V}(h:RelDs K H ds xs):∀k:Nat,RelDs K H (C2 k ds).flatten (C2 k xs).flatten
 | 0=>.nil
 | k+1=>by rw[M4,M4,T8,T8];exact h.append (h.rep k)
def RelPs{κ:Type}(K:W.Frag)(H:Hp)(ps:List (κ×D))(qs:List (κ×V)):Prop:=ps.map (·.1)=qs.map (·.1)/\RelDs K H (ps.map (·.2)) (qs.map (·.2))
theorem RelPs.le{κ:Type}(l:Le H H'){ps:List (κ×D)}{qs:List (κ×V)}(h:RelPs K H ps qs):RelPs K H' ps qs:=⟨h.1,RelDs.le l h.2⟩
end
def TbOk(H:Hp)(qn:Str)(ps:Array Value):Prop:=TriplesOk ps.toList/\∀pos cv,codeAmong pos ps.toList=some cv->∃(c:Addr) (o:Obj) (vs:Array Value) (t:Tok),cv=.ref c/\o.data=.fields vs/\vs[1]?=some (.str qn t)/\H c=some (.frz o (.ext λh=>h.get? c=some o))
def BmOk(H:Hp)(bm:Addr):Prop:=∃o:Obj,H bm=some (.frz o (.ext λh=>h.get? bm=some o))/\o.cls=.type "module" /\ o.dict=some B28/\o.data=.plain
def ObjD(K:W.Frag)(H:Hp)(a:Addr):DO->Prop
 | .lst ds=>∃xs,H a=some (.lst xs)/\RelDs K H ds xs
 | .fro ds=>∃o xs,H a=some (.frz o (.lst xs))/\RelDs K H ds xs
 | .dic kvs=>∃ys,H a=some (.dK ys)/\RelPs K H kvs ys
 | .dit kvs=>∃ys,H a=some (.dT ys)/\RelPs K H kvs ys
 | .ins C fs=>∃dx ys,H a=some (.ins C dx ys)/\RelPs K H fs ys
 | .exc C fs=>∃dx ys,H a=some (.ext (XH a C dx))/\XDict H dx ys/\RelPs K H fs ys
 | .frd o kvs=>∃ys,H a=some (.frz o (.dK ys))/\RelPs K H kvs ys
 | .tb qn bm=>∃ps,H a=some (.tbl ps)/\TbOk H qn ps/\BmOk H bm
theorem _root_.L2.XDict.le{H H':Hp}(l:Le H H'){dx:Option Addr}{ys:List (Str×V)}(h:XDict H dx ys):XDict H' dx ys:=by
 cases dx with
 | none=>exact h
 | some d=>obtain⟨o,e⟩:=h;exact⟨o,l.frzs _ _ ⟨_,by intro _ e;cases e⟩ e⟩
def Con(K:W.Frag)(G:Gp)(H:Hp):Prop:=∀a o,G a=some o->ObjD K H a o
section
variable{K:W.Frag}{G:Gp}{H H':Hp}{a p:Addr}{o:DO}
theorem ObjD.some(h:ObjD K H a o):∃u,H a=some u:=by
 cases o with
 | lst ds=>obtain⟨xs,e,_⟩:=h;exact⟨_,e⟩
 | fro ds=>obtain⟨_,xs,e,_⟩:=h;exact⟨_,e⟩
 | dic ds=>obtain⟨xs,e,_⟩:=h;exact⟨_,e⟩
 | dit ds=>obtain⟨xs,e,_⟩:=h;exact⟨_,e⟩
 | ins C ds=>obtain⟨_,xs,e,_⟩:=h;exact⟨_,e⟩
 | exc C ds=>obtain⟨_,xs,e,_⟩:=h;exact⟨_,e⟩
 | frd o ds=>obtain⟨xs,e,_⟩:=h;exact⟨_,e⟩
 | tb qn bm=>obtain⟨_,e,_⟩:=h;exact⟨_,e⟩
theorem ObjD.stay(h:ObjD K H a o)(l:Le H H')(e:H' a=H a):ObjD K H' a o:=by
 cases o with
 | lst ds=>obtain⟨xs,q,r⟩:=h;exact⟨xs,e.trans q,RelDs.le l r⟩
 | fro ds=>obtain⟨o,xs,q,r⟩:=h;exact⟨o,xs,e.trans q,RelDs.le l r⟩
 | dic ds=>obtain⟨xs,q,r⟩:=h;exact⟨xs,e.trans q,r.le l⟩
 | dit ds=>obtain⟨xs,q,r⟩:=h;exact⟨xs,e.trans q,r.le l⟩
 | ins C ds=>obtain⟨dx,xs,q,r⟩:=h;exact⟨dx,xs,e.trans q,r.le l⟩
 | exc C ds=>obtain⟨dx,xs,q,z,r⟩:=h;exact⟨dx,xs,e.trans q,z.le l,r.le l⟩
 | frd o ds=>obtain⟨xs,q,r⟩:=h;exact⟨xs,e.trans q,r.le l⟩
 | tb qn bm=>obtain⟨ps,q,⟨r1,r2⟩,o,b1,b2⟩:=h;exact⟨ps,e.trans q,⟨r1,λpos cv z=>let ⟨c,o,vs,t,z1,z2,z3,z4⟩:=r2 pos cv z;⟨c,o,vs,t,z1,z2,z3,l.frzs _ _ ⟨_,by intro _ e;cases e⟩ z4⟩⟩,o,l.frzs _ _ ⟨_,by intro _ e;cases e⟩ b1,b2⟩
theorem Con.fresh(c:Con K G H)(h:H p=none):G p=none:=by
 cases e:G p with
 | none=>rfl
 | some o=>obtain⟨u,q⟩:=(c p o e).some;rw[h] at q;cases q
theorem Con.stay(c:Con K G H)(l:Le H H')(e:∀a o,G a=some o->H' a=H a):Con K G H':=λa o q=>(c a o q).stay l (e a o q)
theorem Con.side{u:HO}(c:Con K G H)(h:H p=none):Con K G (upd H p u):=c.stay (Le.fresh h) λa o q=>by
 obtain⟨u,e⟩:=(c a o q).some;exact u22 (u55 e h)
theorem Con.put{u:HO}(c:Con K G H)(l:Le H (upd H p u))(n:ObjD K (upd H p u) p o):Con K (gup G p o) (upd H p u):=λb q e=>by
 by_cases hb:b=p
 ·subst hb;rw[u01] at e;cases e;exact n
 ·rw[u06 hb] at e
  exact(c b q e).stay l (u22 hb)
theorem Le.lst{xs ys:List V}(h:H p=some (.lst xs)):Le H (upd H p (.lst ys)) :=
  ⟨fun b zs q => by by_cases e : b = p
                    · subst e;rw[h] at q;cases q
                    · rw[u22 e];exact q,
   fun b o u q => by by_cases e : b = p
                     · subst e;rw[h] at q;cases q
                     · rw[u22 e];exact q⟩
theorem Le.dK{xs ys:List (Key×V)}(h:H p=some (.dK xs)):Le H (upd H p (.dK ys)) :=
  ⟨fun b zs q => by by_cases e : b = p
                    · subst e;rw[h] at q;cases q
                    · rw[u22 e];exact q,
   fun b o u q => by by_cases e : b = p
                     · subst e;rw[h] at q;cases q
                     · rw[u22 e];exact q⟩
theorem Le.ins{C dx C' dx':Addr}{xs ys:List (Str×V)}(h:H p=some (.ins C dx xs)):Le H (upd H p (.ins C' dx' ys)) :=
  ⟨fun b zs q => by by_cases e : b = p
                    · subst e;rw[h] at q;cases q
                    · rw[u22 e];exact q,
   fun b o u q => by by_cases e : b = p
                     · subst e;rw[h] at q;cases q
                     · rw[u22 e];exact q⟩
theorem Con.lstNew{ds:List D}{xs:List V}(c:Con K G H)(h:H p=none)(r:RelDs K H ds xs):Con K (gup G p (.lst ds)) (upd H p (.lst xs)) :=
 c.put (Le.fresh h) ⟨xs,u30,RelDs.le (Le.fresh h) r⟩
theorem Con.lstSet{ds:List D}{xs ys:List V}(c:Con K G H)(h:H p=some (.lst ys))(r:RelDs K H ds xs):Con K (gup G p (.lst ds)) (upd H p (.lst xs)) :=
 c.put (Le.lst h) ⟨xs,u30,RelDs.le (Le.lst h) r⟩
end
abbrev DSt:=List (Option D)
def RelSt(K:W.Frag)(H:Hp)(σd:DSt)(σ:St):Prop:=σd.length=σ.length/\∀(i:Nat) d,σd[i]?=some (some d)->∃v,σ[i]?=some (some v)/\RelD K H d v
theorem RelSt.le{K:W.Frag}{H H':Hp}{σd:DSt}{σ:St}(h:RelSt K H σd σ)(l:Le H H'):RelSt K H' σd σ :=
 ⟨h.1,λi d e=>let ⟨v,a,b⟩:=h.2 i d e;⟨v,a,RelD.le l b⟩⟩
theorem RelSt.set{K:W.Frag}{H:Hp}{σd:DSt}{σ:St}{d:D}{v:V}(h:RelSt K H σd σ)(i:Nat)(r:RelD K H d v):RelSt K H (σd.set i (some d)) (σ.set i (some v)):=by
 refine⟨by rw[J0,J0];exact h.1,λj e q=>?_⟩;rw[Z0] at q;split at q
 ·rename_i hij;subst hij
  split at q
  ·rename_i hl;cases q
   exact⟨v,by rw[Y9 (by rw[<- h.1];exact hl)],r⟩
  ·cases q
 ·rename_i hij
  obtain⟨w,a,b⟩:=h.2 j e q;exact⟨w,by rw[A03 hij];exact a,b⟩
abbrev DK:=D->Gp->Prop
abbrev TE3:=DSt->Gp->DK->Prop
abbrev TT3:=DSt->Gp->(Bool->Gp->Prop)->Prop
abbrev TA3:=DSt->Gp->(List D->Gp->Prop)->Prop
structure Ends3 where
 nx:DSt->Gp->Prop
 rt:DK
 bk:DSt->Gp->Prop:=λ_ _=>False
 ct:DSt->Gp->Prop:=λ_ _=>False
abbrev TS3:=Ends3->DSt->Gp->Prop
def FutE(K:W.Frag)(H:Hp)(q:DK)(Q:VK):Prop:=∀d G' v H',RelD K H' d v->Con K G' H'->Le H H'->q d G'->Q v H'
def FutT(K:W.Frag)(H:Hp)(q:Bool->Gp->Prop)(Q:Bool->Hp->Prop):Prop:=∀b G' H',Con K G' H'->Le H H'->q b G'->Q b H'
def FutA(K:W.Frag)(H:Hp)(q:List D->Gp->Prop)(Q:List V->Hp->Prop):Prop:=∀ds G' vs H',RelDs K H' ds vs->Con K G' H'->Le H H'->q ds G'->Q vs H'
def FutS(K:W.Frag)(H:Hp)(q:DSt->Gp->Prop)(Q:St->Hp->Prop):Prop:=∀σd G' σ H',RelSt K H' σd σ->Con K G' H'->Le H H'->q σd G'->Q σ H'
theorem FutE.le{K:W.Frag}{H H1:Hp}{q:DK}{Q:VK}(f:FutE K H q Q)(l:Le H H1):FutE K H1 q Q:=λd G v H' r c l'=>f d G v H' r c (l.trans l')
theorem FutS.le{K:W.Frag}{H H1:Hp}{q:DSt->Gp->Prop}{Q:St->Hp->Prop}(f:FutS K H q Q)(l:Le H H1):FutS K H1 q Q:=λd G v H' r c l'=>f d G v H' r c (l.trans l')
structure FutD(K:W.Frag)(H:Hp)(d:Ends3)(D:Ends):Prop where
 nx:FutS K H d.nx D.nx
 rt:FutE K H d.rt D.rt
 bk:FutS K H d.bk D.bk
 ct:FutS K H d.ct D.ct
theorem FutD.le{K:W.Frag}{H H1:Hp}{d:Ends3}{D:Ends}(f:FutD K H d D)(l:Le H H1):FutD K H1 d D:=⟨f.nx.le l,f.rt.le l,f.bk.le l,f.ct.le l⟩
def lowE(K:W.Frag)(t:TE3):TE:=λσ H Q=>∃σd G q,RelSt K H σd σ/\Con K G H/\t σd G q/\FutE K H q Q
def lowT(K:W.Frag)(t:TT3):TT:=λσ H Q=>∃σd G q,RelSt K H σd σ/\Con K G H/\t σd G q/\FutT K H q Q
def lowA(K:W.Frag)(t:TA3):TA:=λσ H Q=>∃σd G q,RelSt K H σd σ/\Con K G H/\t σd G q/\FutA K H q Q
def lowS(K:W.Frag)(t:TS3):TS:=λD σ H=>∃σd G d,RelSt K H σd σ/\Con K G H/\t d σd G/\FutD K H d D
abbrev R3:=D->D->Gp->DK->Prop
def lowR(K:W.Frag)(r:R3):R2:=λx y H Q=>∃d e G q,RelD K H d x/\RelD K H e y/\Con K G H/\r d e G q/\FutE K H q Q
abbrev U3:=D->Gp->DK->Prop
abbrev C3:=List D->Gp->DK->Prop
def lowC(K:W.Frag)(r:C3):List V->Hp->VK->Prop:=λxs H Q=>∃ds G q,RelDs K H ds xs/\Con K G H/\r ds G q/\FutE K H q Q
def dVar(i:Nat):TE3:=λσ G q=>match σ[i]? with|some (some d)=>q d G|_=>False
def dC(d:D):TE3:=λ_ G q=>q d G
def dOp(r:R3)(ta tb:TE3):TE3:=λσ G q=>ta σ G λx G1=>tb σ G1 λy G2=>r x y G2 q
def dUn(r:U3)(ta:TE3):TE3:=λσ G q=>ta σ G λx G1=>r x G1 q
def dNil:TA3:=λ_ G q=>q [] G
def u60(ta:TE3)(tr:TA3):TA3:=λσ G q=>ta σ G λx G1=>tr σ G1 λxs G2=>q (x::xs) G2
def dTup(t:TA3):TE3:=λσ G q=>t σ G λxs G1=>xs.length<=sizeLine/\q (.tup xs) G1
def dLst(t:TA3):TE3:=λσ G q=>t σ G λxs G1=>xs.length<=sizeLine/\∀p,G1 p=none->q (.ref p) (gup G1 p (.lst xs))
def dB(t:TE3):TT3:=λσ G q=>t σ G λx G1=>match x with|.bl c=>q c G1|_=>False
def dAnd(t u:TT3):TT3:=λσ G q=>t σ G λc G1=>if c=true then u σ G1 q else q false G1
def dOr(t u:TT3):TT3:=λσ G q=>t σ G λc G1=>if c=true then q true G1 else u σ G1 q
def dNot(t:TT3):TT3:=λσ G q=>t σ G λc G1=>q (!c) G1
def w78(ta tb:TE3):TE3:=λσ G q=>ta σ G λx G1=>match x with|.bl c=>if c=true then tb σ G1 q else q (.bl false) G1|_=>False
def dOrV(ta tb:TE3):TE3:=λσ G q=>ta σ G λx G1=>match x with|.bl c=>if c=true then q (.bl true) G1 else tb σ G1 q|_=>False
def w75(ta:TE3):TE3:=λσ G q=>ta σ G λx G1=>match x with|.bl c=>q (.bl (!c)) G1|_=>False
def dIf(t:TT3)(ta tb:TE3):TE3:=λσ G q=>t σ G λc G1=>if c=true then ta σ G1 q else tb σ G1 q
section
variable{K:W.Frag}{σ:St}{H:Hp}{Q:VK}
theorem w39{i:Nat}(h:lowE K (dVar i) σ H Q):tVar i σ H Q:=by
 obtain⟨σd,G,q,rs,c,t,f⟩:=h;unfold dVar at t;split at t
 ·rename_i d e
  obtain⟨v,hv,r⟩:=rs.2 i d e;exact⟨v,hv,f d G v H r c (Le.refl H) t⟩
 ·exact t.elim
theorem v18{d:D}{v:V}(r:∀H,RelD K H d v)(h:lowE K (dC d) σ H Q):tC v σ H Q:=by
 obtain⟨σd,G,q,rs,c,t,f⟩:=h;exact f d G v H (r H) c (Le.refl H) t
theorem ux6{r:R3}{ta tb:TE3}(h:lowE K (dOp r ta tb) σ H Q):tOp (lowR K r) (lowE K ta) (lowE K tb) σ H Q:=by
 obtain⟨σd,G,q,rs,c,t,f⟩:=h;exact⟨σd,G,_,rs,c,t,λd G1 v H1 r1 c1 l1 t1=>⟨σd,G1,_,rs.le l1,c1,t1,λe G2 u H2 r2 c2 l2 t2=>⟨d,e,G2,q,RelD.le l2 r1,r2,c2,t2,f.le (l1.trans l2)⟩⟩⟩
theorem v89{Q:List V->Hp->Prop}(h:lowA K dNil σ H Q):tNil σ H Q:=by
 obtain⟨σd,G,q,rs,c,t,f⟩:=h;exact f [] G [] H .nil c (Le.refl H) t
theorem vk5{ta:TE3}{tr:TA3}{Q:List V->Hp->Prop}(h:lowA K (u60 ta tr) σ H Q):wc9 (lowE K ta) (lowA K tr) σ H Q:=by
 obtain⟨σd,G,q,rs,c,t,f⟩:=h;exact⟨σd,G,_,rs,c,t,λd G1 v H1 r1 c1 l1 t1=>⟨σd,G1,_,rs.le l1,c1,t1,λds G2 vs H2 r2 c2 l2 t2=>f (d::ds) G2 (v::vs) H2 (.cons (RelD.le l2 r1) r2) c2 (l1.trans l2) t2⟩⟩
theorem w41{ta:TA3}(h:lowE K (dTup ta) σ H Q):tTup (lowA K ta) σ H Q:=by
 obtain⟨σd,G,q,rs,c,t,f⟩:=h;refine⟨σd,G,_,rs,c,t,λds G1 vs H1 r1 c1 l1 t1=>⟨by rw[<- r1.length];exact t1.1,λp hp=>?_⟩⟩;refine f (.tup ds) G1 (.ref p) _ ?_ (c1.side hp) (l1.trans (Le.fresh hp)) t1.2;rw[RelD];exact⟨p,vs,rfl,SqT.of u30,RelDs.le (Le.fresh hp) r1⟩
theorem w45{ta:TA3}(h:lowE K (dLst ta) σ H Q):tLst (lowA K ta) σ H Q:=by
 obtain⟨σd,G,q,rs,c,t,f⟩:=h;refine⟨σd,G,_,rs,c,t,λds G1 vs H1 r1 c1 l1 t1=>⟨by rw[<- r1.length];exact t1.1,λp hp=>?_⟩⟩;exact f (.ref p) _ (.ref p) _ (by rw[RelD]) (c1.lstNew hp r1) (l1.trans (Le.fresh hp)) (t1.2 p (c1.fresh hp))
theorem RelD.bl_inv{c:Bool}{v:V}(h:RelD K H (.bl c) v):v=.bl c:=by rw[RelD] at h;exact h
theorem vk9{t u:TT3}{Q:Bool->Hp->Prop}(h:lowT K (dAnd t u) σ H Q):tAnd (lowT K t) (lowT K u) σ H Q:=by
 obtain⟨σd,G,q,rs,c,t,f⟩:=h;refine⟨σd,G,_,rs,c,t,λb G1 H1 c1 l1 t1=>?_⟩;cases b with
 | true=>rw[if_pos rfl] at t1⊢;exact⟨σd,G1,q,rs.le l1,c1,t1,λb G2 H2 c2 l2 t2=>f b G2 H2 c2 (l1.trans l2) t2⟩
 | false=>rw[if_neg C7] at t1⊢;exact f _ _ _ c1 l1 t1
theorem w44{t u:TT3}{Q:Bool->Hp->Prop}(h:lowT K (dOr t u) σ H Q):tOr (lowT K t) (lowT K u) σ H Q:=by
 obtain⟨σd,G,q,rs,c,t,f⟩:=h;refine⟨σd,G,_,rs,c,t,λb G1 H1 c1 l1 t1=>?_⟩;cases b with
 | false=>rw[if_neg C7] at t1⊢;exact⟨σd,G1,q,rs.le l1,c1,t1,λb G2 H2 c2 l2 t2=>f b G2 H2 c2 (l1.trans l2) t2⟩
 | true=>rw[if_pos rfl] at t1⊢;exact f _ _ _ c1 l1 t1
theorem vj7{t:TT3}{Q:Bool->Hp->Prop}(h:lowT K (dNot t) σ H Q):tNot (lowT K t) σ H Q:=by
 obtain⟨σd,G,q,rs,c,t,f⟩:=h;exact⟨σd,G,_,rs,c,t,λb G1 H1 c1 l1 t1=>f _ _ _ c1 l1 t1⟩
theorem wo7{t:TT3}{ta tb:TE3}(h:lowE K (dIf t ta tb) σ H Q):tIf (lowT K t) (lowE K ta) (lowE K tb) σ H Q:=by
 obtain⟨σd,G,q,rs,c,t,f⟩:=h;refine⟨σd,G,_,rs,c,t,λb G1 H1 c1 l1 t1=>?_⟩;cases b with
 | true=>rw[if_pos rfl] at t1⊢;exact⟨σd,G1,q,rs.le l1,c1,t1,f.le l1⟩
 | false=>rw[if_neg C7] at t1⊢;exact⟨σd,G1,q,rs.le l1,c1,t1,f.le l1⟩
end
def w76:TS3:=λE σ G=>E.nx σ G
def Go(k:DSt->Gp->Prop)(σ:DSt)(G:Gp):Prop:=k σ G
def dSeq(t u:TS3):TS3:=λE σ G=>t { E with nx:=Go (u E)} σ G
def uu8(te:TE3):TS3:=λE σ G=>te σ G λ_ G1=>E.nx σ G1
def dRet(te:TE3):TS3:=λE σ G=>te σ G E.rt
def w73:TS3:=λE _ G=>E.rt .non G
def dIfS(c:TT3)(t u:TS3):TS3:=λE σ G=>c σ G λb G1=>if b=true then t E σ G1 else u E σ G1
abbrev TG3:=D->DSt->Gp->(DSt->Gp->Prop)->Prop
abbrev TGs3:=List D->DSt->Gp->(DSt->Gp->Prop)->Prop
def lowG(K:W.Frag)(t:TG3):TG:=λv σ H Q=>∃d σd G q,RelD K H d v/\RelSt K H σd σ/\Con K G H/\t d σd G q/\FutS K H q Q
def vl1(K:W.Frag)(t:TGs3):TGs:=λvs σ H Q=>∃ds σd G q,RelDs K H ds vs/\RelSt K H σd σ/\Con K G H/\t ds σd G q/\FutS K H q Q
def uh3(i:Nat):TG3:=λd σ G q=>q (σ.set i (some d)) G
def jNil:TGs3:=λds σ G q=>ds=[]/\q σ G
def w54(t:TG3)(u:TGs3):TGs3:=λds σ G q=>match ds with|d::r=>t d σ G λσ' G'=>u r σ' G' q|[]=>False
abbrev TSet3:=D->D->D->Gp->(Gp->Prop)->Prop
def v94(K:W.Frag)(t:TSet3):TSet:=λo i v H Q=>∃d e x G q,RelD K H d o/\RelD K H e i/\RelD K H x v/\Con K G H/\t d e x G q/\∀G' H',Con K G' H'->Le H H'->q G'->Q H'
def jSub(to ti:TE3)(t:TSet3):TG3:=λd σ G q=>to σ G λo G1=>ti σ G1 λi G2=>t o i d G2 λG3=>q σ G3
def dAsg(te:TE3)(g:TG3):TS3:=λE σ G=>te σ G λx G1=>g x σ G1 E.nx
section
variable{K:W.Frag}{σ:St}{H:Hp}{E:Ends}
theorem vj8(h:lowS K w76 E σ H):wc4 E σ H:=by
 obtain⟨σd,G,d,rs,c,t,f⟩:=h;exact f.nx _ _ _ _ rs c (Le.refl H) t
theorem w42{t u:TS3}(h:lowS K (dSeq t u) E σ H):tSeq (lowS K t) (lowS K u) E σ H:=by
 obtain⟨σd,G,d,rs,c,t,f⟩:=h;exact⟨σd,G,_,rs,c,t,λσd' G' σ' H' rs' c' l' t'=>⟨σd',G',d,rs',c',t',f.le l'⟩,f.rt,f.bk,f.ct⟩
theorem vk4{te:TE3}(h:lowS K (uu8 te) E σ H):wc7 (lowE K te) E σ H:=by
 obtain⟨σd,G,d,rs,c,t,f⟩:=h;exact⟨σd,G,_,rs,c,t,λx G1 v H1 r1 c1 l1 t1=>f.nx _ _ _ _ (rs.le l1) c1 l1 t1⟩
theorem w43{te:TE3}(h:lowS K (dRet te) E σ H):tRet (lowE K te) E σ H:=by
 obtain⟨σd,G,d,rs,c,t,f⟩:=h;exact⟨σd,G,_,rs,c,t,f.rt⟩
theorem vj4(h:lowS K w73 E σ H):wc1 E σ H:=by
 obtain⟨σd,G,d,rs,c,t,f⟩:=h;exact f.rt .non _ .non _ (by rw[RelD]) c (Le.refl H) t
theorem w46{tc:TT3}{t u:TS3}(h:lowS K (dIfS tc t u) E σ H):tIfS (lowT K tc) (lowS K t) (lowS K u) E σ H:=by
 obtain⟨σd,G,d,rs,c,t,f⟩:=h;refine⟨σd,G,_,rs,c,t,λb G1 H1 c1 l1 t1=>?_⟩;cases b with
 | true=>rw[if_pos rfl] at t1⊢;exact⟨σd,G1,d,rs.le l1,c1,t1,f.le l1⟩
 | false=>rw[if_neg C7] at t1⊢;exact⟨σd,G1,d,rs.le l1,c1,t1,f.le l1⟩
theorem v90{i:Nat}{v:V}{Q:St->Hp->Prop}(h:lowG K (uh3 i) v σ H Q):w60 i v σ H Q:=by
 obtain⟨d,σd,G,q,r,rs,c,t,f⟩:=h;exact f _ _ _ _ (rs.set i r) c (Le.refl H) t
theorem vk1{vs:List V}{Q:St->Hp->Prop}(h:vl1 K jNil vs σ H Q):gNil vs σ H Q:=by
 obtain⟨ds,σd,G,q,r,rs,c,⟨e,t⟩,f⟩:=h;subst e;exact⟨r.inv_nil,f _ _ _ _ rs c (Le.refl H) t⟩
theorem v91{t:TG3}{u:TGs3}{vs:List V}{Q:St->Hp->Prop}(h:vl1 K (w54 t u) vs σ H Q):wr0 (lowG K t) (vl1 K u) vs σ H Q:=by
 obtain⟨ds,σd,G,q,r,rs,c,t,f⟩:=h;cases ds with
 | nil=>exact t.elim
 | cons d ds =>
  obtain⟨x,xs,rfl,r1,r2⟩:=r.inv_cons;exact⟨x,xs,rfl,d,σd,G,_,r1,rs,c,t,λσd' G' σ' H' rs' c' l' t'=>⟨ds,σd',G',q,RelDs.le l' r2,rs',c',t',f.le l'⟩⟩
theorem vk0{to ti:TE3}{t:TSet3}{v:V}{Q:St->Hp->Prop}(h:lowG K (jSub to ti t) v σ H Q):gSub (lowE K to) (lowE K ti) (v94 K t) v σ H Q:=by
 obtain⟨d,σd,G,q,r,rs,c,t,f⟩:=h;exact⟨σd,G,_,rs,c,t,λo G1 vo H1 r1 c1 l1 t1=>⟨σd,G1,_,rs.le l1,c1,t1,λi G2 vi H2 r2 c2 l2 t2=>⟨o,i,d,G2,_,RelD.le l2 r1,r2,RelD.le (l1.trans l2) r,c2,t2,λG3 H3 c3 l3 t3 =>
  f _ _ _ _ (rs.le (l1.trans (l2.trans l3))) c3 (l1.trans (l2.trans l3)) t3⟩⟩⟩
theorem w51{te:TE3}{g:TG3}(h:lowS K (dAsg te g) E σ H):tAsg (lowE K te) (lowG K g) E σ H:=by
 obtain⟨σd,G,d,rs,c,t,f⟩:=h;exact⟨σd,G,_,rs,c,t,λx G1 v H1 r1 c1 l1 t1=>⟨x,σd,G1,_,r1,rs.le l1,c1,t1,f.nx.le l1⟩⟩
end
def whN(c:TT3)(tb:TS3)(E:Ends3):Nat->DSt->Gp->Prop
 | 0,_,_=>False
 | n+1,σ,G=>c σ G λb G1=>if b=true then tb { E with nx:=whN c tb E n,ct:=whN c tb E n,bk:=E.nx} σ G1 else E.nx σ G1
def vc4(c:TT3)(tb:TS3):TS3:=λE σ G=>∃n,whN c tb E n σ G
theorem v86{K:W.Frag}{c:TT3}{tb:TS3}{σ:St}{H:Hp}{E:Ends}(h:lowS K (vc4 c tb) E σ H):vp1 (lowT K c) (lowS K tb) E σ H:=by
 obtain⟨σd,G,d,rs,cc,⟨n,t⟩,f⟩:=h;refine⟨λm σ' H'=>∃σd' G',Le H H'/\RelSt K H' σd' σ'/\Con K G' H'/\whN c tb d m σd' G',⟨n,σd,G,Le.refl H,rs,cc,t⟩,?_⟩;rintro m σ1 H1 ⟨σd1,G1,l1,rs1,c1,t1⟩;cases m with
 | zero=>exact t1.elim
 | succ m =>
  refine⟨σd1,G1,_,rs1,c1,t1,λb G2 H2 c2 l2 t2=>?_⟩;cases b with
  | true =>
   rw[if_pos rfl] at t2⊢;refine⟨λσ' H'=>∃σd' G',Le H H'/\RelSt K H' σd' σ'/\Con K G' H'/\whN c tb d m σd' G',λσ' H' w=>⟨m,F5 m,w⟩,σd1,G2,_,rs1.le l2,c2,t2,?_,?_,?_,?_⟩
   ·exact λσd3 G3 σ3 H3 rs3 c3 l3 t3=>⟨σd3,G3,l1.trans (l2.trans l3),rs3,c3,t3⟩
   ·exact f.rt.le (l1.trans l2)
   ·exact f.nx.le (l1.trans l2)
   ·exact λσd3 G3 σ3 H3 rs3 c3 l3 t3=>⟨σd3,G3,l1.trans (l2.trans l3),rs3,c3,t3⟩
  | false =>
   rw[if_neg C7] at t2⊢;exact f.nx _ _ _ _ (rs1.le l2) c2 (l1.trans l2) t2
structure IT where
 items:List D
 ok:Gp->Prop
structure ItRel(K:W.Frag)(H0:Hp)(it:IT)(J:It):Prop where
 go:∀(i:Nat) G H,Le H0 H->Con K G H->it.ok G->i<it.items.length->J.go i H
 stop:∀(i:Nat) G H,Le H0 H->Con K G H->it.ok G->it.items.length<=i->J.stop i H
 yld:∀(i:Nat) G H x H',Le H0 H->Con K G H->it.ok G->i<it.items.length->J.yld i H x H'->Con K G H'/\Le H H'/\∃d,it.items[i]?=some d/\RelD K H' d x
abbrev TI3:=DSt->Gp->(IT->Gp->Prop)->Prop
def lowI(K:W.Frag)(t:TI3):TI:=λσ H R=>∃σd G r,RelSt K H σd σ/\Con K G H/\t σd G r/\∀it J G' H',ItRel K H' it J->Con K G' H'->Le H H'->r it G'->R J H'
def forL(ok:Gp->Prop)(g:TG3)(tb:TS3)(E:Ends3):List D->DSt->Gp->Prop
 | [],σ,G=>ok G/\E.nx σ G
 | x::r,σ,G=>ok G/\g x σ G λσ1 G1=>tb { E with nx:=forL ok g tb E r,ct:=forL ok g tb E r,bk:=E.nx} σ1 G1
def dFor(wi:TI3)(g:TG3)(tb:TS3):TS3:=λE σ G=>wi σ G λit G1=>forL it.ok g tb E it.items σ G1
theorem w47{K:W.Frag}{wi:TI3}{g:TG3}{tb:TS3}{σ:St}{H:Hp}{E:Ends}(h:lowS K (dFor wi g tb) E σ H):tFor (lowI K wi) (lowG K g) (lowS K tb) E σ H:=by
 obtain⟨σd,G,d,rs,cc,t,f⟩:=h;refine⟨σd,G,_,rs,cc,t,λit J G1 H1 ir c1 l1 t1=>?_⟩;refine⟨λi m σ' H'=>∃σd' G',Le H1 H'/\RelSt K H' σd' σ'/\Con K G' H'/\i+m=it.items.length/\forL it.ok g tb d (it.items.drop i) σd' G',⟨it.items.length,σd,G1,Le.refl _,rs.le l1,c1,by omega,by rw[A97];exact t1⟩,?_⟩;rintro i m σ2 H2 ⟨σd2,G2,l2,rs2,c2,e2,t2⟩
 by_cases hi:i<it.items.length
 ·rw[S8 hi] at t2
  obtain⟨ok2,t2⟩:=t2;refine .inr ⟨ir.go i G2 H2 l2 c2 ok2 hi,λσ' H'=>∃σd' G',Le H1 H'/\RelSt K H' σd' σ'/\Con K G' H'/\forL it.ok g tb d (it.items.drop (i+1)) σd' G',?_,?_⟩
  ·rintro σ' H' ⟨σd',G',a1,a2,a3,a4⟩
   exact⟨m-1,by omega,σd',G',a1,a2,a3,by omega,a4⟩
  ·intro x H3 y
   obtain⟨c3,l3,e,he,r3⟩:=ir.yld i G2 H2 x H3 l2 c2 ok2 hi y;rw[B6 hi] at he;cases he;refine⟨_,σd2,G2,_,r3,rs2.le l3,c3,t2,λσd4 G4 σ4 H4 rs4 c4 l4 t4=>?_⟩;have l14:Le H1 H4:=l2.trans (l3.trans l4);have key:FutS K H4 (forL it.ok g tb d (it.items.drop (i+1))) (λσ' H'=>∃σd' G',Le H1 H'/\RelSt K H' σd' σ'/\Con K G' H'/\forL it.ok g tb d (it.items.drop (i+1)) σd' G') :=
    λσd5 G5 σ5 H5 rs5 c5 l5 t5=>⟨σd5,G5,l14.trans l5,rs5,c5,t5⟩
   exact⟨σd4,G4,_,rs4,c4,t4,key,f.rt.le (l1.trans l14),f.nx.le (l1.trans l14),key⟩
 ·rw[Q8 (by omega)] at t2
  exact .inl ⟨ir.stop i G2 H2 l2 c2 t2.1 (by omega),f.nx _ _ _ _ rs2 c2 (l1.trans l2) t2.2⟩
theorem RelDs.at_{K:W.Frag}{H:Hp}{ds:List D}{xs:List V}{i:Nat}{x:V}(h:RelDs K H ds xs)(e:xs[i]?=some x):∃d,ds[i]?=some d/\RelD K H d x:=by
 have hl:i<ds.length:=by rw[h.length];exact(J7.mp e).1
 obtain⟨y,hy,r⟩:=h.get (B6 hl);rw[e] at hy;cases hy;exact⟨_,B6 hl,r⟩
theorem va2{K:W.Frag}{H0:Hp}{a:Addr}{ds:List D}{xs:List V}(s:SqT K H0 a xs)(r:RelDs K H0 ds xs):ItRel K H0 ⟨ds,λ_=>True⟩ (Itt K a) where
 go:=λi G H l c _ hi=>⟨xs,xs[i]'(by rw[<- r.length];exact hi),l.sqT s,B6 _⟩
 stop:=λi G H l c _ hi=>⟨xs,l.sqT s,by rw[<- r.length];exact hi⟩
 yld:=λi G H x H' l c _ hi y=>by
  obtain⟨e,y⟩:=y;subst e;have hx:=y xs (l.sqT s);obtain⟨d,hd,rd⟩:=(RelDs.le l r).at_ hx
  exact⟨c,Le.refl _,d,hd,rd⟩
def u13:Option DO->Option (List D)
 | some (.lst xs)=>some xs
 | some (.fro xs)=>some xs
 | _=>none
theorem u41{K:W.Frag}{G:Gp}{H:Hp}{a:Addr}{ds:List D}(c:Con K G H)(h:u13 (G a)=some ds):∃xs,SqL K H a xs/\RelDs K H ds xs:=by
 cases e:G a with
 | none=>rw[e] at h;cases h
 | some o =>
  rw[e] at h;have q:=c a o e;cases o with
  | lst xs=>cases h;obtain⟨ys,q,r⟩:=q;exact⟨ys,.inl (.inl q),r⟩
  | fro xs=>cases h;obtain⟨o,ys,q,r⟩:=q;exact⟨ys,.inl (.inr ⟨o,q⟩),r⟩
  | dic _=>cases h
  | dit _=>cases h
  | ins _ _=>cases h
  | exc _ _=>cases h
  | frd _ _=>cases h
  | tb _ _=>cases h
theorem v20{K:W.Frag}{H0:Hp}{a:Addr}{ds:List D}:ItRel K H0 ⟨ds,λG=>u13 (G a)=some ds⟩ (Itl K a) where
 go:=λi G H l c ok hi=>by
  obtain⟨xs,s,r⟩:=u41 c ok;exact⟨xs,xs[i]'(by rw[<- r.length];exact hi),s,B6 _⟩
 stop:=λi G H l c ok hi=>by
  obtain⟨xs,s,r⟩:=u41 c ok;exact⟨xs,s,by rw[<- r.length];exact hi⟩
 yld:=λi G H x H' l c ok hi y=>by
  obtain⟨e,y⟩:=y;subst e;obtain⟨xs,s,r⟩:=u41 c ok;obtain⟨d,hd,rd⟩:=r.at_ (y xs s)
  exact⟨c,Le.refl _,d,hd,rd⟩
def rngD(lo:Int)(n:Nat):List D:=(J6 n).map λ(i:Nat)=>.int (lo+i)
theorem uu0{K:W.Frag}{H0:Hp}{lo:Int}{n:Nat}:ItRel K H0 ⟨rngD lo n,λ_=>True⟩ (Itr lo n) where
 go:=λi G H l c _ hi=>by
  have:i<n:=by simpa[rngD] using hi
  exact this
 stop:=λi G H l c _ hi=>by
  have:n<=i:=by simpa[rngD] using hi
  exact this
 yld:=λi G H x H' l c _ hi y=>by
  obtain⟨e,y⟩:=y;subst e;subst y;refine⟨c,Le.refl _,.int (lo+i),?_,by rw[RelD]⟩;have:i<n:=by simpa[rngD] using hi
  simp[rngD,this]
abbrev Sp3:=List D->Gp->DK->Prop
def ua9(K:W.Frag)(S:Sp3):Sp:=λvs H Q _=>∃ds G R,RelDs K H ds vs/\Con K G H/\S ds G R/\FutE K H R Q
def dCall(S:Sp3)(dds:List D)(t:TA3):TE3:=λσ G q=>t σ G λds G1=>∃R,S (ds++dds) G1 R/\∀d G',R d G'->q d G'
def ui8(C:Addr)(m:Str)(S:Sp3)(dds:List D)(ta:TE3)(t:TA3):TE3:=λσ G q=>ta σ G λx G1=>match x with
 | .ref a=>(match G1 a with
  | some (.ins C' fs)=>C'=C/\fs.lookup m=none/\t σ G1 λds G2=>∃R,S (.ref a::(ds++dds)) G2 R/\∀d G',R d G'->q d G'
  | _=>False)
 | _=>False
def vc5(C:Addr)(S:Sp3)(dds:List D)(t:TA3):TE3:=λσ G q=>t σ G λds G1=>∀x,G1 x=none ->
 ∃R,S (.ref x::(ds++dds)) (gup G1 x (.ins C [])) R/\∀d G',R d G'->d=.non/\q (.ref x) G'
def putD(f:Str)(v:D):List (Str×D)->List (Str×D)
 | []=>[(f,v)]
 | (g,u)::r=>if g=f then(g,v)::r else(g,u)::putD f v r
def dFld(C:Addr)(ta:TE3)(f:Str):TE3:=λσ G q=>ta σ G λx G1=>match x with
 | .ref a=>(match G1 a with
  | some (.ins C' fs)=>C'=C/\(match fs.lookup f with|some d=>q d G1|none=>False)
  | _=>False)
 | _=>False
def w72(C:Addr)(ta tv:TE3)(f:Str):TS3:=λE σ G=>tv σ G λy G1=>ta σ G1 λx G2=>match x with
 | .ref a=>(match G2 a with
  | some (.ins C' fs)=>C'=C/\fs.length<1000/\E.nx σ (gup G2 a (.ins C (putD f y fs)))
  | _=>False)
 | _=>False
def w77(C:Addr)(ta tv:TE3)(r:R3)(f:Str):TS3:=λE σ G=>ta σ G λx G1=>match x with
 | .ref a=>(match G1 a with
  | some (.ins C' fs)=>C'=C/\(match fs.lookup f with
   | some d=>tv σ G1 λy G2=>r d y G2 λz G3=>(match G3 a with
    | some (.ins C'' fs')=>C''=C/\fs'.length<1000/\E.nx σ (gup G3 a (.ins C (putD f z fs')))
    | _=>False)
   | none=>False)
  | _=>False)
 | _=>False
section
variable{K:W.Frag}{σ:St}{H:Hp}{Q:VK}{E:Ends}
theorem vk6{S:Sp3}{dds:List D}{dvs:List V}{t:TA3}{XE:XK}(hd:∀H,RelDs K H dds dvs)(h:lowE K (dCall S dds t) σ H Q):wd0 (ua9 K S) dvs XE (lowA K t) σ H Q:=by
 obtain⟨σd,G,q,rs,c,t,f⟩:=h;exact⟨σd,G,_,rs,c,t,λds G1 vs H1 r1 c1 l1 ⟨R,s1,t1⟩=>⟨_,G1,R,r1.append (hd H1),c1,s1,λd G2 v H2 r2 c2 l2 t2=>f d G2 v H2 r2 c2 (l1.trans l2) (t1 d G2 t2)⟩⟩
theorem RelD.refI{a:Addr}:RelD K H (.ref a) (.ref a):=by rw[RelD]
theorem RelD.ref_inv{a:Addr}{v:V}(h:RelD K H (.ref a) v):v=.ref a:=by rw[RelD] at h;exact h
theorem RelPs.lookup_none{κ:Type}[BEq κ]{k:κ}:∀{ps:List (κ×D)} {qs:List (κ×V)},RelPs K H ps qs->ps.lookup k=none->qs.lookup k=none
 | [],qs,h,_=>by
  cases qs with
  | nil=>rfl
  | cons _ _=>have:=h.1;simp at this
 | (g,d)::ps,qs,h,e=>by
  cases qs with
  | nil=>have:=h.1;simp at this
  | cons q qs =>
   obtain⟨g',v⟩:=q;have h1:=h.1;simp only[C8,A85] at h1;obtain⟨rfl,h1⟩:=h1;obtain⟨x,r,e2,_,h2⟩:=(show RelDs K H (d::ps.map (·.2)) (v::qs.map (·.2)) from h.2).inv_cons;cases e2;rw[E7] at e⊢;cases hk:k==g with
   | true=>rw[hk] at e;cases e
   | false=>rw[hk] at e;exact RelPs.lookup_none ⟨h1,h2⟩ e
theorem RelPs.lookup{κ:Type}[BEq κ]{k:κ}{d:D}:∀{ps:List (κ×D)} {qs:List (κ×V)},RelPs K H ps qs->ps.lookup k=some d->∃v,qs.lookup k=some v/\RelD K H d v
 | [],qs,h,e=>by cases e
 | (g,d')::ps,qs,h,e=>by
  cases qs with
  | nil=>have:=h.1;simp at this
  | cons q qs =>
   obtain⟨g',v⟩:=q;have h1:=h.1;simp only[C8,A85] at h1;obtain⟨rfl,h1⟩:=h1;obtain⟨x,r,e2,r1,h2⟩:=(show RelDs K H (d'::ps.map (·.2)) (v::qs.map (·.2)) from h.2).inv_cons;cases e2;rw[E7] at e⊢;cases hk:k==g with
   | true=>rw[hk] at e;cases e;exact⟨v,rfl,r1⟩
   | false=>rw[hk] at e;exact RelPs.lookup ⟨h1,h2⟩ e
theorem RelPs.nil{κ:Type}:RelPs (κ:=κ) K H [] []:=⟨rfl,.nil⟩
theorem RelPs.cons{κ:Type}{k:κ}{d:D}{v:V}{ps:List (κ×D)}{qs:List (κ×V)}(r:RelD K H d v)(h:RelPs K H ps qs):RelPs K H ((k,d)::ps) ((k,v)::qs) :=
 ⟨by simp[h.1],.cons r h.2⟩
theorem RelPs.inv_cons{κ:Type}{k:κ}{d:D}{ps:List (κ×D)}{qs:List (κ×V)}(h:RelPs K H ((k,d)::ps) qs):∃v r,qs=(k,v)::r/\RelD K H d v/\RelPs K H ps r:=by
 cases qs with
 | nil=>have:=h.1;simp at this
 | cons q qs =>
  obtain⟨g',v⟩:=q;have h1:=h.1;simp only[C8,A85] at h1;obtain⟨rfl,h1⟩:=h1;obtain⟨x,r,e2,r1,h2⟩:=(show RelDs K H (d::ps.map (·.2)) (v::qs.map (·.2)) from h.2).inv_cons;cases e2;exact⟨v,qs,rfl,r1,h1,h2⟩
theorem RelPs.inv_nil{κ:Type}{qs:List (κ×V)}(h:RelPs K H [] qs):qs=[]:=by
 cases qs with
 | nil=>rfl
 | cons _ _=>have:=h.1;simp at this
theorem RelPs.putF{f:Str}{d:D}{v:V}(r:RelD K H d v):∀{ps:List (Str×D)} {qs:List (Str×V)},RelPs K H ps qs->RelPs K H (putD f d ps) (L2.putF f v qs)
 | [],qs,h=>by rw[h.inv_nil];exact RelPs.cons r RelPs.nil
 | (g,d')::ps,qs,h=>by
  obtain⟨u,qs',rfl,r1,h2⟩:=h.inv_cons
  show RelPs K H (if g=f then(g,d)::ps else(g,d')::putD f d ps) (if g=f then(g,v)::qs' else(g,u)::L2.putF f v qs')
  split
  ·exact RelPs.cons r h2
  ·exact RelPs.cons r1 (RelPs.putF r h2)
theorem RelPs.length{κ:Type}{ps:List (κ×D)}{qs:List (κ×V)}(h:RelPs K H ps qs):ps.length=qs.length:=by
 have:=h.2.length;simpa using this
theorem ux7{C:Addr}{m:Str}{S:Sp3}{dds:List D}{dvs:List V}{ta:TE3}{t:TA3}{XE:XK}(hd:∀H,RelDs K H dds dvs)(h:lowE K (ui8 C m S dds ta t) σ H Q):vv0 C m (ua9 K S) dvs XE (lowE K ta) (lowA K t) σ H Q:=by
 obtain⟨σd,G,q,rs,c,t,f⟩:=h;refine⟨σd,G,_,rs,c,t,λx G1 v H1 r1 c1 l1 t1=>?_⟩;split at t1
 ·rename_i a
  split at t1
  ·rename_i C' fs e
   obtain⟨rfl,n,t1⟩:=t1;obtain⟨dx,ys,e2,rf⟩:=c1 _ _ e;refine⟨a,dx,ys,r1.ref_inv,e2,rf.lookup_none n,σd,G1,_,rs.le l1,c1,t1,λds G2 vs H2 r2 c2 l2 ⟨R,s2,t2⟩=>?_⟩;exact⟨_,G2,R,.cons (RelD.le l2 r1) (r2.append (hd H2)),c2,s2,λd G3 v H3 r3 c3 l3 t3=>f d G3 v H3 r3 c3 (l1.trans (l2.trans l3)) (t2 d G3 t3)⟩
  ·exact t1.elim
 ·exact t1.elim
theorem Con.insNew{G:Gp}{x dx C:Addr}(c:Con K G H)(h:H x=none)(h':H dx=none)(ne:dx≠x):Con K (gup G x (.ins C [])) (upd (upd H dx (.own x)) x (.ins C dx []))/\Le H (upd (upd H dx (.own x)) x (.ins C dx [])):=by
 have c1:=c.side (u:=.own x) h';have hx:upd H dx (.own x) x=none:=by rw[u22 (D6 ne)];exact h
 exact⟨c1.put (Le.fresh hx) ⟨dx,[],u30,RelPs.nil⟩,(Le.fresh h').trans (Le.fresh hx)⟩
theorem vj9{C:Addr}{S:Sp3}{dds:List D}{dvs:List V}{t:TA3}{XE:XK}(hd:∀H,RelDs K H dds dvs)(h:lowE K (vc5 C S dds t) σ H Q):wc6 C (ua9 K S) dvs XE (lowA K t) σ H Q:=by
 obtain⟨σd,G,q,rs,c,t,f⟩:=h;refine⟨σd,G,_,rs,c,t,λds G1 vs H1 r1 c1 l1 t1 x dx hx hdx ne=>?_⟩;obtain⟨R,s1,t1⟩:=t1 x (c1.fresh hx);obtain⟨c2,l2⟩:=c1.insNew (C:=C) hx hdx ne;refine⟨_,_,R,.cons RelD.refI ((RelDs.le l2 r1).append (hd _)),c2,s1,λd G3 v H3 r3 c3 l3 t3=>?_⟩;obtain⟨rfl,t4⟩:=t1 d G3 t3;exact⟨by rw[RelD] at r3;exact r3,f _ _ _ _ RelD.refI c3 (l1.trans (l2.trans l3)) t4⟩
theorem w48{C:Addr}{ta:TE3}{f:Str}(cl:Cls K C)(na:NoAttr K C f)(h:lowE K (dFld C ta f) σ H Q):tFld K (lowE K ta) f σ H Q:=by
 obtain⟨σd,G,q,rs,c,t,fu⟩:=h;refine⟨σd,G,_,rs,c,t,λx G1 v H1 r1 c1 l1 t1=>?_⟩;split at t1
 ·rename_i a
  split at t1
  ·rename_i C' fs e
   obtain⟨rfl,t1⟩:=t1;obtain⟨dx,ys,e2,rf⟩:=c1 _ _ e;split at t1
   ·rename_i d el
    obtain⟨w,ew,rw'⟩:=rf.lookup el;exact⟨a,_,dx,ys,w,r1.ref_inv,e2,cl,na,ew,fu d G1 w H1 rw' c1 l1 t1⟩
   ·exact t1.elim
  ·exact t1.elim
 ·exact t1.elim
theorem vj3{C:Addr}{ta tv:TE3}{f:Str}(cl:Cls K C)(na:NoAttr K C f)(h:lowS K (w72 C ta tv f) E σ H):sFld K (lowE K ta) (lowE K tv) f E σ H:=by
 obtain⟨σd,G,d,rs,c,t,fu⟩:=h;refine⟨σd,G,_,rs,c,t,λy G1 v H1 r1 c1 l1 t1=>⟨σd,G1,_,rs.le l1,c1,t1,λx G2 w H2 r2 c2 l2 t2=>?_⟩⟩;split at t2
 ·rename_i a
  split at t2
  ·rename_i C' fs e
   obtain⟨rfl,hl,t2⟩:=t2;obtain⟨dx,ys,e2,rf⟩:=c2 _ _ e;refine⟨a,_,dx,ys,r2.ref_inv,e2,cl,na,by rw[<- rf.length];exact hl,?_⟩;have l3:=Le.ins (C':=C') (dx':=dx) (ys:=L2.putF f v ys) e2;exact fu.nx _ _ _ _ (rs.le (l1.trans (l2.trans l3))) (c2.put (o:=.ins C' (putD f y fs)) l3 ⟨dx,_,u30,RelPs.le l3 (rf.putF (RelD.le l2 r1))⟩) (l1.trans (l2.trans l3)) t2
  ·exact t2.elim
 ·exact t2.elim
theorem vk7{C:Addr}{ta tv:TE3}{r:R3}{f:Str}(cl:Cls K C)(na:NoAttr K C f)(h:lowS K (w77 C ta tv r f) E σ H):v61 K (lowE K ta) (lowE K tv) (lowR K r) f E σ H:=by
 obtain⟨σd,G,d,rs,c,t,fu⟩:=h;refine⟨σd,G,_,rs,c,t,λx G1 v H1 r1 c1 l1 t1=>?_⟩;split at t1
 ·rename_i a
  split at t1
  ·rename_i C' fs e
   obtain⟨rfl,t1⟩:=t1;obtain⟨dx,ys,e2,rf⟩:=c1 _ _ e;split at t1
   ·rename_i d0 el
    obtain⟨w,ew,rw'⟩:=rf.lookup el;refine⟨a,_,dx,ys,w,r1.ref_inv,e2,cl,na,ew,σd,G1,_,rs.le l1,c1,t1,λy G2 u H2 r2 c2 l2 t2=>?_⟩;refine⟨d0,y,G2,_,RelD.le l2 rw',r2,c2,t2,λz G3 vz H3 r3 c3 l3 t3=>?_⟩;split at t3
    ·rename_i C'' fs' e'
     obtain⟨rfl,hl,t3⟩:=t3;obtain⟨dx',ys',e3,rf'⟩:=c3 _ _ e';refine⟨dx',ys',e3,by rw[<- rf'.length];exact hl,?_⟩;have l4:=Le.ins (C':=C'') (dx':=dx') (ys:=L2.putF f vz ys') e3;have l14:=l1.trans (l2.trans (l3.trans l4));exact fu.nx _ _ _ _ (rs.le l14) (c3.put (o:=.ins C'' (putD f z fs')) l4 ⟨dx',_,u30,RelPs.le l4 (rf'.putF r3)⟩) l14 t3
    ·exact t3.elim
   ·exact t1.elim
  ·exact t1.elim
 ·exact t1.elim
theorem x23{te:TE3}{Q:Bool->Hp->Prop}(h:lowT K (dB te) σ H Q):tB (lowE K te) σ H Q:=by
 obtain⟨σd,G,q,rs,c,t,f⟩:=h;refine⟨σd,G,_,rs,c,t,λx G1 v H1 r1 c1 l1 t1=>?_⟩;split at t1
 ·rename_i k
  exact⟨k,r1.bl_inv,f _ _ _ c1 l1 t1⟩
 ·exact t1.elim
theorem vk8{ta tb:TE3}(h:lowE K (w78 ta tb) σ H Q):wd1 (lowE K ta) (lowE K tb) σ H Q:=by
 obtain⟨σd,G,q,rs,c,t,f⟩:=h;refine⟨σd,G,_,rs,c,t,λx G1 v H1 r1 c1 l1 t1=>?_⟩;split at t1
 ·rename_i k
  refine⟨k,r1.bl_inv,?_⟩;cases k with
  | true=>rw[if_pos rfl] at t1⊢;exact⟨σd,G1,q,rs.le l1,c1,t1,f.le l1⟩
  | false=>rw[if_neg C7] at t1⊢;exact f _ _ _ _ (by rw[RelD]) c1 l1 t1
 ·exact t1.elim
theorem vj6{ta:TE3}(h:lowE K (w75 ta) σ H Q):wc3 (lowE K ta) σ H Q:=by
 obtain⟨σd,G,q,rs,c,t,f⟩:=h;refine⟨σd,G,_,rs,c,t,λx G1 v H1 r1 c1 l1 t1=>?_⟩;split at t1
 ·rename_i k
  exact⟨k,r1.bl_inv,f _ _ _ _ (by rw[RelD]) c1 l1 t1⟩
 ·exact t1.elim
def dAug(i:Nat)(te:TE3)(r:R3):TS3:=λE σ G=>match σ[i]? with
 | some (some x)=>te σ G λy G1=>r x y G1 λz G2=>E.nx (σ.set i (some z)) G2
 | _=>False
theorem w50{i:Nat}{te:TE3}{r:R3}(h:lowS K (dAug i te r) E σ H):tAug i (lowE K te) (lowR K r) E σ H:=by
 obtain⟨σd,G,d,rs,c,t,fu⟩:=h;unfold dAug at t;split at t
 ·rename_i x e
  obtain⟨v,hv,r1⟩:=rs.2 i x e;refine⟨v,hv,σd,G,_,rs,c,t,λy G1 u H1 r2 c1 l1 t1=>?_⟩;exact⟨x,y,G1,_,RelD.le l1 r1,r2,c1,t1,λz G2 vz H2 r3 c2 l2 t2=>fu.nx _ _ _ _ ((rs.le (l1.trans l2)).set i r3) c2 (l1.trans l2) t2⟩
 ·exact t.elim
abbrev TO3:=DSt->Gp->(Option Int->Gp->Prop)->Prop
def lowO(K:W.Frag)(t:TO3):TO:=λσ H Q=>∃σd G q,RelSt K H σd σ/\Con K G H/\t σd G q/\∀o G' H',Con K G' H'->Le H H'->q o G'->Q o H'
def uu7:TO3:=λ_ G q=>q none G
def w74(t:TE3):TO3:=λσ G q=>t σ G λx G1=>match x with|.int i=>q (some i) G1|_=>False
theorem v17{Q:Option Int->Hp->Prop}(h:lowO K uu7 σ H Q):v49 σ H Q:=by
 obtain⟨σd,G,q,rs,c,t,f⟩:=h;exact f _ _ _ c (Le.refl H) t
theorem vj5{t:TE3}{Q:Option Int->Hp->Prop}(h:lowO K (w74 t) σ H Q):wc2 (lowE K t) σ H Q:=by
 obtain⟨σd,G,q,rs,c,t,f⟩:=h;refine⟨σd,G,_,rs,c,t,λx G1 v H1 r1 c1 l1 t1=>?_⟩;split at t1
 ·rename_i k
  rw[RelD] at r1;exact⟨k,r1,f _ _ _ c1 l1 t1⟩
 ·exact t1.elim
abbrev RS3:=D->Option Int->Option Int->Gp->DK->Prop
def vl0(K:W.Frag)(r:RS3):V->Option Int->Option Int->Hp->VK->Prop:=λx l u H Q=>∃d G q,RelD K H d x/\Con K G H/\r d l u G q/\FutE K H q Q
def dSl(r:RS3)(te:TE3)(tl th:TO3):TE3:=λσ G q=>te σ G λx G1=>tl σ G1 λl G2=>th σ G2 λu G3=>r x l u G3 q
theorem wo6{r:RS3}{te:TE3}{tl th:TO3}(h:lowE K (dSl r te tl th) σ H Q):tSl (vl0 K r) (lowE K te) (lowO K tl) (lowO K th) σ H Q:=by
 obtain⟨σd,G,q,rs,c,t,f⟩:=h;exact⟨σd,G,_,rs,c,t,λx G1 v H1 r1 c1 l1 t1=>⟨σd,G1,_,rs.le l1,c1,t1,λo G2 H2 c2 l2 t2=>⟨σd,G2,_,rs.le (l1.trans l2),c2,t2,λu G3 H3 c3 l3 t3 =>
  ⟨x,G3,q,RelD.le (l2.trans l3) r1,c3,t3,f.le (l1.trans (l2.trans l3))⟩⟩⟩⟩
def dCB(r:C3)(t:TA3):TE3:=λσ G q=>t σ G λds G1=>r ds G1 q
theorem vs6{r:C3}{t:TA3}(h:lowE K (dCB r t) σ H Q):tCB (lowC K r) (lowA K t) σ H Q:=by
 obtain⟨σd,G,q,rs,c,t,f⟩:=h;exact⟨σd,G,_,rs,c,t,λds G1 vs H1 r1 c1 l1 t1=>⟨ds,G1,q,r1,c1,t1,f.le l1⟩⟩
abbrev M3:=D->List D->Gp->DK->Prop
def lowM(K:W.Frag)(r:M3):V->List V->Hp->VK->Prop:=λx xs H Q=>∃d ds G q,RelD K H d x/\RelDs K H ds xs/\Con K G H/\r d ds G q/\FutE K H q Q
def tyD(G:Gp)(T:String):D->Prop
 | .str _=>T = "str"
 | .int _=>T = "int"
 | .ref a=>match G a with
  | some (.lst _)=>T = "list"
  | some (.fro _)=>T = "list"
  | some (.dic _)=>T = "dict"
  | _=>False
 | _=>False
def dBM(T:String)(r:M3)(to:TE3)(t:TA3):TE3:=λσ G q=>to σ G λx G1=>tyD G1 T x/\t σ G1 λds G2=>r x ds G2 q
def dBM0(T:String)(r:M3)(to:TE3):TE3:=λσ G q=>to σ G λx G1=>tyD G1 T x/\r x [] G1 q
theorem ux9{T:String}{r:M3}{to:TE3}{t:TA3}(ty:∀G H x v,Con K G H->RelD K H x v->tyD G T x->tyV K T v H)(h:lowE K (dBM T r to t) σ H Q):tBM K T (lowM K r) (lowE K to) (lowA K t) σ H Q:=by
 obtain⟨σd,G,q,rs,c,t,f⟩:=h;exact⟨σd,G,_,rs,c,t,λx G1 v H1 r1 c1 l1 ⟨y,t1⟩=>⟨ty G1 H1 x v c1 r1 y,σd,G1,_,rs.le l1,c1,t1,λds G2 vs H2 r2 c2 l2 t2=>⟨x,ds,G2,q,RelD.le l2 r1,r2,c2,t2,f.le (l1.trans l2)⟩⟩⟩
theorem w49{T:String}{r:M3}{to:TE3}(ty:∀G H x v,Con K G H->RelD K H x v->tyD G T x->tyV K T v H)(h:lowE K (dBM0 T r to) σ H Q):tBM0 K T (lowM K r) (lowE K to) σ H Q:=by
 obtain⟨σd,G,q,rs,c,t,f⟩:=h;exact⟨σd,G,_,rs,c,t,λx G1 v H1 r1 c1 l1 ⟨y,t1⟩=>⟨ty G1 H1 x v c1 r1 y,x,[],G1,q,r1,.nil,c1,t1,f.le l1⟩⟩
end
end L3
namespace L3
open PySem PySem.Spec PyProof.Rows L2
section
variable{X:Cx}
theorem u51{e:Expr}{t t':TE}(h:PE X e t)(w:∀σ H Q,t' σ H Q->t σ H Q):PE X e t':=λpins s σ H Q I q=>h pins s σ H Q I (w _ _ _ q)
theorem vu0{e:Expr}{t t':TT}(h:PT X e t)(w:∀σ H Q,t' σ H Q->t σ H Q):PT X e t':=λpins s σ H Q I q=>h pins s σ H Q I (w _ _ _ q)
theorem wb0{e:Expr}{t t':TT}(h:PW X e t)(w:∀σ H Q,t' σ H Q->t σ H Q):PW X e t':=λwh pins s σ H Q I q=>h wh pins s σ H Q I (w _ _ _ q)
theorem wb3{e:List Expr}{t t':TA}(h:PA X e t)(w:∀σ H Q,t' σ H Q->t σ H Q):PA X e t':=λpos pins s σ H Q I q=>h pos pins s σ H Q I (w _ _ _ q)
theorem uc4{e:Stmt}{t t':TS}(h:PS X e t)(w:∀D σ H,t' D σ H->t D σ H):PS X e t':=λpins s σ H D I q=>h pins s σ H D I (w _ _ _ q)
theorem vo5{e:List Stmt}{t t':TS}(h:PSs X e t)(w:∀D σ H,t' D σ H->t D σ H):PSs X e t':=λpins s σ H D I q=>h pins s σ H D I (w _ _ _ q)
theorem vu3{e:Expr}{t t':TG}(h:PG X e t)(w:∀v σ H Q,t' v σ H Q->t v σ H Q):PG X e t':=λpins s σ H v u Q I r q=>h pins s σ H v u Q I r (w _ _ _ _ q)
theorem vo7{e:List Expr}{t t':TGs}(h:PGs X e t)(w:∀v σ H Q,t' v σ H Q->t v σ H Q):PGs X e t':=λpins s σ H v u Q I r q=>h pins s σ H v u Q I r (w _ _ _ _ q)
theorem vu1{t t':TSet}(h:PSet X t)(w:∀o i v H Q,t' o i v H Q->t o i v H Q):PSet X t':=λpins s σ H o i v ov iv u Q I r1 r2 r3 q=>h pins s σ H o i v ov iv u Q I r1 r2 r3 (w _ _ _ _ _ q)
theorem v41{tg e:Expr}{t t':TI}(h:PI X tg e t)(w:∀σ H R,t' σ H R->t σ H R):PI X tg e t':=λpins s σ H R I q=>h pins s σ H R I (w _ _ _ q)
theorem u96{f:Value->Value->Sem Value}{r r':R2}(h:OpR X f r)(w:∀x y H Q,r' x y H Q->r x y H Q):OpR X f r':=λpins s σ H x y v u Q I a b q=>h pins s σ H x y v u Q I a b (w _ _ _ _ q)
theorem u56{f:Value}{r r':List V->Hp->VK->Prop}(h:CallR X f r)(w:∀x H Q,r' x H Q->r x H Q):CallR X f r':=λpins s σ H x v Q I a q=>h pins s σ H x v Q I a (w _ _ _ q)
theorem uo4{id:String}{r r':V->List V->Hp->VK->Prop}(h:MtR X id r)(w:∀x xs H Q,r' x xs H Q->r x xs H Q):MtR X id r':=λpins s σ H x xs v us Q I a b q=>h pins s σ H x xs v us Q I a b (w _ _ _ _ q)
theorem wb2{r r':R2}(h:IxR X r)(w:∀x y H Q,r' x y H Q->r x y H Q):IxR X r':=λva sl pins s σ H x y v u Q I a b q=>h va sl pins s σ H x y v u Q I a b (w _ _ _ _ q)
theorem vo6{r r':V->Option Int->Option Int->Hp->VK->Prop}(h:SlR X r)(w:∀x l u H Q,r' x l u H Q->r x l u H Q):SlR X r':=by
 intro pins s σ H x lo hi
 intros
 apply h <;> first|assumption|(apply w;assumption)
theorem wb1{e:Option Expr}{t t':TO}(h:PO X e t)(w:∀σ H Q,t' σ H Q->t σ H Q):PO X e t':=by
 intro pins s σ H Q I q;exact h pins s σ H Q I (w _ _ _ q)
theorem vu2{e:List Expr}{t t':TT}(h:PIfs X e t)(w:∀σ H Q,t' σ H Q->t σ H Q):PIfs X e t':=λpins s σ H Q I q=>h pins s σ H Q I (w _ _ _ q)
end
def E3(X:Cx)(e:Expr)(t:TE3):Prop:=PE X e (lowE X.K t)
def T3(X:Cx)(e:Expr)(t:TT3):Prop:=PT X e (lowT X.K t)
def W3(X:Cx)(e:Expr)(t:TT3):Prop:=PW X e (lowT X.K t)
def A3(X:Cx)(es:List Expr)(t:TA3):Prop:=PA X es (lowA X.K t)
def S3(X:Cx)(st:Stmt)(t:TS3):Prop:=PS X st (lowS X.K t)
def Ss3(X:Cx)(sts:List Stmt)(t:TS3):Prop:=PSs X sts (lowS X.K t)
def J3(X:Cx)(e:Expr)(t:TG3):Prop:=PG X e (lowG X.K t)
def Js3(X:Cx)(es:List Expr)(t:TGs3):Prop:=PGs X es (vl1 X.K t)
def I3(X:Cx)(tg e:Expr)(t:TI3):Prop:=PI X tg e (lowI X.K t)
def O3(X:Cx)(e:Option Expr)(t:TO3):Prop:=PO X e (lowO X.K t)
def Ifs3(X:Cx)(es:List Expr)(t:TT3):Prop:=PIfs X es (lowT X.K t)
abbrev Op3(X:Cx)(f:Value->Value->Sem Value)(r:R3):Prop:=OpR X f (lowR X.K r)
abbrev Call3(X:Cx)(f:Value)(r:C3):Prop:=CallR X f (lowC X.K r)
section
variable{X:Cx}{a b c e o:Expr}{es:List Expr}{pos apos cpos p p2:Pos}{ta tb tc te:TE3}{t u:TT3}{ts us:TA3}
theorem ev(i:Nat){x:Str}{pos:Pos}(hN:X.N[i]?=some x:=by rfl)(hv:Vis X.env.scope x:=by first|exact B48 rfl|exact B19 (B48 rfl)|exact B19 (B19 rfl))(hd:(x==("__debug__" :Str))=false:=by decide)
  (hcd:(x==("__classdict__" :Str))=false:=by decide):E3 X (.Name x pos) (dVar i):=u51 (wf6 hN hv hd hcd) λ_ _ _=>w39
theorem u05{i j pos}:E3 X (.Constant (.int i) j pos) (dC (.int i)):=u51 wg3 λ_ _ _=>v18 λ_=>by rw[RelD]
theorem e_bl{i j pos}:E3 X (.Constant (.bool i) j pos) (dC (.bl i)):=u51 x13 λ_ _ _=>v18 λ_=>by rw[RelD]
theorem x28{j pos}:E3 X (.Constant .none j pos) (dC .non):=u51 wg1 λ_ _ _=>v18 λ_=>by rw[RelD]
theorem u08{x j pos}:E3 X (.Constant (.str x) j pos) (dC (.str x)):=u51 wf8 λ_ _ _=>v18 λ_=>by rw[RelD]
theorem wr5{x:Str}{d:D}{v:V}{w:Value}(hg:Gl X x)(hm:X.mg x=some w)(r:RelV v w)(rd:∀H,RelD X.K H d v)(hd:(x==("__debug__" :Str))=false:=by decide):E3 X (.Name x pos) (dC d) :=
 u51 (w26 hg hm r hd) λ_ _ _=>v18 rd
theorem u16{op:Operator}{r:R3}(ho:Op3 X (K7 op) r)(ha:E3 X a ta)(hb:E3 X b tb):E3 X (.BinOp a op b pos) (dOp r ta tb):=u51 (x10 ho ha hb) λ_ _ _=>ux6
theorem ua4{op:CmpOp}{r:R3}(ho:Op3 X (K1 op) r)(ha:E3 X a ta)(hb:E3 X b tb)(hm:X9 op b=false):E3 X (.Compare a [op] [b] pos) (dOp r ta tb):=u51 (w29 ho ha hb hm) λ_ _ _=>ux6
theorem u26{op:CmpOp}{r:R3}(ho:Op3 X (K1 op) r)(ha:E3 X a ta)(hb:E3 X b tb)(hm:X9 op b=false):T3 X (.Compare a [op] [b] pos) (dB (dOp r ta tb)) :=
 vu0 (w08 ho ha hb hm) λσ H Q h=>by
  obtain⟨σd,G,q,rs,c,t,f⟩:=h;exact ux6 (K:=X.K) ⟨σd,G,_,rs,c,t,λx G1 v H1 r1 c1 l1 t1=>by
   split at t1
   ·rename_i k
    exact⟨k,r1.bl_inv,f _ _ _ c1 l1 t1⟩
   ·exact t1.elim⟩
theorem u78(h:E3 X e te)(he:∀whole,isTrue e X.env whole=(do let v <- whole;A00 e.pos;holding [v] (truthy v)):=by intro _;rfl):T3 X e (dB te):=vu0 (we5 h he) λ_ _ _=>x23
theorem v42(ha:T3 X a t):W3 X (.BoolOp .And [a] pos) t:=w07 ha
theorem ug1(ha:T3 X a t):W3 X (.BoolOp .Or [a] pos) t:=we3 ha
theorem w_and{rest:List Expr}(ha:T3 X a t)(hb:W3 X (.BoolOp .And (b::rest) pos) u):W3 X (.BoolOp .And (a::b::rest) pos) (dAnd t u):=wb0 (we4 ha hb) λ_ _ _=>vk9
theorem w_or{rest:List Expr}(ha:T3 X a t)(hb:W3 X (.BoolOp .Or (b::rest) pos) u):W3 X (.BoolOp .Or (a::b::rest) pos) (dOr t u):=wb0 (x06 ha hb) λ_ _ _=>w44
theorem t_w(h:W3 X e t):T3 X e t:=PW.pt h
theorem uc5(ha:T3 X a t):T3 X (.UnaryOp .Not a pos) (dNot t):=vu0 (we6 ha) λ_ _ _=>vj7
theorem v24{op}(h:E3 X a ta):E3 X (.BoolOp op [a] pos) ta:=wf9 h
theorem uu5{rest:List Expr}(ha:E3 X a ta)(hb:E3 X (.BoolOp .And (b::rest) pos) tb):E3 X (.BoolOp .And (a::b::rest) pos) (w78 ta tb):=u51 (wg6 ha hb) λ_ _ _=>vk8
theorem wr2(ha:E3 X a ta):E3 X (.UnaryOp .Not a pos) (w75 ta):=u51 (wg0 ha) λ_ _ _=>vj6
theorem e_if(hc:T3 X c t)(ha:E3 X a ta)(hb:E3 X b tb):E3 X (.IfExp c a b pos) (dIf t ta tb):=u51 (vi1 hc ha hb) λ_ _ _=>wo7
theorem u03:A3 X [] dNil:=wb3 wg7 λ_ _ _=>v89
theorem u00(ha:E3 X e te)(hr:A3 X es ts)(hs:C5 (e::es) X.env=(false,eval e X.env)::C5 es X.env:=by rfl):A3 X (e::es) (u60 te ts):=wb3 (w33 ha hr hs) λ_ _ _=>vk5
theorem u23{x1}(h:A3 X es ts):E3 X (.Tuple es x1 pos) (dTup ts):=u51 (wf7 h) λ_ _ _=>w41
theorem u46(h:A3 X es ts):E3 X (.List es pos) (dLst ts):=u51 (wg2 h) λ_ _ _=>w45
theorem e_ix{r:R3}(hr:IxR X (lowR X.K r))(ha:E3 X a ta)(hb:E3 X b tb)(hs:ve4 b:=by exact λ_ _=>rfl):E3 X (.Subscript a b pos) (dOp r ta tb):=u51 (x12 hr ha hb hs) λ_ _ _=>ux6
theorem uk6:O3 X none uu7:=wb1 w19 λ_ _ _=>v17
theorem uk5(h:E3 X e te):O3 X (some e) (w74 te):=wb1 (w18 h) λ_ _ _=>vj5
theorem e_sl{r:RS3}{lo hi:Option Expr}{tl th:TO3}(hr:SlR X (vl0 X.K r))(he:E3 X e te)(hl:O3 X lo tl)(hu:O3 X hi th):E3 X (.Subscript e (.Slice lo hi none p2) pos) (dSl r te tl th):=u51 (vh9 hr he hl hu) λ_ _ _=>wo6
end
section
variable{X:Cx}{a b c e o value:Expr}{es:List Expr}{st:Stmt}{sts sts2:List Stmt}{pos pos' spos tpos:Pos}{te ta tv:TE3}{t:TT3}{s1 s2:TS3}{g:TG3}
theorem u21:Ss3 X [] w76:=vo5 w13 λ_ _ _=>vj8
theorem u02(h1:S3 X st s1)(h2:Ss3 X sts s2):Ss3 X (st::sts) (dSeq s1 s2):=vo5 (vh1 h1 h2) λ_ _ _=>w42
theorem u07(h1:S3 X st s1):Ss3 X [st] s1:=w12 h1
theorem u38(he:E3 X e te)(hs:W5 e none pos.line X.env=pure false:=by rfl):S3 X (.Expr e pos) (uu8 te):=uc4 (w16 he hs) λ_ _ _=>vk4
theorem u15(he:E3 X e te):S3 X (.Return (some e) pos) (dRet te):=uc4 (we8 he) λ_ _ _=>w43
theorem wd6:S3 X (.Return none pos) w73:=uc4 w15 λ_ _ _=>vj4
theorem s_if(hc:T3 X c t)(ha:Ss3 X sts s1)(hb:Ss3 X sts2 s2):S3 X (.If c sts sts2 pos) (dIfS t s1 s2):=uc4 (x07 hc ha hb) λ_ _ _=>w46
def ws0:TS3:=λ_ _ _=>False
theorem vw0:S3 X st ws0:=uc4 vh3 λ_ _ _ h=>by obtain⟨_,_,_,_,_,h,_⟩:=h;exact h.elim
theorem u19(i:Nat){x:Str}(hN:X.N.Nodup)(hi:X.N[i]?=some x:=by rfl)(hx:Loc X.env.scope x:=by first|exact B48 rfl|exact B19 rfl)(hf:X.fn x=true\/X.env.scope.names.lookup x=some .local:=by first|exact .inl rfl|exact .inr rfl|assumption):J3 X (.Name x pos) (uh3 i) :=
 vu3 (w22 hN hi hx hf) λ_ _ _ _=>v90
theorem ue4:Js3 X [] jNil:=vo7 w21 λ_ _ _ _=>vk1
theorem u40{t:TG3}{u:TGs3}(h1:J3 X e t)(h2:Js3 X es u)(hs:(P8 (e::es) X.env).map (·.2)=assign e X.env::(P8 es X.env).map (·.2):=by rfl):Js3 X (e::es) (w54 t u):=vo7 (vh8 h1 h2 hs) λ_ _ _ _=>v91
theorem ui7{i:Expr}{to ti:TE3}{t:TSet3}(ho:E3 X o to)(hi:E3 X i ti)(hs:PSet X (v94 X.K t))
  (ha:∀v,assign (.Subscript o i pos) X.env v=(do
   let ov <- holding [v] (eval o X.env)
   let iv <- holding [v,ov] (eval i X.env)
   A00 pos
   holding [v,ov,iv] (C17 ov iv v)
   release [v,ov,iv] []):=by intro _;rfl):J3 X (.Subscript o i pos) (jSub to ti t):=vu3 (wf5 ho hi hs ha) λ_ _ _ _=>vk0
theorem ub6{tg:Expr}(he:E3 X e te)(hg:J3 X tg g)(hs:swapsWithSole [tg] e pos.line X.env=pure false:=by rfl)(hw:swappedStores [tg] e X.env=pure none:=by rfl)
  (h1:(P8 [tg] X.env).map (·.2)=[assign tg X.env]:=by rfl):S3 X (.Assign [tg] e pos) (dAsg te g):=uc4 (wf2 he hg hs hw h1) λ_ _ _=>w51
theorem u20(i:Nat){x:Str}(hN:X.N.Nodup)(he:E3 X e te)(hi:X.N[i]?=some x:=by rfl)(hx:Loc X.env.scope x:=by first|exact B48 rfl|exact B19 rfl)(hs:W5 e (some (.Name x pos')) pos.line X.env=pure false:=by rfl)
  (hf:X.fn x=true\/X.env.scope.names.lookup x=some .local:=by first|exact .inl rfl|exact .inr rfl|assumption):S3 X (.Assign [.Name x pos'] e pos) (dAsg te (uh3 i)) :=
 uc4 (we7 hN hi hx he hs hf) λD σ H h=>by
  obtain⟨σd,G,q,rs,c,t,f⟩:=h;exact⟨σd,G,_,rs,c,t,λx G1 v H1 r1 c1 l1 t1=>f.nx _ _ _ _ ((rs.le l1).set i r1) c1 l1 t1⟩
theorem x02(i:Nat){x:Str}{op:Operator}{r:R3}(hN:X.N.Nodup)(he:E3 X e te)(ho:Op3 X (A30 op) r)(hi:X.N[i]?=some x:=by rfl)(hx:Loc X.env.scope x:=by first|exact B48 rfl|exact B19 rfl)
  (hf:X.fn x=true\/X.env.scope.names.lookup x=some .local:=by first|exact .inl rfl|exact .inr rfl|assumption):S3 X (.AugAssign (.Name x pos') op e pos) (dAug i te r):=uc4 (wf1 hN hi hx he ho hf) λ_ _ _=>w50
theorem vv9{body:List Stmt}(hc:T3 X c t)(hb:Ss3 X body s1)(hp:A63 (model X.prog X.w) X.A X.env X.xe:=by exact B63):S3 X (.While c body [] pos) (vc4 t s1):=uc4 (vh2 hp hc hb) λ_ _ _=>v86
theorem uc6{tg iter:Expr}{body:List Stmt}{wi:TI3}(hi:I3 X tg iter wi)(hg:J3 X tg g)(hb:Ss3 X body s1)(hc:X.calm=true:=by rfl)(hp:A63 (model X.prog X.w) X.A X.env X.xe:=by exact B63)
  (hs:∀x,U2 iter X.env x=pure x:=by intro _;rfl):S3 X (.For tg iter body [] pos) (dFor wi g s1):=uc4 (we9 hp hc hi hg hb hs) λ_ _ _=>w47
theorem u73{C:Addr}{f:Str}(cl:Cls X.K C)(na:NoAttr X.K C f)(he:E3 X e te)(hb:L9 e f X.env (eval e X.env)=eval e X.env:=by rfl):E3 X (.Attribute e f pos) (dFld C te f):=u51 (wg4 he hb) λ_ _ _=>w48 cl na
theorem uq2{C:Addr}{f:Str}(cl:Cls X.K C)(na:NoAttr X.K C f)(ha:E3 X o ta)(hv:E3 X value tv)(hs:W5 value (some (.Attribute o f pos')) pos.line X.env=pure false:=by rfl):S3 X (.Assign [.Attribute o f pos'] value pos) (w72 C ta tv f) :=
 uc4 (wf0 ha hv hs) λ_ _ _=>vj3 cl na
theorem uw6{C:Addr}{f:Str}{op:Operator}{r:R3}(cl:Cls X.K C)(na:NoAttr X.K C f)(ha:E3 X o ta)(hv:E3 X value tv)(ho:Op3 X (A30 op) r):S3 X (.AugAssign (.Attribute o f tpos) op value pos) (w77 C ta tv r f) :=
 uc4 (v70 ha hv ho) λ_ _ _=>vk7 cl na
end
theorem v87{K:W.Frag}{σ:L2.St}{H:Hp}{ta:TA3}{R:It->Hp->Prop}(h:lowI K (λσ G r=>ta σ G λds G1=>match ds with|[.int j]=>(-(2^62)<=j/\j<2^62)/\r ⟨rngD 0 j.toNat,λ_=>True⟩ G1|_=>False) σ H R):wq6 (lowA K ta) σ H R:=by
 obtain⟨σd,G,q,rs,c,t,f⟩:=h;refine⟨σd,G,_,rs,c,t,λds G1 vs H1 r1 c1 l1 t1=>?_⟩;split at t1
 ·rename_i j
  obtain⟨x,r,rfl,rx,rr⟩:=r1.inv_cons;rw[RelD] at rx;subst rx;rw[rr.inv_nil];exact⟨j,rfl,t1.1.1,t1.1.2,f _ _ _ _ uu0 c1 l1 t1.2⟩
 ·exact t1.elim
def wc0(ta:TA3):TI3:=λσ G r=>ta σ G λds G1=>match ds with|[.int j]=>(-(2^62)<=j/\j<2^62)/\r ⟨rngD 0 j.toNat,λ_=>True⟩ G1|_=>False
def wz6(ta:TA3):TI3:=λσ G r=>ta σ G λds G1=>match ds with|[.int i,.int j]=>(-(2^62)<=i/\i<2^62/\-(2^62)<=j/\j<2^62)/\r ⟨rngD i (j-i).toNat,λ_=>True⟩ G1|_=>False
section
variable{X:Cx}{a b e o tg:Expr}{es:List Expr}{p pos apos cpos:Pos}{ta:TE3}{ts:TA3}
theorem ua3(hg:Gl X "range")(hm:X.mg "range" = none)(ha:A3 X [a] ts)(hs:C5 [a] X.env=[(false,eval a X.env)]:=by rfl):I3 X tg (.Call (.Name "range" p) [a] [] pos) (wc0 ts):=v41 (v74 hg hm ha hs) λ_ _ _=>v87
variable{k:Nat}{f C:Addr}{fd:Y0}{ps:List Str}{S:Sp3}{dds:List D}{dvs:List V}{ds:List Value}{x m:Str}
theorem wr6(F:FnOk X.prog X.w X.K X.mg X.base CX0 k f fd ps (ua9 X.K S))(hr:Room k X.A)(hg:Gl X x)(hm:X.mg x=some (.ref f))(hk:W.keepIn X.K (.ref f)=true)(hb:Binds X.K fd ps ds)(hd:Vals dvs ds)(hdd:∀H,RelDs X.K H dds dvs)
  (ha:A3 X (e::es) ts) (hdb:(x==("__debug__" :Str))=false:=by decide) (he:C5 (e::es) X.env=(false,eval e X.env)::C5 es X.env:=by rfl) (hpl:(backTo pos (C5 es X.env)).any (·.1)=false:=by rfl) :
  E3 X (.Call (.Name x p) (e::es) [] pos) (dCall S dds ts):=u51 (w30 F hr hg hm hk hb hd pass0 ha hdb he hpl) λ_ _ _=>vk6 hdd
theorem wr3{pl:Sem Bool}(he:E3 X o ta)(c:Cls X.K C)(hm:Meth X.K C m f)(F:FnOk X.prog X.w X.K X.mg X.base CX0 k f fd ps (ua9 X.K S))(hr:Room k X.A)(hb:Binds X.K fd ps ds)(hd:Vals dvs ds)(hdd:∀H,RelDs X.K H dds dvs)(ha:A3 X (e::es) ts)
  (hse:C5 (e::es) X.env=(false,eval e X.env)::C5 es X.env:=by rfl) (hpl:(backTo pos (C5 es X.env)).any (·.1)=false:=by rfl)
  (ht:eval (.Call (.Attribute o m apos) (e::es) [] pos) X.env=(do
   let ov <- eval o X.env
   A00 apos.atName
   let (f,first) <- holding [ov] (Y7 ov m pl)
   A38 pos f first (backTo pos (C5 (e::es) X.env)) (Q5 pos (M5 [] X.env))):=by rfl):E3 X (.Call (.Attribute o m apos) (e::es) [] pos) (ui8 C m S dds ta ts) :=
 u51 (w24 he c hm F hr hb hd pass0 ha hse hpl ht) λ_ _ _=>ux7 hdd
theorem w66{pl:Sem Bool}(he:E3 X o ta)(c:Cls X.K C)(hm:Meth X.K C m f)(F:FnOk X.prog X.w X.K X.mg X.base CX0 k f fd ps (ua9 X.K S))(hr:Room k X.A)(hb:Binds X.K fd ps ds)(hd:Vals dvs ds)(hdd:∀H,RelDs X.K H dds dvs)
  (ht:eval (.Call (.Attribute o m apos) [] [] pos) X.env=(do
   let ov <- eval o X.env
   A00 apos.atName
   let (f,first) <- holding [ov] (Y7 ov m pl)
   A38 pos f first (backTo pos (C5 [] X.env)) (Q5 pos (M5 [] X.env))):=by rfl):E3 X (.Call (.Attribute o m apos) [] [] pos) (ui8 C m S dds ta dNil) :=
 u51 (vi0 he c hm F hr hb hd pass0 ht) λσ H Q h=>by
  obtain⟨σd,G,q,rs,cc,t,ff⟩:=ux7 (XE:=E0) hdd h;refine⟨σd,G,q,rs,cc,t,λd G1 v H1 r1 c1 l1 t1=>?_⟩;obtain⟨a,dx,fs,e1,e2,e3,q3⟩:=ff d G1 v H1 r1 c1 l1 t1;exact⟨a,dx,fs,e1,e2,e3,v89 q3⟩
theorem vt4(M:Mk X.K C f)(F:FnOk X.prog X.w X.K X.mg X.base CX0 k f fd ps (ua9 X.K S))(hr:Room (k+1) X.A)(hg:Gl X x)(hm:X.mg x=some (.ref C))(hb:Binds X.K fd ps ds)(hd:Vals dvs ds)(hdd:∀H,RelDs X.K H dds dvs)
  (ha:A3 X (e::es) ts) (hdb:(x==("__debug__" :Str))=false:=by decide) (he:C5 (e::es) X.env=(false,eval e X.env)::C5 es X.env:=by rfl) (hpl:(backTo pos (C5 es X.env)).any (·.1)=false:=by rfl) :
  E3 X (.Call (.Name x p) (e::es) [] pos) (vc5 C S dds ts):=u51 (w25 M F hr hg hm hb hd pass0 ha hdb he hpl) λ_ _ _=>vj9 hdd
variable{id T:String}{r:C3}{rm:M3}{name:Str}
theorem u18(hc:Call3 X (.builtin id) r)(hg:Gl X x)(hm:X.mg x=none)(hv:P3 x=some (.builtin id))(ha:A3 X (e::es) ts)(hn:x ≠ "__name__" := by decide)(hdb:(x==("__debug__" :Str))=false:=by decide)
  (he:C5 (e::es) X.env=(false,eval e X.env)::C5 es X.env:=by rfl) (hpl:(backTo pos (C5 es X.env)).any (·.1)=false:=by rfl):E3 X (.Call (.Name x p) (e::es) [] pos) (dCB r ts) :=
 u51 (vi4 hc hg hm hv ha hn hdb he hpl) λ_ _ _=>vs6
theorem u27(hc:Call3 X (.type T) r)(hg:Gl X x)(hm:X.mg x=none)(hv:P3 x=some (.type T))(ha:A3 X (e::es) ts)(hn:x ≠ "__name__" := by decide)(hdb:(x==("__debug__" :Str))=false:=by decide)
  (he:C5 (e::es) X.env=(false,eval e X.env)::C5 es X.env:=by rfl) (hpl:(backTo pos (C5 es X.env)).any (·.1)=false:=by rfl):E3 X (.Call (.Name x p) (e::es) [] pos) (dCB r ts) :=
 u51 (v76 hc hg hm hv ha hn hdb he hpl) λ_ _ _=>vs6
end
def ul0(ix:List (Option Nat))(σ:DSt):DSt:=ix.map λo=>o.bind λj=>(σ[j]?).bind id
def ui9(ok:Gp->Prop)(g:TG3)(tc:TT3)(te:TE3)(p:Addr)(q:DK):List D->DSt->Gp->Prop
 | [],_,G=>ok G/\q (.ref p) G
 | x::r,σ,G=>ok G/\g x σ G λσ2 G2=>tc σ2 G2 λb G3 =>
  if b=true then te σ2 G3 λd G4=>(match G4 p with|some (.lst ys)=>ys.length<sizeLine/\ui9 ok g tc te p q r σ2 (gup G4 p (.lst (ys++[d])))|_=>False)
  else ui9 ok g tc te p q r σ2 G3
def vm5(ix:List (Option Nat))(wi:TI3)(g:TG3)(tc:TT3)(te:TE3):TE3:=λσ G q=>wi σ G λit G1=>∀p,G1 p=none->ui9 it.ok g tc te p q it.items (ul0 ix σ) (gup G1 p (.lst []))
theorem RelSt.inn{K:W.Frag}{H:Hp}{σd:DSt}{σ:L2.St}(h:RelSt K H σd σ)(ix:List (Option Nat)):RelSt K H (ul0 ix σd) (L2.inner ix σ):=by
 refine⟨by unfold ul0 L2.inner;rw[B5,B5],λi d e=>?_⟩;unfold ul0 at e;unfold L2.inner;rw[F6] at e⊢;cases ho:ix[i]? with
 | none=>rw[ho] at e;cases e
 | some o =>
  rw[ho] at e;cases o with
  | none=>cases e
  | some j =>
   have e:(σd[j]?).bind id=some d:=E2 e;have e:σd[j]?=some (some d):=by
    cases hs:σd[j]? with
    | none=>rw[hs] at e;cases e
    | some w=>rw[hs] at e;cases e;rfl
   obtain⟨v,hv,r⟩:=h.2 j d e;exact⟨v,by show some ((σ[j]?).bind id)=_;rw[hv];rfl,r⟩
theorem ux8{K:W.Frag}{ix:List (Option Nat)}{wi:TI3}{g:TG3}{tc:TT3}{te:TE3}{σ:L2.St}{H:Hp}{Q:VK}(h:lowE K (vm5 ix wi g tc te) σ H Q):vv2 ix (lowI K wi) (lowG K g) (lowT K tc) (lowE K te) σ H Q:=by
 obtain⟨σd,G,q,rs,cc,t,f⟩:=h;refine⟨σd,G,_,rs,cc,t,λit J G1 H1 ir c1 l1 t1=>?_⟩;intro p hp;have t1:=t1 p (c1.fresh hp);have c2:Con K (gup G1 p (.lst [])) (upd H1 p (.lst [])):=c1.lstNew hp .nil;have l2:Le H1 (upd H1 p (.lst [])):=Le.fresh hp;refine⟨λi m σ' H'=>∃σd' G',Le (upd H1 p (.lst [])) H'/\RelSt K H' σd' σ'/\Con K G' H'/\i+m=it.items.length/\ui9 it.ok g tc te p q (it.items.drop i) σd' G',
  ⟨it.items.length,ul0 ix σd,_,Le.refl _,(rs.le (l1.trans l2)).inn ix,c2,by omega,by rw[A97];exact t1⟩,?_⟩
 rintro i m σ2 H2 ⟨σd2,G2,l3,rs2,c2,e2,t2⟩;have l12:Le H1 H2:=l2.trans l3
 by_cases hi:i<it.items.length
 ·rw[S8 hi] at t2
  obtain⟨ok2,t2⟩:=t2;refine .inr ⟨ir.go i G2 H2 l12 c2 ok2 hi,λσ' H'=>∃σd' G',Le (upd H1 p (.lst [])) H'/\RelSt K H' σd' σ'/\Con K G' H'/\ui9 it.ok g tc te p q (it.items.drop (i+1)) σd' G',?_,?_⟩
  ·rintro σ' H' ⟨σd',G',a1,a2,a3,a4⟩
   exact⟨m-1,by omega,σd',G',a1,a2,a3,by omega,a4⟩
  ·intro x H3 y
   obtain⟨c3,l4,e,he,r3⟩:=ir.yld i G2 H2 x H3 l12 c2 ok2 hi y;rw[B6 hi] at he;cases he;refine⟨_,σd2,G2,_,r3,rs2.le l4,c3,t2,λσd4 G4 σ4 H4 rs4 c4 l5 t4=>?_⟩;refine⟨σd4,G4,_,rs4,c4,t4,λb G5 H5 c5 l6 t5=>?_⟩;cases b with
   | false =>
    rw[if_neg C7] at t5⊢;exact⟨σd4,G5,l3.trans (l4.trans (l5.trans l6)),rs4.le l6,c5,t5⟩
   | true =>
    rw[if_pos rfl] at t5⊢;refine⟨σd4,G5,_,rs4.le l6,c5,t5,λd G6 v H6 r6 c6 l7 t6=>?_⟩;split at t6
    ·rename_i ys eg
     obtain⟨xs,ex,rx⟩:=c6 p _ eg;have l8:=Le.lst (ys:=xs++[v]) ex;exact⟨xs,ex,by rw[<- rx.length];exact t6.1,σd4,_,l3.trans (l4.trans (l5.trans (l6.trans (l7.trans l8)))),rs4.le (l6.trans (l7.trans l8)),c6.lstSet ex (rx.append (.cons r6 .nil)),t6.2⟩
    ·exact t6.elim
 ·rw[Q8 (by omega)] at t2
  exact .inl ⟨ir.stop i G2 H2 l12 c2 t2.1 (by omega),f _ _ _ _ RelD.refI c2 (l1.trans l12) t2.2⟩
def dYes:TT3:=λ_ G q=>q true G
section
variable{X:Cx}{elt tg iter:Expr}{ifs:List Expr}{scope:Scope}{pos:Pos}{N':List Str}{ix:List (Option Nat)}{wi:TI3}{g:TG3}{tc:TT3}{te:TE3}
theorem u44:Ifs3 X [] dYes:=vu2 vh5 λσ H Q h=>by
 obtain⟨σd,G,q,rs,c,t,f⟩:=h;exact f _ _ _ c (Le.refl H) t
theorem w57{c:Expr}(h:T3 X c tc):Ifs3 X [c] tc:=vh4 h
theorem u59(B:BlkOk X N' ix scope)(hw:I3 X tg iter wi)(hg:∀C s H fp,J3 (u65 X N' scope C s H fp) tg g)(hi:∀C s H fp,Ifs3 (u65 X N' scope C s H fp) ifs tc)(he:∀C s H fp,E3 (u65 X N' scope C s H fp) elt te)
  (hc:X.calm=true:=by rfl) (hs:∀x,U2 iter X.env x=pure x:=by intro _;rfl):E3 X (.ListComp elt [⟨tg,iter,ifs,0⟩] scope pos) (vm5 ix wi g tc te) :=
 u51 (w28 (g:=lowG X.K g) (tc:=lowT X.K tc) (te:=lowE X.K te) B hc hw hg hi he hs) λ_ _ _=>ux8
theorem vr9(i:Nat){y:Str}{py spos:Pos}(hN:X.N.Nodup)(B:BlkOk X N' ix scope)(hw:I3 X tg iter wi)(hg:∀C s H fp,J3 (u65 X N' scope C s H fp) tg g)(hi:∀C s H fp,Ifs3 (u65 X N' scope C s H fp) ifs tc)(he:∀C s H fp,E3 (u65 X N' scope C s H fp) elt te)
  (hy:X.N[i]?=some y:=by rfl) (hl:Loc X.env.scope y:=by first|exact B48 rfl|exact B19 rfl)
  (hc:X.calm=true:=by rfl) (hsw:W5 (.ListComp elt [⟨tg,iter,ifs,0⟩] scope pos) (some (.Name y py)) spos.line X.env=pure true:=by rfl)
  (hf:X.fn y=true\/X.env.scope.names.lookup y=some .local:=by first|exact .inl rfl|exact .inr rfl|assumption)
  (hs:∀x,U2 iter X.env x=pure x:=by intro _;rfl):S3 X (.Assign [.Name y py] (.ListComp elt [⟨tg,iter,ifs,0⟩] scope pos) spos) (dAsg (vm5 ix wi g tc te) (uh3 i)) :=
 uc4 (w14 (g:=lowG X.K g) (tc:=lowT X.K tc) (te:=lowE X.K te) B hc hN hy hl hw hg hi he hsw hf hs) λD σ H h=>by
  obtain⟨σd,G,d,rs,c,t,f⟩:=h;exact ux8 (K:=X.K) ⟨σd,G,_,rs,c,t,λx G1 v H1 r1 c1 l1 t1=>f.nx _ _ _ _ ((rs.le l1).set i r1) c1 l1 t1⟩
end
def xAdd:R3:=λx y G q=>match x,y with
 | .int i,.int j=>q (.int (i+j)) G
 | .str a,.str b=>a.length+b.length<=sizeLine/\q (.str (a++b)) G
 | .tup a,.tup b=>a≠[]/\a.length+b.length<=sizeLine/\q (.tup (a++b)) G
 | .ref a,.ref b=>(match G a,G b with
  | some (.lst xs),some (.lst ys)=>xs.length+ys.length<=sizeLine/\∀p,G p=none->q (.ref p) (gup G p (.lst (xs++ys)))
  | _,_=>False)
 | _,_=>False
def xInt(f:Int->Int->Int):R3:=λx y G q=>match x,y with|.int i,.int j=>q (.int (f i j)) G|_,_=>False
def ul9(C:Int->Int->Prop)(f:Int->Int->Int):R3:=λx y G q=>match x,y with|.int i,.int j=>C i j/\q (.int (f i j)) G|_,_=>False
def xSub:R3:=xInt λi j=>i-j
def xMul:R3:=λx y G q=>match x,y with
 | .int i,.int j=>CMul i j/\q (.int (i*j)) G
 | .ref a,.int k=>(match G a with
  | some (.lst xs)=>(-(2^63)<=k/\k<2^63/\xs.length*k.toNat<=sizeLine)/\∀p,G p=none->q (.ref p) (gup G p (.lst (C2 k.toNat xs).flatten))
  | _=>False)
 | _,_=>False
def vo2(_ j:Int):Prop:=0<j/\j<18446744073709551616
def xDiv:R3:=ul9 vo2 λi j=>i / j
def xMod:R3:=ul9 (λ_ j=>0<j) λi j=>i%j
def xPow:R3:=ul9 CPow λi j=>i^j.toNat
def xShl:R3:=ul9 CPow λi j=>i*2^j.toNat
def xShr:R3:=ul9 (λ_ j=>0<=j) λi j=>i / 2^j.toNat
def xAnd:R3:=xInt V1
def xOr:R3:=xInt Z9
def xXor:R3:=xInt X0
def xLt:R3:=λx y G q=>match x,y with|.int i,.int j=>q (.bl (decide (i<j))) G|.str a,.str b=>q (.bl (decide (a.cps.toList<b.cps.toList))) G|_,_=>False
def xLe:R3:=λx y G q=>match x,y with|.int i,.int j=>q (.bl (decide (i<=j))) G|_,_=>False
def xGt:R3:=λx y G q=>match x,y with|.int i,.int j=>q (.bl (decide (j<i))) G|_,_=>False
def xGe:R3:=λx y G q=>match x,y with|.int i,.int j=>q (.bl (decide (j<=i))) G|_,_=>False
section
variable{X:Cx}{K:W.Frag}{H:Hp}
theorem RelD.int_inv{i:Int}{v:V}(h:RelD K H (.int i) v):v=.int i:=by rw[RelD] at h;exact h
theorem RelD.str_inv{i:Str}{v:V}(h:RelD K H (.str i) v):v=.str i:=by rw[RelD] at h;exact h
theorem RelD.non_inv{v:V}(h:RelD K H .non v):v=.non:=by rw[RelD] at h;exact h
theorem RelD.tup_inv{ds:List D}{v:V}(h:RelD K H (.tup ds) v):∃a xs,v=.ref a/\SqT K H a xs/\RelDs K H ds xs:=by rw[RelD] at h;exact h
theorem RelD.intI{i:Int}:RelD K H (.int i) (.int i):=by rw[RelD]
theorem RelD.strI{i:Str}:RelD K H (.str i) (.str i):=by rw[RelD]
theorem RelD.blI{i:Bool}:RelD K H (.bl i) (.bl i):=by rw[RelD]
theorem RelD.nonI:RelD K H .non .non:=by rw[RelD]
theorem v38{f:Value->Value->Sem Value}{g:Int->Int->Int}(h:OpR X f (rI0 λi j=>.int (g i j))):Op3 X f (xInt g):=u96 h λx y H Q ⟨d,e,G,q,r1,r2,c,t,f⟩=>by
 unfold xInt at t;split at t
 ·exact⟨_,_,r1.int_inv,r2.int_inv,f _ _ _ _ RelD.intI c (Le.refl H) t⟩
 ·exact t.elim
theorem uo2{f:Value->Value->Sem Value}{C:Int->Int->Prop}{g:Int->Int->Int}(h:OpR X f (rI C λi j=>.int (g i j))):Op3 X f (ul9 C g):=u96 h λx y H Q ⟨d,e,G,q,r1,r2,c,t,f⟩=>by
 unfold ul9 at t;split at t
 ·exact⟨_,_,r1.int_inv,r2.int_inv,t.1,f _ _ _ _ RelD.intI c (Le.refl H) t.2⟩
 ·exact t.elim
theorem ui5:Op3 X (K7 .Sub) xSub:=v38 wh0
theorem vi7:OpR X (K7 .FloorDiv) (rI vo2 λi j=>.int (i / j)):=opI λi j _ _ _ _ _ hc q=>by
 have hl:j.natAbs.log2<9000:=by
  have h1:=hc.1;have h2:=hc.2;have hn:j.natAbs≠0:=by omega
  have:j.natAbs.log2<64:=(Nat.log2_lt hn).mpr (by omega);omega
 refine floordiv_int (by have:=hc.1;omega) ?_ (.inl (PyProof.noPylong_of_log2 hl));rw[R5 i (by have:=hc.1;omega)];exact q
theorem wa7:Op3 X (K7 .FloorDiv) xDiv:=uo2 vi7
theorem ue6:Op3 X (K7 .Mod) xMod:=uo2 wh6
theorem wz3:Op3 X (K7 .Pow) xPow:=uo2 wh4
theorem v37:Op3 X (K7 .LShift) xShl:=uo2 wh2
theorem wz2:Op3 X (K7 .RShift) xShr:=uo2 wh1
theorem wa8:Op3 X (K7 .BitAnd) xAnd:=v38 wh9
theorem x_or:Op3 X (K7 .BitOr) xOr:=v38 x17
theorem wa5:Op3 X (K7 .BitXor) xXor:=v38 wg9
theorem uo3:Op3 X (A30 .Add) (xInt λi j=>i+j):=v38 w56
theorem u50:Op3 X (K7 .Add) xAdd:=u96 (op_add.or (op_add_str.or (op_catT.or wh8))) <| by
 rintro x y H Q ⟨d,e,G,q,r1,r2,c,t,f⟩;unfold xAdd at t;split at t
 ·exact .inl ⟨_,_,r1.int_inv,r2.int_inv,f _ _ _ _ RelD.intI c (Le.refl H) t⟩
 ·exact .inr (.inl ⟨_,_,r1.str_inv,r2.str_inv,t.1,f _ _ _ _ RelD.strI c (Le.refl H) t.2⟩)
 ·obtain⟨a,xs,rfl,s1,q1⟩:=r1.tup_inv
  obtain⟨b,ys,rfl,s2,q2⟩:=r2.tup_inv;refine .inr (.inr (.inl ⟨a,b,xs,ys,rfl,rfl,s1,s2,λz=>t.1 ?_,by rw[<- q1.length,<- q2.length];exact t.2.1,λz=>?_,λ_ p hp=>?_⟩))
  ·have:=q1.length;rw[z] at this;exact F4 this
  ·refine f (.tup _) G (.ref a) _ ?_ c (Le.refl _) t.2.2
   rw[RelD];subst z;have e:∀{bs:List D},RelDs X.K H bs []->bs=[]:=λh=>F4 h.length
   rw[e q2,F7];exact⟨a,_,rfl,s1,q1⟩
  ·refine f (.tup _) G (.ref p) _ ?_ (c.side hp) (Le.fresh hp) t.2.2
   rw[RelD];exact⟨p,_,rfl,SqT.of u30,RelDs.le (Le.fresh hp) (q1.append q2)⟩
 ·rename_i a b
  split at t
  ·rename_i xs ys e1 e2
   obtain⟨vs,h1,q1⟩:=c _ _ e1;obtain⟨ws,h2,q2⟩:=c _ _ e2;exact .inr (.inr (.inr ⟨a,b,vs,ws,r1.ref_inv,r2.ref_inv,h1,h2,by rw[<- q1.length,<- q2.length];exact t.1,λp hp=>f _ _ _ _ RelD.refI (c.lstNew hp (q1.append q2)) (Le.fresh hp) (t.2 p (c.fresh hp))⟩))
  ·exact t.elim
 ·exact t.elim
theorem uc2:Op3 X (K7 .Mult) xMul:=u96 (op_mul.or wh3) <| by
 rintro x y H Q ⟨d,e,G,q,r1,r2,c,t,f⟩;unfold xMul at t;split at t
 ·exact .inl ⟨_,_,r1.int_inv,r2.int_inv,t.1,f _ _ _ _ RelD.intI c (Le.refl H) t.2⟩
 ·rename_i a k
  split at t
  ·rename_i xs e1
   obtain⟨vs,h1,q1⟩:=c _ _ e1;refine .inr ⟨a,k,vs,r1.ref_inv,r2.int_inv,h1,t.1.1,t.1.2.1,by rw[<- q1.length];exact t.1.2.2,?_⟩;intro p hp;exact f _ _ _ _ RelD.refI (c.lstNew hp (q1.rep _)) (Le.fresh hp) (t.2 p (c.fresh hp))
  ·exact t.elim
 ·exact t.elim
theorem v39{f:Value->Value->Sem Value}{g:Int->Int->Bool}(h:OpR X f (rI0 λi j=>.bl (g i j))):Op3 X f (λx y G q=>match x,y with|.int i,.int j=>q (.bl (g i j)) G|_,_=>False):=u96 h λx y H Q ⟨d,e,G,q,r1,r2,c,t,f⟩=>by
 dsimp only at t;split at t
 ·exact⟨_,_,r1.int_inv,r2.int_inv,f _ _ _ _ RelD.blI c (Le.refl H) t⟩
 ·exact t.elim
theorem x_le:Op3 X (K1 .LtE) xLe:=v39 x18
theorem x_gt:Op3 X (K1 .Gt) xGt:=v39 x19
theorem x_ge:Op3 X (K1 .GtE) xGe:=v39 x20
theorem x_lt:Op3 X (K1 .Lt) xLt:=u96 (op_lt.or v77) <| by
 rintro x y H Q ⟨d,e,G,q,r1,r2,c,t,f⟩;unfold xLt at t;split at t
 ·exact .inl ⟨_,_,r1.int_inv,r2.int_inv,f _ _ _ _ RelD.blI c (Le.refl H) t⟩
 ·exact .inr ⟨_,_,r1.str_inv,r2.str_inv,f _ _ _ _ RelD.blI c (Le.refl H) t⟩
 ·exact t.elim
theorem RelD.not_non{d:D}{v:V}(h:RelD K H d v)(n:d≠.non):v≠.non:=by
 cases d with
 | non=>exact absurd rfl n
 | bl _=>rw[h.bl_inv];exact λz=>nomatch z
 | int _=>rw[h.int_inv];exact λz=>nomatch z
 | str _=>rw[h.str_inv];exact λz=>nomatch z
 | ref _=>rw[h.ref_inv];exact λz=>nomatch z
 | ty _=>rw[RelD] at h;rw[h];exact λz=>nomatch z
 | tup _=>obtain⟨a,xs,e,_⟩:=h.tup_inv;rw[e];exact λz=>nomatch z
def xNeg:U3:=λx G q=>match x with|.int i=>q (.int (-i)) G|_=>False
def xIx:R3:=λx y G q=>match x,y with
 | .tup ds,.int i=>(match atI ds i with|some d=>q d G|none=>False)
 | .ref a,.int i=>(match u13 (G a) with|some ds=>(match atI ds i with|some d=>q d G|none=>False)|none=>False)
 | .str z,.int i=>z.length<=sizeLine/\(match atI z.cps.toList i with|some c=>q (.str ⟨#[c]⟩) G|none=>False)
 | _,_=>False
theorem RelDs.atI{ds:List D}{xs:List V}{i:Int}{d:D}(h:RelDs K H ds xs)(e:L2.atI ds i=some d):∃v,L2.atI xs i=some v/\RelD K H d v:=by
 unfold L2.atI at e⊢;rw[<- h.length];cases hj:ixN ds.length i with
 | none=>rw[hj] at e;cases e
 | some j =>
  rw[hj] at e;exact h.get e
theorem x_ix:IxR X (lowR X.K xIx):=wb2 wp8 <| by
 rintro x y H Q ⟨d,e,G,q,r1,r2,c,t,f⟩;unfold xIx at t;split at t
 ·rename_i ds i
  obtain⟨a,xs,rfl,s1,q1⟩:=r1.tup_inv;split at t
  ·rename_i w ew
   obtain⟨v,hv,rv⟩:=q1.atI ew;exact .inr (.inl ⟨a,xs,i,v,rfl,r2.int_inv,s1,hv,f _ _ _ _ rv c (Le.refl H) t⟩)
  ·exact t.elim
 ·rename_i a i
  split at t
  ·rename_i ds es
   obtain⟨xs,s1,q1⟩:=u41 c es;split at t
   ·rename_i w ew
    obtain⟨v,hv,rv⟩:=q1.atI ew;exact .inl ⟨a,xs,i,v,r1.ref_inv,r2.int_inv,s1,hv,f _ _ _ _ rv c (Le.refl H) t⟩
   ·exact t.elim
  ·exact t.elim
 ·rename_i z i
  obtain⟨hz,t⟩:=t;split at t
  ·rename_i w ew
   exact .inr (.inr ⟨z,i,w,r1.str_inv,r2.int_inv,hz,ew,f _ _ _ _ RelD.strI c (Le.refl H) t⟩)
  ·exact t.elim
 ·exact t.elim
def cutD{α:Type}(xs:List α)(lo hi:Option Int):List α:=(xs.drop (HT.sIx xs.length 0 lo)).take (HT.sIx xs.length xs.length hi-HT.sIx xs.length 0 lo)
theorem RelDs.cut{ds:List D}{xs:List V}(h:RelDs K H ds xs)(lo hi:Option Int):RelDs K H (cutD ds lo hi) (cutV xs lo hi):=by
 unfold cutD cutV;rw[h.length];exact(h.drop _).take _
def xSet:TSet3:=λo i v G q=>match o,i with
 | .ref a,.int k=>(match G a with|some (.lst ds)=>(match ixN ds.length k with|some j=>q (gup G a (.lst (ds.set j v)))|none=>False)|_=>False)
 | _,_=>False
theorem ui6:PSet X (v94 X.K xSet):=vu1 set_list <| by
 rintro o i v H Q ⟨d,e,x,G,q,r1,r2,r3,c,t,f⟩;unfold xSet at t;split at t
 ·rename_i a k
  split at t
  ·rename_i ds e1
   obtain⟨xs,h1,q1⟩:=c _ _ e1;split at t
   ·rename_i j ej
    exact⟨a,xs,k,j,r1.ref_inv,r2.int_inv,h1,by rw[<- q1.length];exact ej,f _ _ (c.lstSet h1 (q1.set r3 j)) (Le.lst h1) t⟩
   ·exact t.elim
  ·exact t.elim
 ·exact t.elim
end
inductive Sn where
 | non|bl (b:Bool)|int (i:Int)|str (x:Str)|tup (xs:List Sn)|lst (xs:List Sn)
def snap(G:Gp):Nat->D->Option Sn
 | _,.non=>some .non
 | _,.bl b=>some (.bl b)
 | _,.int i=>some (.int i)
 | _,.str x=>some (.str x)
 | n+1,.tup ds=>(ds.mapM (snap G n)).map .tup
 | n+1,.ref a=>(u13 (G a)).bind λds=>(ds.mapM (snap G n)).map .lst
 | _,_=>none
def u61:Sn->Bool
 | .non=>true|.bl _=>true|.int _=>true|.str _=>true|_=>false
def eqF:Sn->Sn->Bool
 | .non,.non=>true
 | .bl a,.bl b=>a==b
 | .bl a,.int b=>(if a then 1 else 0)==b
 | .int a,.bl b=>a==(if b then 1 else 0)
 | .int a,.int b=>a==b
 | .str a,.str b=>a==b
 | _,_=>false
def eqN:Nat->Sn->Sn->Option Bool
 | n+1,.tup xs,.tup ys=>if xs.length=ys.length then((xs.zip ys).mapM λp=>eqN n p.1 p.2).map λbs=>bs.all id else none
 | n+1,.lst xs,.lst ys=>if xs.length=ys.length then((xs.zip ys).mapM λp=>eqN n p.1 p.2).map λbs=>bs.all id else some false
 | _,x,y=>if(u61 x&&u61 y)=true then some (eqF x y) else none
theorem u43{α β:Type}{f:α->Option β}:∀{xs:List α} {ys:List β},xs.mapM f=some ys->xs.length=ys.length/\∀(i:Nat) x,xs[i]?=some x->∃y,ys[i]?=some y/\f x=some y
 | [],ys,h=>by
  have:ys=[]:=by simpa using h.symm
  subst this;exact⟨rfl,λi x e=>by simp at e⟩
 | x::xs,ys,h=>by
  rw[L0] at h;cases hx:f x with
  | none=>rw[hx] at h;cases h
  | some y =>
   rw[hx] at h;cases hr:xs.mapM f with
   | none=>rw[hr] at h;cases h
   | some r =>
    rw[hr] at h;have e:y::r=ys:=E2 h;subst e;obtain⟨h1,h2⟩:=u43 hr;refine⟨by simp[h1],λi z e=>?_⟩;cases i with
    | zero=>cases(show x=z from E2 e);exact⟨y,rfl,hx⟩
    | succ i=>exact h2 i z e
theorem ul6{bs:List Bool}{e:Nat->Bool}{n:Nat}(hl:bs.length=n)(h:∀(i:Nat) b,bs[i]?=some b->e i=b):(J6 n).all e=bs.all id:=by
 rw[W1,N0,N0]
 constructor
 ·intro q b hb
  obtain⟨i,hi,eb⟩:=A05.mp hb;have:=q i (O9.mpr (by omega));rw[h i b (by rw[B6 hi,eb])] at this;exact this
 ·intro q i hi
  have hi:=O9.mp hi;rw[h i bs[i] (B6 (by omega))];exact q _ (P7 _)
section
variable{X:Cx}{pins:List (Addr×Obj)}{σ:L2.St}{H:Hp}{s:Shared}{G:Gp}
theorem uu4{n:Nat}{d:D}{sd:Sn}{x:V}{u:Value}(h:snap G n d=some sd)(fl:u61 sd=true)(r:RelD X.K H d x):uh7 x=true/\∀(e:D) (se:Sn) (y:V),snap G n e=some se->u61 se=true->RelD X.K H e y->eqV x y=eqF sd se:=by
  have key:∀(d:D) (sd:Sn) (x:V),snap G n d=some sd->u61 sd=true->RelD X.K H d x->(sd=.non/\x=.non)\/(∃b,sd=.bl b/\x=.bl b)\/(∃i,sd=.int i/\x=.int i)\/(∃z,sd=.str z/\x=.str z):=by
    intro d sd x h fl r;cases d with
    | non => have e : Sn.non = sd := by cases n <;> exact Option.some.inj h
             subst e;exact .inl ⟨rfl,r.non_inv⟩
    | bl b => have e : Sn.bl b = sd := by cases n <;> exact Option.some.inj h
              subst e;exact .inr (.inl ⟨b,rfl,r.bl_inv⟩)
    | int b => have e : Sn.int b = sd := by cases n <;> exact Option.some.inj h
               subst e;exact .inr (.inr (.inl ⟨b,rfl,r.int_inv⟩))
    | str b => have e : Sn.str b = sd := by cases n <;> exact Option.some.inj h
               subst e;exact .inr (.inr (.inr ⟨b,rfl,r.str_inv⟩))
    | tup ds =>
      cases n with
      | zero=>cases h
      | succ n =>
        have h:(ds.mapM (snap G n)).map Sn.tup=some sd:=h;obtain⟨a,_,rfl⟩:=E4.mp h;cases fl
    | ref a =>
      cases n with
      | zero=>cases h
      | succ n =>
        have h:((u13 (G a)).bind λds=>(ds.mapM (snap G n)).map Sn.lst)=some sd:=h;obtain⟨ds,_,h⟩:=Y6.mp h;obtain⟨a,_,rfl⟩:=E4.mp h;cases fl
    | ty t=>cases n <;> cases h
  rcases key d sd x h fl r with⟨rfl,rfl⟩|⟨b,rfl,rfl⟩|⟨b,rfl,rfl⟩|⟨b,rfl,rfl⟩ <;> refine⟨rfl,λe se y h' fl' r'=>?_⟩ <;>
    rcases key e se y h' fl' r' with⟨rfl,rfl⟩|⟨c,rfl,rfl⟩|⟨c,rfl,rfl⟩|⟨c,rfl,rfl⟩ <;> rfl
theorem snap_tup{n:Nat}{ds:List D}{sd:Sn}(h:snap G n (.tup ds)=some sd):∃m ss,n=m+1/\sd=.tup ss/\ds.mapM (snap G m)=some ss:=by
 cases n with
 | zero=>cases h
 | succ n =>
  obtain⟨ss,h1,rfl⟩:=E4.mp (show(ds.mapM (snap G n)).map Sn.tup=some sd from h);exact⟨n,ss,rfl,rfl,h1⟩
theorem snap_ref{n:Nat}{a:Addr}{sd:Sn}(h:snap G n (.ref a)=some sd):∃m ds ss,n=m+1/\sd=.lst ss/\u13 (G a)=some ds/\ds.mapM (snap G m)=some ss:=by
 cases n with
 | zero=>cases h
 | succ n =>
  obtain⟨ds,h0,h⟩:=Y6.mp (show((u13 (G a)).bind λds=>(ds.mapM (snap G n)).map Sn.lst)=some sd from h);obtain⟨ss,h1,rfl⟩:=E4.mp h;exact⟨n,ds,ss,rfl,rfl,h0,h1⟩
theorem uy5{n:Nat}{x y:Sn}(hx:u61 x=true):eqN n x y=if(u61 x&&u61 y)=true then some (eqF x y) else none:=by
 cases x with
 | tup _=>cases hx
 | lst _=>cases hx
 | non=>cases n <;> rfl
 | bl _=>cases n <;> rfl
 | int _=>cases n <;> rfl
 | str _=>cases n <;> rfl
theorem ua7{n:Nat}{x y:Sn}{b:Bool}(h:eqN n x y=some b)(fl:¬ (u61 x&&u61 y)=true):(∃m xs ys,n=m+1/\x=.tup xs/\y=.tup ys)\/(∃m xs ys,n=m+1/\x=.lst xs/\y=.lst ys):=by
 unfold eqN at h;split at h
 ·exact .inl ⟨_,_,_,rfl,rfl,rfl⟩
 ·exact .inr ⟨_,_,_,rfl,rfl,rfl⟩
 ·rw[if_neg fl] at h;cases h
theorem u79{n:Nat}{d:D}{ss:List Sn}(h:snap G n d=some (.tup ss)):∃ds,d=.tup ds:=by
 cases d with
 | tup ds=>exact⟨ds,rfl⟩
 | ref a=>obtain⟨_,_,_,_,e',_⟩:=snap_ref h;cases e'
 | _=>cases n <;> cases h
theorem u80{n:Nat}{d:D}{ss:List Sn}(h:snap G n d=some (.lst ss)):∃a,d=.ref a:=by
 cases d with
 | ref a=>exact⟨a,rfl⟩
 | tup ds=>obtain⟨_,_,_,e',_⟩:=snap_tup h;cases e'
 | _=>cases n <;> cases h
theorem uq1{n:Nat}{d e:D}{x:V}{sd se:Sn}{b:Bool}(r1:RelD X.K H d x)(r2:RelD X.K H e x)(h1:snap G n d=some sd)(h2:snap G n e=some se)(hb:eqN n sd se=some b)(fl:(u61 sd&&u61 se)=true):b=true:=by
 rw[L7] at fl;have z:=hb;rw[uy5 fl.1,if_pos (by rw[fl.1,fl.2];rfl)] at z;obtain⟨fx,k⟩:=uu4 (u:=V5) h1 fl.1 r1;rw[<- E2 z,<- k e se x h2 fl.2 r2];cases x with
 | non=>rfl
 | bl b=>exact beq_self_eq_true b
 | int i=>exact beq_self_eq_true i
 | str w=>exact beq_self_eq_true w
 | _=>cases fx
theorem v57(I:Inv X pins σ H s)(c:Con X.K G H):∀(n:Nat) (d e:D) (x:V) (sd se:Sn) (b:Bool),RelD X.K H d x->RelD X.K H e x->snap G n d=some sd->snap G n e=some se->eqN n sd se=some b->b=true:=by
 intro n
 induction n with
 | zero =>
  intro d e x sd se b r1 r2 h1 h2 hb
  by_cases fl:(u61 sd&&u61 se)=true
  ·exact uq1 r1 r2 h1 h2 hb fl
  ·rcases ua7 hb fl with⟨_,_,_,z,_⟩|⟨_,_,_,z,_⟩ <;> cases z
 | succ m ih =>
  intro d e x sd se b r1 r2 h1 h2 hb
  by_cases fl:(u61 sd&&u61 se)=true
  ·exact uq1 r1 r2 h1 h2 hb fl
  have items:∀(ds es:List D) (xs:List V) (ss ts:List Sn) (bs:List Bool),RelDs X.K H ds xs->RelDs X.K H es xs->ds.mapM (snap G m)=some ss->es.mapM (snap G m)=some ts->((ss.zip ts).mapM λp=>eqN m p.1 p.2)=some bs->bs.all id=true:=by
   intro ds es xs ss ts bs q1 q2 k1 k2 kb;rw[N0];intro b hb;obtain⟨i,hi,eb⟩:=A05.mp hb;obtain⟨l1,f1⟩:=u43 k1;obtain⟨l2,f2⟩:=u43 k2;obtain⟨l3,f3⟩:=u43 kb;have hz:(ss.zip ts).length=min ss.length ts.length:=A86;have e1:=q1.length;have e2:=q2.length;have hds:i<ds.length:=by omega
   have hes:i<es.length:=by omega
   obtain⟨y1,g1,s1⟩:=f1 i ds[i] (B6 hds);obtain⟨y2,g2,s2⟩:=f2 i es[i] (B6 hes);have hzip:(ss.zip ts)[i]?=some (y1,y2):=by rw[X6];exact⟨g1,g2⟩
   obtain⟨b',g3,s3⟩:=f3 i _ hzip;rw[B6 hi,eb] at g3;cases g3;obtain⟨z1,hz1,rz1⟩:=q1.get (B6 hds);obtain⟨z2,hz2,rz2⟩:=q2.get (B6 hes);rw[hz1] at hz2;cases hz2;exact ih ds[i] es[i] z1 y1 y2 b rz1 rz2 s1 s2 s3
  rcases ua7 hb fl with⟨m',ss,ts,em,rfl,rfl⟩|⟨m',ss,ts,em,rfl,rfl⟩
  ·cases em
   obtain⟨ds,rfl⟩:=u79 h1;obtain⟨es,rfl⟩:=u79 h2;obtain⟨_,_,em,ez,k1⟩:=snap_tup h1;cases em;cases ez;obtain⟨_,_,em,ez,k2⟩:=snap_tup h2;cases em;cases ez;obtain⟨a,xs,rfl,q1,rr1⟩:=r1.tup_inv;obtain⟨a',ys,e',q2,rr2⟩:=r2.tup_inv;cases e';have:=I.tuple_inj q1 q2;subst this;unfold eqN at hb;split at hb
   ·obtain⟨bs,kb,rfl⟩:=E4.mp hb
    exact items ds es xs ss ts bs rr1 rr2 k1 k2 kb
   ·cases hb
  ·cases em
   obtain⟨a,rfl⟩:=u80 h1;obtain⟨a',rfl⟩:=u80 h2;cases r1.ref_inv;have e':=r2.ref_inv;cases e';obtain⟨_,ds,_,em,ez,hs1,k1⟩:=snap_ref h1;cases em;cases ez;obtain⟨_,es,_,em,ez,hs2,k2⟩:=snap_ref h2;cases em;cases ez;rw[hs1] at hs2;cases hs2;rw[k1] at k2;cases k2;obtain⟨xs,_,rr⟩:=u41 c hs1;unfold eqN at hb;split at hb
   ·obtain⟨bs,kb,rfl⟩:=E4.mp hb
    exact items ds ds xs ss ss bs rr rr k1 k1 kb
   ·rename_i h;exact absurd rfl h
structure SeqPair(G:Gp)(K:W.Frag)(H:Hp)(m:Nat)(its its2:List Value)(bs:List Bool):Prop where
 len:its.length=its2.length
 bl:bs.length=its.length
 at_:∀(j:Nat) (h1:j<its.length) (h2:j<its2.length) (h3:j<bs.length),∃d e x y sd se,RelD K H d x/\RelV x its[j]/\RelD K H e y/\RelV y its2[j]/\snap G m d=some sd/\snap G m e=some se/\eqN m sd se=some bs[j]
theorem ud7{m:Nat}{ds es:List D}{xs ys:List V}{its its2:List Value}{ss ts:List Sn}{bs:List Bool}(q1:RelDs X.K H ds xs)(v1:Vals xs its)(q2:RelDs X.K H es ys)(v2:Vals ys its2)
  (k1:ds.mapM (snap G m)=some ss) (k2:es.mapM (snap G m)=some ts) (hl:ss.length=ts.length) (kb:((ss.zip ts).mapM λp=>eqN m p.1 p.2)=some bs):SeqPair G X.K H m its its2 bs:=by
 obtain⟨l1,f1⟩:=u43 k1;obtain⟨l2,f2⟩:=u43 k2;obtain⟨l3,f3⟩:=u43 kb;have hz:(ss.zip ts).length=min ss.length ts.length:=A86;have e1:=q1.length;have e2:=q2.length;have e3:=v1.length;have e4:=v2.length;refine⟨by omega,by omega,λj h1 h2 h3=>?_⟩;have hds:j<ds.length:=by omega
 have hes:j<es.length:=by omega
 obtain⟨y1,g1,s1⟩:=f1 j ds[j] (B6 hds);obtain⟨y2,g2,s2⟩:=f2 j es[j] (B6 hes);have hzip:(ss.zip ts)[j]?=some (y1,y2):=by rw[X6];exact⟨g1,g2⟩
 obtain⟨b',g3,s3⟩:=f3 j _ hzip;rw[B6 h3] at g3;cases g3;obtain⟨z1,hz1,rz1⟩:=q1.get (B6 hds);obtain⟨z2,hz2,rz2⟩:=q2.get (B6 hes);obtain⟨u1,hu1,ru1⟩:=v1.get hz1;obtain⟨u2,hu2,ru2⟩:=v2.get hz2;rw[B6 h1] at hu1;rw[B6 h2] at hu2;cases hu1;cases hu2;exact⟨ds[j],es[j],z1,z2,y1,y2,rz1,ru1,rz2,ru2,s1,s2,s3⟩
end
section
variable{X:Cx}{pins:List (Addr×Obj)}{σ:L2.St}{H:Hp}{s:Shared}{G:Gp}
theorem vb1(I:Inv X pins σ H s){n:Nat}{A:Around}{d e:D}{x y:V}{u v:Value}{sd se:Sn}{b:Bool}(r1:RelD X.K H d x)(v1:RelV x u)(r2:RelD X.K H e y)(v2:RelV y v)(h1:snap G n d=some sd)(h2:snap G n e=some se)(hb:eqN n sd se=some b)(fl:(u61 sd&&u61 se)=true):A70 A s u v b:=by
 rw[L7] at fl;have hb':b=eqF sd se:=by
  have z:=hb;rw[uy5 fl.1,if_pos (by rw[fl.1,fl.2];rfl)] at z;exact(E2 z).symm
 obtain⟨fx,k⟩:=uu4 (u:=u) h1 fl.1 r1;obtain⟨fy,_⟩:=uu4 (u:=v) h2 fl.2 r2;rw[hb',<- k e se y h2 fl.2 r2];exact vt3 v1 v2 fx fy
theorem vl9(I:Inv X pins σ H s)(c:Con X.K G H):∀(n:Nat) (A:Around) (d e:D) (x y:V) (u v:Value) (sd se:Sn) (b:Bool),RelD X.K H d x->RelV x u->RelD X.K H e y->RelV y v->snap G n d=some sd->snap G n e=some se->eqN n sd se=some b->A.units+n<cLine->A70 A s u v b:=by
 intro n
 induction n with
 | zero =>
  intro A d e x y u v sd se b r1 v1 r2 v2 h1 h2 hb hu
  by_cases fl:(u61 sd&&u61 se)=true
  ·exact vb1 I r1 v1 r2 v2 h1 h2 hb fl
  ·rcases ua7 hb fl with⟨_,_,_,z,_⟩|⟨_,_,_,z,_⟩ <;> cases z
 | succ m ih =>
  intro A d e x y u v sd se b r1 v1 r2 v2 h1 h2 hb hu
  by_cases fl:(u61 sd&&u61 se)=true
  ·exact vb1 I r1 v1 r2 v2 h1 h2 hb fl
  ·have inner:∀(its its2:List Value) (bs:List Bool),SeqPair G X.K H m its its2 bs->∀j (h1:j<its.toArray.size) (h2:j<its2.toArray.size),A70 A.in1 s its.toArray[j] its2.toArray[j] ((bs[j]?).getD true):=by
    intro its its2 bs P j h1 h2;have h1':j<its.length:=by simpa using h1
    have h2':j<its2.length:=by simpa using h2
    have h3':j<bs.length:=by rw[P.bl];exact h1'
    obtain⟨d',e',x',y',sd',se',a1,a2,a3,a4,a5,a6,a7⟩:=P.at_ j h1' h2' h3'
    rw[B6 h3'];have hu':A.in1.units+m<cLine:=by
     have:A.in1.units=A.units+1:=rfl;omega
    have:=ih A.in1 d' e' x' y' _ _ sd' se' _ a1 a2 a3 a4 a5 a6 a7 hu';simpa using this
   rcases ua7 hb fl with⟨m',ss,ts,em,rfl,rfl⟩|⟨m',ss,ts,em,rfl,rfl⟩
   ·cases em
    obtain⟨ds,rfl⟩:=u79 h1;obtain⟨es,rfl⟩:=u79 h2;obtain⟨_,_,em,ez,k1⟩:=snap_tup h1;cases em;cases ez;obtain⟨_,_,em,ez,k2⟩:=snap_tup h2;cases em;cases ez;obtain⟨a,xs,rfl,q1,rr1⟩:=r1.tup_inv;obtain⟨a',ys,rfl,q2,rr2⟩:=r2.tup_inv;cases v1;cases v2
    by_cases haa:a=a'
    ·subst haa
     rw[v57 I c (m+1) (.tup ds) (.tup es) (.ref a) _ _ b r1 r2 h1 h2 hb];exact A83 _
    ·unfold eqN at hb
     split at hb
     ·rename_i hlen
      obtain⟨bs,kb,rfl⟩:=E4.mp hb;obtain⟨its,w1,t1,_⟩:=I.tuple q1;obtain⟨its2,w2,t2,_⟩:=I.tuple q2;have P:=ud7 rr1 w1 rr2 w2 k1 k2 hlen kb;have R:=C53 (A:=A) (s:=s) (e:=λj=>(bs[j]?).getD true) (show s.heap.IsTuple a its.toArray from t1) (show s.heap.IsTuple a' its2.toArray from t2) (by omega) (inner its its2 bs P);have e1:((J6 (min its.toArray.size its2.toArray.size)).all (λj=>(bs[j]?).getD true)&&its.toArray.size==its2.toArray.size)=bs.all id:=by
       have el:its.toArray.size=its2.toArray.size:=by simpa using P.len
       rw[el,B38,beq_self_eq_true,B12];exact ul6 (by rw[<- el];simpa using P.bl) λi b hb=>by rw[hb];rfl
      rw[e1] at R;exact A34 haa R
     ·cases hb
   ·cases em
    obtain⟨a,rfl⟩:=u80 h1;obtain⟨a',rfl⟩:=u80 h2;obtain⟨_,ds,_,em,ez,hs1,k1⟩:=snap_ref h1;cases em;cases ez;obtain⟨_,es,_,em,ez,hs2,k2⟩:=snap_ref h2;cases em;cases ez;cases r1.ref_inv;cases r2.ref_inv;cases v1;cases v2
    by_cases haa:a=a'
    ·subst haa
     rw[v57 I c (m+1) (.ref a) (.ref a) (.ref a) _ _ b r1 r2 h1 h2 hb];exact A83 _
    ·obtain⟨xs,q1,rr1⟩:=u41 c hs1
     obtain⟨ys,q2,rr2⟩:=u41 c hs2;obtain⟨its,w1,t1,_⟩:=I.list q1;obtain⟨its2,w2,t2,_⟩:=I.list q2;unfold eqN at hb;split at hb
     ·rename_i hlen
      obtain⟨bs,kb,rfl⟩:=E4.mp hb;have P:=ud7 rr1 w1 rr2 w2 k1 k2 hlen kb;have el:its.toArray.size=its2.toArray.size:=by simpa using P.len
      have R:=C59 (A:=A) (s:=s) (e:=λj=>(bs[j]?).getD true) t1.isList t2.isList el (by omega) (inner its its2 bs P);have e1:((J6 its.toArray.size).all (λj=>(bs[j]?).getD true))=bs.all id :=
       ul6 (by simpa using P.bl) λi b hb=>by rw[hb];rfl
      rw[e1] at R;exact A34 haa R
     ·rename_i hlen
      cases hb;have n1:=(u43 k1).1;have n2:=(u43 k2).1;have m1:=rr1.length;have m2:=rr2.length;have m3:=w1.length;have m4:=w2.length;exact A34 haa (C04 t1.isList t2.isList (by simp;omega) (by omega))
end
def rEqD(K:W.Frag)(neg:Bool):R2:=λx y H Q=>∃(d e:D) (G:Gp) (n:Nat) (sd se:Sn) (b:Bool),RelD K H d x/\RelD K H e y/\Con K G H/\n<=40/\snap G n d=some sd/\snap G n e=some se/\eqN n sd se=some b/\u61 sd=false/\Q (.bl (if neg then !b else b)) H
section
variable{X:Cx}{k:Nat}
theorem wh7(hr:Room k X.A):OpR X (K1 .Eq) (rEqD X.K false):=by
  intro pins s σ H x y v u Q I rx ry h;obtain⟨d,e,G,n,sd,se,b,r1,r2,c,hn,h1,h2,hb,fl,q⟩:=h;have hu:=hr.units;have fin:EP X pins σ Q (.bool b) s:=⟨.bl b,H,I,rfl,q⟩
  rcases ua7 hb (λz=>by rw[fl] at z;cases z) with⟨m,ss,ts,rfl,rfl,rfl⟩|⟨m,ss,ts,rfl,rfl,rfl⟩
  · obtain⟨ds,rfl⟩:=u79 h1
    obtain⟨es,rfl⟩:=u79 h2
    · · · obtain ⟨_,ss',em,ez,k1⟩ := snap_tup h1
          cases em;cases ez;obtain⟨m',ts',em,es',k2⟩:=snap_tup h2;cases em;cases es';obtain⟨a,xs,rfl,q1,rr1⟩:=r1.tup_inv;obtain⟨a',ys,rfl,q2,rr2⟩:=r2.tup_inv;cases rx;cases ry;unfold eqN at hb;split at hb
          · rename_i hlen
            obtain⟨bs,kb,rfl⟩:=E4.mp hb;obtain⟨its,w1,t1,_⟩:=I.tuple q1;obtain⟨its2,w2,t2,_⟩:=I.tuple q2;have P:=ud7 rr1 w1 rr2 w2 k1 k2 hlen kb;refine SeqAt.eq_tupleAt (e:=λj=>(bs[j]?).getD true) (show s.heap.IsTuple a its.toArray from t1) (show s.heap.IsTuple a' its2.toArray from t2) (by omega) ?_ ?_
            · intro j h1 h2
              have h1':j<its.length:=by simpa using h1
              have h2':j<its2.length:=by simpa using h2
              have h3':j<bs.length:=by rw[P.bl];exact h1'
              obtain⟨d',e',x',y',sd',se',a1,a2,a3,a4,a5,a6,a7⟩:=P.at_ j h1' h2' h3'
              rw[B6 h3'];have:=vl9 I c m X.A.in1 d' e' x' y' _ _ sd' se' _ a1 a2 a3 a4 a5 a6 a7 (by have:X.A.in1.units=X.A.units+1:=rfl;omega);simpa using this
            · have e1 : ((List.range (min its.toArray.size its2.toArray.size)).all (fun j => (bs[j]?).getD true) && its.toArray.size == its2.toArray.size) = bs.all id := by
                have el:its.toArray.size=its2.toArray.size:=by simpa using P.len
                rw[el,B38,beq_self_eq_true,B12];exact ul6 (by rw[<- el];simpa using P.bl) λi b hb=>by rw[hb];rfl
              rw[e1];exact fin
          · cases hb
  · obtain⟨a,rfl⟩:=u80 h1
    obtain⟨a',rfl⟩:=u80 h2
    · · · obtain ⟨_,ds,ss',em,ez,hs1,k1⟩ := snap_ref h1
          cases em;cases ez;obtain⟨m',es,ts',em,es',hs2,k2⟩:=snap_ref h2;cases em;cases es';cases r1.ref_inv;cases r2.ref_inv;cases rx;cases ry;obtain⟨xs,q1,rr1⟩:=u41 c hs1;obtain⟨ys,q2,rr2⟩:=u41 c hs2;obtain⟨its,w1,t1,_⟩:=I.list q1;obtain⟨its2,w2,t2,_⟩:=I.list q2;unfold eqN at hb;split at hb
          · rename_i hlen
            obtain⟨bs,kb,rfl⟩:=E4.mp hb;have P:=ud7 rr1 w1 rr2 w2 k1 k2 hlen kb;have el:its.toArray.size=its2.toArray.size:=by simpa using P.len
            refine SeqAt.eq_listAt (e:=λj=>(bs[j]?).getD true) t1.isList t2.isList el (by omega) ?_ ?_
            · intro j h1 h2
              have h1':j<its.length:=by simpa using h1
              have h2':j<its2.length:=by simpa using h2
              have h3':j<bs.length:=by rw[P.bl];exact h1'
              obtain⟨d',e',x',y',sd',se',a1,a2,a3,a4,a5,a6,a7⟩:=P.at_ j h1' h2' h3'
              rw[B6 h3'];have:=vl9 I c m X.A.in1 d' e' x' y' _ _ sd' se' _ a1 a2 a3 a4 a5 a6 a7 (by have:X.A.in1.units=X.A.units+1:=rfl;omega);simpa using this
            · have e1 : ((List.range its.toArray.size).all (fun j => (bs[j]?).getD true)) = bs.all id :=
                ul6 (by simpa using P.bl) λi b hb=>by rw[hb];rfl
              rw[e1];exact fin
          · rename_i hlen
            cases hb;have n1:=(u43 k1).1;have n2:=(u43 k2).1;have m1:=rr1.length;have m2:=rr2.length;have m3:=w1.length;have m4:=w2.length;exact SeqAt.eq_list_lengthsAt t1.isList t2.isList (by simp;omega) (by omega) fin
theorem wh5(hr:Room k X.A):OpR X (K1 .NotEq) (rEqD X.K true):=by
  intro pins s σ H x y v u Q I rx ry h;obtain⟨d,e,G,n,sd,se,b,r1,r2,c,hn,h1,h2,hb,fl,q⟩:=h;have hu:=hr.units;have fin:EP X pins σ Q (.bool (!b)) s:=⟨.bl (!b),H,I,rfl,q⟩
  rcases ua7 hb (λz=>by rw[fl] at z;cases z) with⟨m,ss,ts,rfl,rfl,rfl⟩|⟨m,ss,ts,rfl,rfl,rfl⟩
  · obtain⟨ds,rfl⟩:=u79 h1
    obtain⟨es,rfl⟩:=u79 h2
    · · · obtain ⟨_,ss',em,ez,k1⟩ := snap_tup h1
          cases em;cases ez;obtain⟨m',ts',em,es',k2⟩:=snap_tup h2;cases em;cases es';obtain⟨a,xs,rfl,q1,rr1⟩:=r1.tup_inv;obtain⟨a',ys,rfl,q2,rr2⟩:=r2.tup_inv;cases rx;cases ry;unfold eqN at hb;split at hb
          · rename_i hlen
            obtain⟨bs,kb,rfl⟩:=E4.mp hb;obtain⟨its,w1,t1,_⟩:=I.tuple q1;obtain⟨its2,w2,t2,_⟩:=I.tuple q2;have P:=ud7 rr1 w1 rr2 w2 k1 k2 hlen kb;refine C43 (e:=λj=>(bs[j]?).getD true) (show s.heap.IsTuple a its.toArray from t1) (show s.heap.IsTuple a' its2.toArray from t2) (by omega) ?_ X.prog X.w X.xe _ ?_
            · intro j h1 h2
              have h1':j<its.length:=by simpa using h1
              have h2':j<its2.length:=by simpa using h2
              have h3':j<bs.length:=by rw[P.bl];exact h1'
              obtain⟨d',e',x',y',sd',se',a1,a2,a3,a4,a5,a6,a7⟩:=P.at_ j h1' h2' h3'
              rw[B6 h3'];have:=vl9 I c m X.A.in1 d' e' x' y' _ _ sd' se' _ a1 a2 a3 a4 a5 a6 a7 (by have:X.A.in1.units=X.A.units+1:=rfl;omega);simpa using this
            · have e1 : ((List.range (min its.toArray.size its2.toArray.size)).all (fun j => (bs[j]?).getD true) && its.toArray.size == its2.toArray.size) = bs.all id := by
                have el:its.toArray.size=its2.toArray.size:=by simpa using P.len
                rw[el,B38,beq_self_eq_true,B12];exact ul6 (by rw[<- el];simpa using P.bl) λi b hb=>by rw[hb];rfl
              rw[e1];exact fin
          · cases hb
  · obtain⟨a,rfl⟩:=u80 h1
    obtain⟨a',rfl⟩:=u80 h2
    · · · obtain ⟨_,ds,ss',em,ez,hs1,k1⟩ := snap_ref h1
          cases em;cases ez;obtain⟨m',es,ts',em,es',hs2,k2⟩:=snap_ref h2;cases em;cases es';cases r1.ref_inv;cases r2.ref_inv;cases rx;cases ry;obtain⟨xs,q1,rr1⟩:=u41 c hs1;obtain⟨ys,q2,rr2⟩:=u41 c hs2;obtain⟨its,w1,t1,_⟩:=I.list q1;obtain⟨its2,w2,t2,_⟩:=I.list q2;unfold eqN at hb;split at hb
          · rename_i hlen
            obtain⟨bs,kb,rfl⟩:=E4.mp hb;have P:=ud7 rr1 w1 rr2 w2 k1 k2 hlen kb;have el:its.toArray.size=its2.toArray.size:=by simpa using P.len
            refine C49 (e:=λj=>(bs[j]?).getD true) t1.isList t2.isList el (by omega) ?_ X.prog X.w X.xe _ ?_
            · intro j h1 h2
              have h1':j<its.length:=by simpa using h1
              have h2':j<its2.length:=by simpa using h2
              have h3':j<bs.length:=by rw[P.bl];exact h1'
              obtain⟨d',e',x',y',sd',se',a1,a2,a3,a4,a5,a6,a7⟩:=P.at_ j h1' h2' h3'
              rw[B6 h3'];have:=vl9 I c m X.A.in1 d' e' x' y' _ _ sd' se' _ a1 a2 a3 a4 a5 a6 a7 (by have:X.A.in1.units=X.A.units+1:=rfl;omega);simpa using this
            · have e1 : ((List.range its.toArray.size).all (fun j => (bs[j]?).getD true)) = bs.all id :=
                ul6 (by simpa using P.bl) λi b hb=>by rw[hb];rfl
              rw[e1];exact fin
          · rename_i hlen
            cases hb;have n1:=(u43 k1).1;have n2:=(u43 k2).1;have m1:=rr1.length;have m2:=rr2.length;have m3:=w1.length;have m4:=w2.length;exact B71 t1.isList t2.isList (by simp;omega) (by omega) X.prog X.w X.xe _ fin
end
structure FnAt(K:W.Frag)(x qual:Str)(st:Stmt)(ps:List Str) where
 a:Addr
 fd:Y0
 ex:∃(oc:Value) (od:Option Addr) (dV kV doc pm:Value) (an:Option Addr) (cdv ct:Value) (osl:Array (Option Value)),
  fd=W.fnOf x qual (u70 st) (u62 st) (u04 st) dV kV doc pm an cdv ct/\K.lookup a=some ⟨oc,od,.func fd,osl⟩/\W.codeIn K cdv qual=true
 kp:W.keepIn K (.ref a)=true
 b:Binds K fd ps []
abbrev Ok(P:Program)(w:World){K:W.Frag}(mg:Str->Option Value)(base:Heap)(n:Nat){x qual:Str}{st:Stmt}{ps:List Str}(d:FnAt K x qual st ps)(S:Sp3):Prop:=FnOk P w K mg base CX0 n d.a d.fd ps (ua9 K S)
def uo9(N:List Str)(ds:List D):DSt:=ds.map some++C2 (N.length-ds.length) none
theorem v00{K:W.Frag}{H:Hp}{N:List Str}{ds:List D}{vs:List V}(r:RelDs K H ds vs):RelSt K H (uo9 N ds) (L2.start N vs):=by
 unfold uo9 L2.start;refine⟨by simp[r.length],λi d e=>?_⟩
 by_cases hi:i<ds.length
 ·rw[E9 (by simpa using hi),F6] at e
  rw[E9 (by simpa[<- r.length] using hi),F6];cases h:ds[i]? with
  | none=>rw[h] at e;cases e
  | some d' =>
   rw[h] at e;cases e;obtain⟨v,hv,rv⟩:=r.get h;exact⟨v,by rw[hv];rfl,rv⟩
 ·rw[F0 (by simpa using hi),V2] at e
  split at e <;> cases e
section
variable{P:Program}{w:World}{K:W.Frag}{mg:Str->Option Value}{base:Heap}
theorem u14{x qual:Str}{st:Stmt}{ps N:List Str}{k:Nat}(d:FnAt K x qual st ps){S:Sp3}(sc:FnScope N ps (u04 st))(hl:∀ds G R,S ds G R->ds.length=ps.length){t:TS3}
  (ht:∀(cdv:Value) (A:Around) (outer:List Env) (s:Shared) (H:Hp) (E:XK),Room k (A.deeper (envOfC qual (u04 st) s.heap.objs.size d.a cdv))->Ss3 (cxOf CX0 P w K mg base N qual (u04 st) d.a cdv A outer s H E).nox (u62 st) t)
  (hb:∀ds G R,S ds G R->t { nx:=λ_ G'=>R .non G',rt:=R} (uo9 N ds) G):Ok P w mg base (k+1) d S:=by
 obtain⟨oc,od,dV,kV,doc,pm,an,cdv,ct,osl,e,lk,hcd⟩:=d.ex;have lk':K.lookup d.a=some ⟨oc,od,.func (W.fnOf x qual (u70 st) (u62 st) (u04 st) dV kV doc pm an cdv ct),osl⟩:=e▸lk;have F:FnOk P w K mg base CX0 (k+1) d.a (W.fnOf x qual (u70 st) (u62 st) (u04 st) dV kV doc pm an cdv ct) ps (ua9 K S):=by
  refine x25 lk' hcd sc (λvs H Q E h=>?_) λA outer s H vs Q E hr h=>?_
  ·obtain⟨ds,G,R,r,_,hS,_⟩:=h
   rw[<- r.length];exact hl ds G R hS
  ·obtain⟨ds,G,R,r,c,hS,f⟩:=h
   refine⟨_,(show PSs _ _ _ from ht cdv A outer s H E hr).nox,uo9 N ds,G,_,v00 r,c,hb ds G R hS,λσd' G' σ' H' _ c' l' q=>?_,f,λ_ _ _ _ _ _ _ q=>q.elim,λ_ _ _ _ _ _ _ q=>q.elim⟩;exact f .non G' .non H' RelD.nonI c' l' q
 have F2:=F;rw[<- e] at F2;exact F2
end
section
variable{X:Cx}{e o:Expr}{es:List Expr}{p pos apos:Pos}{ta:TE3}{ts:TA3}{k n:Nat}{S:Sp3}{x m qual:Str}{st:Stmt}{ps:List Str}{C:Addr}
theorem ec(d:FnAt X.K x qual st ps)(hm:X.mg x=some (.ref d.a))(G:FnOk X.prog X.w X.K X.mg X.base CX0 k d.a d.fd ps (ua9 X.K S))(hr:Room k X.A)(ha:A3 X (e::es) ts)(hg:Gl X x:=by rfl)(hdb:(x==("__debug__" :Str))=false:=by decide)
  (he:C5 (e::es) X.env=(false,eval e X.env)::C5 es X.env:=by rfl) (hpl:(backTo pos (C5 es X.env)).any (·.1)=false:=by rfl):E3 X (.Call (.Name x p) (e::es) [] pos) (dCall S [] ts) :=
 wr6 G hr hg hm d.kp d.b .nil (λ_=>.nil) ha hdb he hpl
theorem em{pl:Sem Bool}(c:Cls X.K C)(d:FnAt X.K m qual st ps)(hm:Meth X.K C m d.a)(G:FnOk X.prog X.w X.K X.mg X.base CX0 k d.a d.fd ps (ua9 X.K S))(hr:Room k X.A)(he:E3 X o ta)(ha:A3 X (e::es) ts)
  (hse:C5 (e::es) X.env=(false,eval e X.env)::C5 es X.env:=by rfl) (hpl:(backTo pos (C5 es X.env)).any (·.1)=false:=by rfl)
  (ht:eval (.Call (.Attribute o m apos) (e::es) [] pos) X.env=(do
   let ov <- eval o X.env
   A00 apos.atName
   let (f,first) <- holding [ov] (Y7 ov m pl)
   A38 pos f first (backTo pos (C5 (e::es) X.env)) (Q5 pos (M5 [] X.env))):=by rfl):E3 X (.Call (.Attribute o m apos) (e::es) [] pos) (ui8 C m S [] ta ts) :=
 wr3 he c hm G hr d.b .nil (λ_=>.nil) ha hse hpl ht
theorem em0{pl:Sem Bool}(c:Cls X.K C)(d:FnAt X.K m qual st ps)(hm:Meth X.K C m d.a)(G:FnOk X.prog X.w X.K X.mg X.base CX0 k d.a d.fd ps (ua9 X.K S))(hr:Room k X.A)(he:E3 X o ta)
  (ht:eval (.Call (.Attribute o m apos) [] [] pos) X.env=(do
   let ov <- eval o X.env
   A00 apos.atName
   let (f,first) <- holding [ov] (Y7 ov m pl)
   A38 pos f first (backTo pos (C5 [] X.env)) (Q5 pos (M5 [] X.env))):=by rfl):E3 X (.Call (.Attribute o m apos) [] [] pos) (ui8 C m S [] ta dNil) :=
 w66 he c hm G hr d.b .nil (λ_=>.nil) ht
end
def spec(pre:List D->Gp->Prop)(post:List D->Gp->D->Gp->Prop):Sp3:=λds G R=>pre ds G/\∀d G',post ds G d G'->R d G'
theorem v52{pre:List D->Gp->Prop}{post:List D->Gp->D->Gp->Prop}{ds:List D}{G:Gp}{q:DK}(h:pre ds G)(k:∀d G',post ds G d G'->q d G'):∃R,spec pre post ds G R/\∀d G',R d G'->q d G' :=
 ⟨post ds G,⟨h,λ_ _ z=>z⟩,k⟩
def ws5(osc:Scope)(N N':List Str)(ix:List (Option Nat))(scope:Scope):Bool :=
 (scope.kind == .function)&&scope.names.all (λy=>y.2 != .cell)&&scope.names.all (λy=>y.2 != .local||scope.names.lookup y.1==some .local) &&
 scope.names.all (λy=>y.2 != .free||osc.names.lookup y.1==some .cell||osc.names.lookup y.1==some .free)&&(ix.length==N'.length) &&
 (N'.zip ix).all (λp=>match p.2 with|none=>true|some j=>N[j]?==some p.1&&scope.names.lookup p.1==some .free)
theorem blk{X:Cx}{osc:Scope}{N N':List Str}{ix:List (Option Nat)}{scope:Scope}(h1:X.env.scope=osc)(h2:X.N=N)(h:ws5 osc N N' ix scope=true):BlkOk X N' ix scope:=by
 unfold ws5 at h;simp only[L7] at h;obtain⟨⟨⟨⟨⟨a1,a2⟩,a3⟩,a4⟩,a5⟩,a6⟩:=h;rw[N0] at a2 a3 a4 a6;refine⟨eq_of_beq a1,λy hy=>by simpa using a2 y hy,λy hy e=>?_,λy hy e=>?_,eq_of_beq a5,λi j x e1 e2=>?_⟩
 ·have:=a3 y hy
  simp only[e,bne_self_eq_false,N7] at this;exact eq_of_beq this
 ·have:=a4 y hy
  simp only[e,bne_self_eq_false,N7,Bool.or_eq_true,beq_iff_eq] at this;unfold Env.kindOf;rw[h1];exact this
 ·have hz:(N'.zip ix)[i]?=some (x,some j):=by rw[X6];exact⟨e1,e2⟩
  have:=a6 _ (J5 hz);simp only[L7,beq_iff_eq] at this;rw[h2];exact this
section
variable{X:Cx}{K:W.Frag}{H:Hp}
def uj1:RS3:=λx lo hi G q=>match x with
 | .ref a=>(match u13 (G a) with|some ds=>∀p,G p=none->q (.ref p) (gup G p (.lst (cutD ds lo hi)))|none=>False)
 | .tup ds=>¬ (HT.sIx ds.length 0 lo=0/\HT.sIx ds.length ds.length hi=ds.length)/\q (.tup (cutD ds lo hi)) G
 | _=>False
theorem x_sl:SlR X (vl0 X.K uj1):=vo6 (sl_list.or wd2) <| by
 rintro x lo hi H Q ⟨d,G,q,r1,c,t,f⟩;unfold uj1 at t;split at t
 ·rename_i a
  split at t
  ·rename_i ds e
   obtain⟨xs,s1,q1⟩:=u41 c e;exact .inl ⟨a,xs,r1.ref_inv,s1,λp hp=>f _ _ _ _ RelD.refI (c.lstNew hp (q1.cut lo hi)) (Le.fresh hp) (t p (c.fresh hp))⟩
  ·exact t.elim
 ·rename_i ds
  obtain⟨a,xs,rfl,s1,q1⟩:=r1.tup_inv;refine .inr ⟨a,xs,rfl,s1,by rw[<- q1.length];exact t.1,λp hp=>?_⟩;refine f (.tup _) G (.ref p) _ ?_ (c.side hp) (Le.fresh hp) t.2;rw[RelD];exact⟨p,_,rfl,SqT.of u30,RelDs.le (Le.fresh hp) (q1.cut lo hi)⟩
 ·exact t.elim
def xLen:C3:=λds G q=>match ds with
 | [.str z]=>z.length<=sizeLine/\q (.int z.length) G
 | [.tup xs]=>q (.int xs.length) G
 | [.ref a]=>(match u13 (G a) with|some xs=>q (.int xs.length) G|none=>False)
 | _=>False
theorem RelDs.one{d:D}{vs:List V}(h:RelDs K H [d] vs):∃v,vs=[v]/\RelD K H d v:=by
 obtain⟨x,r,rfl,h1,h2⟩:=h.inv_cons;rw[h2.inv_nil];exact⟨x,rfl,h1⟩
theorem RelDs.two{d e:D}{vs:List V}(h:RelDs K H [d,e] vs):∃v u,vs=[v,u]/\RelD K H d v/\RelD K H e u:=by
 obtain⟨x,r,rfl,h1,h2⟩:=h.inv_cons;obtain⟨y,rfl,h3⟩:=h2.one;exact⟨x,y,rfl,h1,h3⟩
theorem u77:Call3 X (.builtin "len") xLen:=u56 (call_len_seq.or us1) <| by
 rintro xs H Q ⟨ds,G,q,r,c,t,f⟩;unfold xLen at t;split at t
 ·obtain⟨v,rfl,r1⟩:=r.one
  cases r1.str_inv;exact .inr ⟨_,rfl,t.1,f _ _ _ _ RelD.intI c (Le.refl H) t.2⟩
 ·obtain⟨v,rfl,r1⟩:=r.one
  obtain⟨a,ys,rfl,s1,q1⟩:=r1.tup_inv;refine .inl ⟨a,ys,rfl,.inr s1,?_⟩;rw[<- q1.length];exact f _ _ _ _ RelD.intI c (Le.refl H) t
 ·obtain⟨v,rfl,r1⟩:=r.one
  cases r1.ref_inv;split at t
  ·rename_i ds e
   obtain⟨ys,s1,q1⟩:=u41 c e;refine .inl ⟨_,ys,rfl,.inl s1,?_⟩;rw[<- q1.length];exact f _ _ _ _ RelD.intI c (Le.refl H) t
  ·exact t.elim
 ·exact t.elim
def xAbs:C3:=λds G q=>match ds with|[.int i]=>q (.int (if i<0 then -i else i)) G|_=>False
theorem wz4:Call3 X (.builtin "abs") xAbs:=u56 vn0 <| by
 rintro xs H Q ⟨ds,G,q,r,c,t,f⟩;unfold xAbs at t;split at t
 ·obtain⟨v,rfl,r1⟩:=r.one
  cases r1.int_inv;exact⟨_,rfl,f _ _ _ _ RelD.intI c (Le.refl H) t⟩
 ·exact t.elim
def um0:C3:=λds G q=>match ds with|[.int i,.int j]=>CDiv i j/\q (.tup [.int (i / j),.int (i%j)]) G|_=>False
theorem vf1:Call3 X (.builtin "divmod") um0:=u56 uv1 <| by
 rintro xs H Q ⟨ds,G,q,r,c,t,f⟩;unfold um0 at t;split at t
 ·obtain⟨v,u,rfl,r1,r2⟩:=r.two
  cases r1.int_inv;cases r2.int_inv;refine⟨_,_,rfl,t.1,λp hp=>f (.tup _) G (.ref p) _ ?_ (c.side hp) (Le.fresh hp) t.2⟩;rw[RelD];exact⟨p,_,rfl,SqT.of u30,.cons RelD.intI (.cons RelD.intI .nil)⟩
 ·exact t.elim
def wa9:C3:=λds G q=>match ds with|[.int i,.int j]=>q (.int (if j>i then j else i)) G|_=>False
def vf2:C3:=λds G q=>match ds with|[.int i,.int j]=>q (.int (if j<i then j else i)) G|_=>False
theorem wa6(hc:X.calm=true:=by rfl):Call3 X (.builtin "min") vf2:=u56 (vd0 hc) <| by
 rintro xs H Q ⟨ds,G,q,r,c,t,f⟩;unfold vf2 at t;split at t
 ·obtain⟨v,u,rfl,r1,r2⟩:=r.two
  cases r1.int_inv;cases r2.int_inv;exact⟨_,_,rfl,f _ _ _ _ RelD.intI c (Le.refl H) t⟩
 ·exact t.elim
def uj0:C3:=λds G q=>match ds with|[.int i]=>q (.int i) G|[.bl b]=>q (.int (if b then 1 else 0)) G|_=>False
theorem ug0:Call3 X (.type "int") uj0:=u56 vd1 <| by
 rintro xs H Q ⟨ds,G,q,r,c,t,f⟩;unfold uj0 at t;split at t
 ·obtain⟨v,rfl,r1⟩:=r.one
  cases r1.int_inv;exact .inl ⟨_,rfl,f _ _ _ _ RelD.intI c (Le.refl H) t⟩
 ·obtain⟨v,rfl,r1⟩:=r.one
  cases r1.bl_inv;exact .inr ⟨_,rfl,f _ _ _ _ RelD.intI c (Le.refl H) t⟩
 ·exact t.elim
def u95:C3:=λds G q=>match ds with
 | [.tup xs]=>∀p,G p=none->q (.ref p) (gup G p (.lst xs))
 | [.ref a]=>(match u13 (G a) with|some xs=>∀p,G p=none->q (.ref p) (gup G p (.lst xs))|none=>False)
 | _=>False
theorem u53:Call3 X (.type "list") u95:=u56 us0 <| by
 rintro xs H Q ⟨ds,G,q,r,c,t,f⟩;unfold u95 at t;split at t
 ·obtain⟨v,rfl,r1⟩:=r.one
  obtain⟨a,ys,rfl,s1,q1⟩:=r1.tup_inv;exact⟨a,ys,rfl,.inr s1,λp hp=>f _ _ _ _ RelD.refI (c.lstNew hp q1) (Le.fresh hp) (t p (c.fresh hp))⟩
 ·obtain⟨v,rfl,r1⟩:=r.one
  cases r1.ref_inv;split at t
  ·rename_i ds e
   obtain⟨ys,s1,q1⟩:=u41 c e;exact⟨_,ys,rfl,.inl s1,λp hp=>f _ _ _ _ RelD.refI (c.lstNew hp q1) (Le.fresh hp) (t p (c.fresh hp))⟩
  ·exact t.elim
 ·exact t.elim
def u86:C3:=λds G q=>match ds with
 | [.tup xs]=>q (.tup xs) G
 | [.ref a]=>(match u13 (G a) with|some xs=>q (.tup xs) G|none=>False)
 | _=>False
theorem uf9:Call3 X (.type "tuple") u86:=u56 un8 <| by
 rintro xs H Q ⟨ds,G,q,r,c,t,f⟩;unfold u86 at t;split at t
 ·obtain⟨v,rfl,r1⟩:=r.one
  obtain⟨a,ys,rfl,s1,q1⟩:=r1.tup_inv;exact⟨a,ys,rfl,.inr ⟨s1,f _ _ _ _ r1 c (Le.refl H) t⟩⟩
 ·obtain⟨v,rfl,r1⟩:=r.one
  cases r1.ref_inv;split at t
  ·rename_i ds e
   obtain⟨ys,s1,q1⟩:=u41 c e;refine⟨_,ys,rfl,.inl ⟨s1,λp hp=>f (.tup _) G (.ref p) _ ?_ (c.side hp) (Le.fresh hp) t⟩⟩;rw[RelD];exact⟨p,_,rfl,SqT.of u30,RelDs.le (Le.fresh hp) q1⟩
  ·exact t.elim
 ·exact t.elim
def us9:List D->Option (List Bool)
 | []=>some []
 | .bl b::r=>(us9 r).map (b::·)
 | _=>none
theorem us8:∀{ds:List D} {bs:List Bool} {vs:List V},us9 ds=some bs->RelDs K H ds vs->vs=bs.map V.bl
 | [],bs,vs,e,r=>by cases e;rw[r.inv_nil];rfl
 | .bl b::ds,bs,vs,e,r=>by
  obtain⟨x,xs,rfl,h1,h2⟩:=r.inv_cons;obtain⟨bs',e',rfl⟩:=E4.mp (show(us9 ds).map (b::·)=some bs from e);rw[h1.bl_inv,us8 e' h2];rfl
 | .non::_,_,_,e,_=>by cases e
 | .int _::_,_,_,e,_=>by cases e
 | .str _::_,_,_,e,_=>by cases e
 | .tup _::_,_,_,e,_=>by cases e
 | .ref _::_,_,_,e,_=>by cases e
 | .ty _::_,_,_,e,_=>by cases e
def xAll:C3:=λds G q=>match ds with
 | [.ref a]=>(match u13 (G a) with|some xs=>(match us9 xs with|some bs=>q (.bl (bs.all id)) G|none=>False)|none=>False)
 | _=>False
theorem ut1(hc:X.calm=true:=by rfl):Call3 X (.builtin "all") xAll:=u56 (vm9 hc) <| by
 rintro xs H Q ⟨ds,G,q,r,c,t,f⟩;unfold xAll at t;split at t
 ·obtain⟨v,rfl,r1⟩:=r.one
  cases r1.ref_inv;split at t
  ·rename_i ds e
   obtain⟨ys,s1,q1⟩:=u41 c e;split at t
   ·rename_i bs eb
    have:=us8 eb q1;subst this;exact⟨_,bs,rfl,s1,f _ _ _ _ RelD.blI c (Le.refl H) t⟩
   ·exact t.elim
  ·exact t.elim
 ·exact t.elim
def un1(G:Gp):D->Option String
 | .non=>some "NoneType"
 | .bl _=>some "bool"
 | .int _=>some "int"
 | .str _=>some "str"
 | .ref a=>match G a with|some (.lst _)=>some "list"| some (.fro _)=>some "list"| some (.dic _)=>some "dict"| _=>none
 | _=>none
def ul8:C3:=λds G q=>match ds with
 | [x,.ty T]=>(T = "int" \/ T = "str" \/ T = "bool" \/ T = "list" \/ T = "tuple" \/ T = "dict")/\(match un1 G x with|some n=>q (.bl (subK n T)) G|none=>False)
 | _=>False
theorem uc3:Call3 X (.builtin "isinstance") ul8:=u56 uv0 <| by
 rintro xs H Q ⟨ds,G,q,r,c,t,f⟩;unfold ul8 at t;split at t
 ·rename_i d T
  obtain⟨v,u,rfl,r1,r2⟩:=r.two;rw[RelD] at r2;subst r2;obtain⟨hT,t⟩:=t;split at t
  ·rename_i n en
   refine⟨v,n,T,rfl,?_,hT,f _ _ _ _ RelD.blI c (Le.refl H) t⟩;unfold un1 at en;split at en
   ·cases r1.non_inv;cases en;rfl
   ·cases r1.bl_inv;cases en;rfl
   ·cases r1.int_inv;cases en;rfl
   ·cases r1.str_inv;cases en;rfl
   ·rename_i a
    cases r1.ref_inv;split at en
    ·rename_i xs ea;cases en;obtain⟨ys,h1,_⟩:=c _ _ ea;exact .inl ⟨rfl,.inl ⟨ys,h1⟩⟩
    ·rename_i xs ea;cases en;obtain⟨o,ys,h1,_⟩:=c _ _ ea;exact .inl ⟨rfl,.inr ⟨o,ys,h1⟩⟩
    ·rename_i xs ea;cases en;obtain⟨ys,h1,_⟩:=c _ _ ea;exact .inr (.inr ⟨rfl,ys,h1⟩)
    ·cases en
   ·cases en
  ·exact t.elim
 ·exact t.elim
theorem ub3{x:Str}{T:String}{pos:Pos}(hm:X.mg x=none)(hv:P3 x=some (.type T))(hg:Gl X x:=by rfl)(hn:x ≠ "__name__" := by decide)(hd:(x==("__debug__" :Str))=false:=by decide):E3 X (.Name x pos) (dC (.ty T)) :=
 u51 (w31 (v:=.ty T) hg hm hv rfl hn hd) λ_ _ _=>v18 λ_=>by rw[RelD]
def xIs2:R3:=λx y G q=>match y with
 | .non=>(match x with|.non=>q (.bl true) G|_=>q (.bl false) G)
 | .bl b=>(match x with|.bl c=>q (.bl (decide (c=b))) G|_=>q (.bl false) G)
 | _=>False
def ud4:R3:=λx y G q=>match y with
 | .non=>(match x with|.non=>q (.bl false) G|_=>q (.bl true) G)
 | .bl b=>(match x with|.bl c=>q (.bl (!decide (c=b))) G|_=>q (.bl true) G)
 | _=>False
theorem RelD.not_bl{d:D}{v:V}(h:RelD K H d v)(b:Bool)(n:∀c,d≠.bl c):v≠.bl b:=by
 cases d with
 | bl c=>exact absurd rfl (n c)
 | non=>rw[h.non_inv];exact λz=>nomatch z
 | int _=>rw[h.int_inv];exact λz=>nomatch z
 | str _=>rw[h.str_inv];exact λz=>nomatch z
 | ref _=>rw[h.ref_inv];exact λz=>nomatch z
 | ty _=>rw[RelD] at h;rw[h];exact λz=>nomatch z
 | tup _=>obtain⟨a,xs,e,_⟩:=h.tup_inv;rw[e];exact λz=>nomatch z
theorem un5{c b:Bool}:decide (V.bl c=V.bl b)=decide (c=b):=by cases c <;> cases b <;> rfl
theorem vf0:Op3 X (K1 .IsNot) ud4:=u96 (op_notN.or v78) <| by
 rintro x y H Q ⟨d,e,G,q,r1,r2,c,t,f⟩;unfold ud4 at t;split at t
 ·refine .inl ⟨r2.non_inv,?_⟩
  split at t
  ·rw[r1.non_inv]
   exact f _ _ _ _ RelD.blI c (Le.refl H) t
  ·rename_i hd
   rw[decide_eq_false (r1.not_non λz=>hd z)];exact f _ _ _ _ RelD.blI c (Le.refl H) t
 ·rename_i b
  refine .inr ⟨b,r2.bl_inv,?_⟩;split at t
  ·rw[r1.bl_inv,un5]
   exact f _ _ _ _ RelD.blI c (Le.refl H) t
  ·rename_i hd
   rw[decide_eq_false (r1.not_bl b λz hz=>hd z hz)];exact f _ _ _ _ RelD.blI c (Le.refl H) t
 ·exact t.elim
end
def jSeq(n:Nat)(t:TGs3):TG3:=λd σ G q=>match d with
 | .tup ds=>ds.length=n/\t ds σ G q
 | .ref a=>(match u13 (G a) with|some ds=>ds.length=n/\t ds σ G q|none=>False)
 | _=>False
def wAny(te:TE3):TI3:=λσ G r=>te σ G λx G1=>match x with
 | .ref a=>(match u13 (G1 a) with|some ds=>r ⟨ds,λG=>u13 (G a)=some ds⟩ G1|none=>False)
 | .tup ds=>r ⟨ds,λ_=>True⟩ G1
 | _=>False
section
variable{X:Cx}{es:List Expr}{e tg:Expr}{te:TE3}{pos:Pos}
theorem ur1{k n:Nat}{t:TGs3}(hc:X.calm=true)(h:Js3 X es t)(hn:(P8 es X.env).length=n:=by rfl)(hst:(P8 es X.env).findIdx? (·.1)=none:=by rfl):J3 X (.Tuple es k pos) (jSeq n t) :=
 vu3 (x09 (wf4 hc h hn hst) (w23 hc h hn hst)) λv σ H Q hh=>by
  obtain⟨d,σd,G,q,r,rs,c,t,f⟩:=hh;unfold jSeq at t;split at t
  ·rename_i ds
   obtain⟨a,xs,rfl,s,r2⟩:=r.tup_inv;exact .inl ⟨a,xs,rfl,s,by rw[<- r2.length];exact t.1,ds,σd,G,q,r2,rs,c,t.2,f⟩
  ·rename_i a
   split at t
   ·rename_i ds e
    obtain⟨xs,s,r'⟩:=u41 c e;exact .inr ⟨a,xs,r.ref_inv,s,by rw[<- r'.length];exact t.1,ds,σd,G,q,r',rs,c,t.2,f⟩
   ·exact t.elim
  ·exact t.elim
theorem u82(h:E3 X e te):I3 X tg e (wAny te):=v41 (wf3 h) λσ H R hh=>by
 obtain⟨σd,G,q,rs,c,t,f⟩:=hh;refine⟨σd,G,_,rs,c,t,λx G1 v H1 r1 c1 l1 t1=>?_⟩;split at t1
 ·rename_i a
  split at t1
  ·rename_i ds e
   obtain⟨xs,s,_⟩:=u41 c1 e;exact⟨a,r1.ref_inv,.inl ⟨⟨xs,s⟩,f _ _ _ _ v20 c1 l1 t1⟩⟩
  ·exact t1.elim
 ·rename_i ds
  obtain⟨a,xs,rfl,s,r⟩:=r1.tup_inv;exact⟨a,rfl,.inr ⟨⟨xs,s⟩,f _ _ _ _ (va2 s r) c1 l1 t1⟩⟩
 ·exact t1.elim
end
section
variable{X:Cx}{e o:Expr}{es:List Expr}{to:TE3}{ts:TA3}{apos cpos:Pos}
theorem ty_list(K:W.Frag):∀G H x v,Con K G H->RelD K H x v->tyD G "list" x->tyV K "list" v H:=by
 intro G H x v c r t;cases x with
 | ref a =>
  cases r.ref_inv;cases e:G a with
  | none=>simp[tyD,e] at t
  | some o =>
   cases o with
   | lst ds=>obtain⟨xs,s,_⟩:=u41 (ds:=ds) c (by rw[e];rfl);exact .inl ⟨rfl,xs,s⟩
   | fro ds=>obtain⟨xs,s,_⟩:=u41 (ds:=ds) c (by rw[e];rfl);exact .inl ⟨rfl,xs,s⟩
   | dic _=>simp[tyD,e] at t
   | dit _=>simp[tyD,e] at t
   | ins _ _=>simp[tyD,e] at t
   | exc _ _=>simp[tyD,e] at t
   | frd _ _=>simp[tyD,e] at t
   | tb _ _=>simp[tyD,e] at t
 | str _=>simp[tyD] at t
 | int _=>simp[tyD] at t
 | _=>exact t.elim
def ud8:M3:=λx ds G q=>match x,ds with
 | .ref a,[d]=>(match G a with|some (.lst xs)=>xs.length<sizeLine/\q .non (gup G a (.lst (xs++[d])))|_=>False)
 | _,_=>False
theorem ua8(ho:E3 X o to)(ha:A3 X (e::es) ts)(hbase:L9 o "append" X.env (eval o X.env)=eval o X.env:=by rfl)
  (hfew:((backTo cpos (C5 (e::es) X.env)).all (λx=>!x.1)&&(Q5 cpos (M5 [] X.env)).all (λx=>x.1.isSome)
   && decide ((e::es).length+([]:List Keyword).length+(if([]:List Keyword).isEmpty then 0 else 1)<30))=true:=by rfl)
  (hline:(apos.endLine==cpos.line)=true:=by rfl) (hs:C5 (e::es) X.env=(false,eval e X.env)::C5 es X.env:=by rfl) (hplain:(backTo cpos (C5 es X.env)).any (·.1)=false:=by rfl) :
  E3 X (.Call (.Attribute o "append" apos) (e::es) [] cpos) (dBM "list" ud8 to ts) :=
 u51 (vi5 V3 PySem.F.slot_list_append PySem.F.type_list_append (uo4 (r':=lowM X.K ud8) uq7 <| by
  rintro x xs H Q ⟨d,ds,G,q,r1,r2,c,t,f⟩;unfold ud8 at t;split at t
  ·rename_i a d'
   split at t
   ·rename_i ys ea
    cases r1.ref_inv;obtain⟨v,rfl,rv⟩:=r2.one;obtain⟨zs,h1,q1⟩:=c _ _ ea;exact⟨a,zs,v,rfl,rfl,h1,by rw[<- q1.length];exact t.1,f _ _ _ _ RelD.nonI (c.lstSet h1 (q1.append (.cons rv .nil))) (Le.lst h1) t.2⟩
   ·exact t.elim
  ·exact t.elim) ho ha hbase hfew hline hs hplain) λ_ _ _=>ux9 (ty_list X.K)
def ug8:M3:=λx ds G q=>match x,ds with
 | .ref a,[.ref b]=>(match G a,G b with|some (.lst xs),some (.lst ys)=>xs.length+ys.length<=sizeLine/\q .non (gup G a (.lst (xs++ys)))|_,_=>False)
 | _,_=>False
theorem uy7(ho:E3 X o to)(ha:A3 X (e::es) ts)(hbase:L9 o "extend" X.env (eval o X.env)=eval o X.env:=by rfl)
  (hfew:((backTo cpos (C5 (e::es) X.env)).all (λx=>!x.1)&&(Q5 cpos (M5 [] X.env)).all (λx=>x.1.isSome)
   && decide ((e::es).length+([]:List Keyword).length+(if([]:List Keyword).isEmpty then 0 else 1)<30))=true:=by rfl)
  (hline:(apos.endLine==cpos.line)=true:=by rfl) (hs:C5 (e::es) X.env=(false,eval e X.env)::C5 es X.env:=by rfl) (hplain:(backTo cpos (C5 es X.env)).any (·.1)=false:=by rfl) :
  E3 X (.Call (.Attribute o "extend" apos) (e::es) [] cpos) (dBM "list" ug8 to ts) :=
 u51 (vi5 V3 PySem.F.slot_list_extend PySem.F.type_list_extend (uo4 (r':=lowM X.K ug8) v83 <| by
  rintro x xs H Q ⟨d,ds,G,q,r1,r2,c,t,f⟩;unfold ug8 at t;split at t
  ·rename_i a b
   split at t
   ·rename_i ys zs ea eb
    cases r1.ref_inv;obtain⟨v,rfl,rv⟩:=r2.one;cases rv.ref_inv;obtain⟨us,h1,q1⟩:=c _ _ ea;obtain⟨ws,h2,q2⟩:=c _ _ eb;exact⟨a,b,us,ws,rfl,rfl,h1,h2,by rw[<- q1.length,<- q2.length];exact t.1,f _ _ _ _ RelD.nonI (c.lstSet h1 (q1.append q2)) (Le.lst h1) t.2⟩
   ·exact t.elim
  ·exact t.elim) ho ha hbase hfew hline hs hplain) λ_ _ _=>ux9 (ty_list X.K)
def x34:M3:=λx ds G q=>match x,ds with
 | .ref a,[]=>(match G a with|some (.lst xs)=>(match xs[xs.length-1]? with|some y=>q y (gup G a (.lst xs.dropLast))|none=>False)|_=>False)
 | _,_=>False
def ug9:M3:=λx ds G q=>match x,ds with
 | .ref a,[]=>(match G a with|some (.lst _)=>q .non (gup G a (.lst []))|_=>False)
 | _,_=>False
theorem vm0(ho:E3 X o to)(hbase:L9 o "clear" X.env (eval o X.env)=eval o X.env:=by rfl)(hline:(apos.endLine==cpos.line)=true:=by rfl):E3 X (.Call (.Attribute o "clear" apos) [] [] cpos) (dBM0 "list" ug9 to) :=
 u51 (wg5 V3 PySem.F.slot_list_clear PySem.F.type_list_clear (uo4 (r':=lowM X.K ug9) vi9 <| by
  rintro x xs H Q ⟨d,ds,G,q,r1,r2,c,t,f⟩;unfold ug9 at t;split at t
  ·rename_i a
   split at t
   ·rename_i ys ea
    cases r1.ref_inv;cases r2.inv_nil;obtain⟨zs,h1,q1⟩:=c _ _ ea;exact⟨a,zs,rfl,rfl,h1,f _ _ _ _ RelD.nonI (c.lstSet h1 .nil) (Le.lst h1) t⟩
   ·exact t.elim
  ·exact t.elim) ho hbase hline) λ_ _ _=>w49 (ty_list X.K)
end
def xEqB(neg:Bool):R3:=λx y G q=>match x,y with
 | .int i,.int j=>q (.bl (if neg then !decide (i=j) else decide (i=j))) G
 | .str i,.str j=>q (.bl (if neg then !decide (i=j) else decide (i=j))) G
 | .bl i,.bl j=>q (.bl (if neg then !decide (i=j) else decide (i=j))) G
 | .non,.non=>q (.bl (!neg)) G
 | .non,.int _=>q (.bl neg) G
 | .int _,.non=>q (.bl neg) G
 | .non,.bl _=>q (.bl neg) G
 | .bl _,.non=>q (.bl neg) G
 | .non,.str _=>q (.bl neg) G
 | .str _,.non=>q (.bl neg) G
 | .int _,.str _=>q (.bl neg) G
 | .str _,.int _=>q (.bl neg) G
 | .tup xs,.tup ys=>∃n sd se b,n<=40/\snap G n (.tup xs)=some sd/\snap G n (.tup ys)=some se/\eqN n sd se=some b/\q (.bl (if neg then !b else b)) G
 | .ref a,.ref c=>∃n sd se b,n<=40/\snap G n (.ref a)=some sd/\snap G n (.ref c)=some se/\eqN n sd se=some b/\q (.bl (if neg then !b else b)) G
 | _,_=>False
section
variable{X:Cx}{k:Nat}
theorem uz0{i j:Int}:decide (V.int i=V.int j)=decide (i=j):=by
 by_cases h:i=j
 ·subst h;simp
 ·simp[h]
theorem uy9{i j:Str}:decide (V.str i=V.str j)=decide (i=j):=by
 by_cases h:i=j
 ·subst h;simp
 ·simp[h]
theorem u92{G:Gp}{n:Nat}{xs:List D}{sd:Sn}(h:snap G n (.tup xs)=some sd):u61 sd=false:=by
 obtain⟨_,_,_,rfl,_⟩:=snap_tup h;rfl
theorem u93{G:Gp}{n:Nat}{a:Addr}{sd:Sn}(h:snap G n (.ref a)=some sd):u61 sd=false:=by
 obtain⟨_,_,_,_,rfl,_⟩:=snap_ref h;rfl
theorem x_eq(hr:Room k X.A):Op3 X (K1 .Eq) (xEqB false):=u96 (op_eq.or (wh7 hr)) <| by
 rintro x y H Q ⟨d,e,G,q,r1,r2,c,t,f⟩;have fin:∀b,q (.bl b) G->Q (.bl b) H:=λb z=>f _ _ _ _ RelD.blI c (Le.refl H) z
 unfold xEqB at t;split at t
 ·cases r1.int_inv;cases r2.int_inv;exact .inl ⟨rfl,by rw[uz0];exact fin _ t⟩
 ·cases r1.str_inv;cases r2.str_inv;exact .inl ⟨rfl,by rw[uy9];exact fin _ t⟩
 ·cases r1.bl_inv;cases r2.bl_inv;exact .inl ⟨rfl,by rw[un5];exact fin _ t⟩
 ·cases r1.non_inv;cases r2.non_inv;exact .inl ⟨rfl,fin _ t⟩
 ·cases r1.non_inv;cases r2.int_inv;exact .inl ⟨rfl,fin _ t⟩
 ·cases r1.int_inv;cases r2.non_inv;exact .inl ⟨rfl,fin _ t⟩
 ·cases r1.non_inv;cases r2.bl_inv;exact .inl ⟨rfl,fin _ t⟩
 ·cases r1.bl_inv;cases r2.non_inv;exact .inl ⟨rfl,fin _ t⟩
 ·cases r1.non_inv;cases r2.str_inv;exact .inl ⟨rfl,fin _ t⟩
 ·cases r1.str_inv;cases r2.non_inv;exact .inl ⟨rfl,fin _ t⟩
 ·cases r1.int_inv;cases r2.str_inv;exact .inl ⟨rfl,fin _ t⟩
 ·cases r1.str_inv;cases r2.int_inv;exact .inl ⟨rfl,fin _ t⟩
 ·obtain⟨n,sd,se,b,hn,h1,h2,hb,t⟩:=t
  exact .inr ⟨_,_,G,n,sd,se,b,r1,r2,c,hn,h1,h2,hb,u92 h1,fin _ t⟩
 ·obtain⟨n,sd,se,b,hn,h1,h2,hb,t⟩:=t
  exact .inr ⟨_,_,G,n,sd,se,b,r1,r2,c,hn,h1,h2,hb,u93 h1,fin _ t⟩
 ·exact t.elim
theorem x_ne(hr:Room k X.A):Op3 X (K1 .NotEq) (xEqB true):=u96 (op_ne.or (wh5 hr)) <| by
 rintro x y H Q ⟨d,e,G,q,r1,r2,c,t,f⟩;have fin:∀b,q (.bl b) G->Q (.bl b) H:=λb z=>f _ _ _ _ RelD.blI c (Le.refl H) z
 unfold xEqB at t;split at t
 ·cases r1.int_inv;cases r2.int_inv;exact .inl ⟨rfl,by rw[uz0];exact fin _ t⟩
 ·cases r1.str_inv;cases r2.str_inv;exact .inl ⟨rfl,by rw[uy9];exact fin _ t⟩
 ·cases r1.bl_inv;cases r2.bl_inv;exact .inl ⟨rfl,by rw[un5];exact fin _ t⟩
 ·cases r1.non_inv;cases r2.non_inv;exact .inl ⟨rfl,fin _ t⟩
 ·cases r1.non_inv;cases r2.int_inv;exact .inl ⟨rfl,fin _ t⟩
 ·cases r1.int_inv;cases r2.non_inv;exact .inl ⟨rfl,fin _ t⟩
 ·cases r1.non_inv;cases r2.bl_inv;exact .inl ⟨rfl,fin _ t⟩
 ·cases r1.bl_inv;cases r2.non_inv;exact .inl ⟨rfl,fin _ t⟩
 ·cases r1.non_inv;cases r2.str_inv;exact .inl ⟨rfl,fin _ t⟩
 ·cases r1.str_inv;cases r2.non_inv;exact .inl ⟨rfl,fin _ t⟩
 ·cases r1.int_inv;cases r2.str_inv;exact .inl ⟨rfl,fin _ t⟩
 ·cases r1.str_inv;cases r2.int_inv;exact .inl ⟨rfl,fin _ t⟩
 ·obtain⟨n,sd,se,b,hn,h1,h2,hb,t⟩:=t
  exact .inr ⟨_,_,G,n,sd,se,b,r1,r2,c,hn,h1,h2,hb,u92 h1,fin _ t⟩
 ·obtain⟨n,sd,se,b,hn,h1,h2,hb,t⟩:=t
  exact .inr ⟨_,_,G,n,sd,se,b,r1,r2,c,hn,h1,h2,hb,u93 h1,fin _ t⟩
 ·exact t.elim
end
section
variable{X:Cx}{e:Expr}{es:List Expr}{p pos:Pos}{ts:TA3}{k:Nat}{S:Sp3}{x m qual:Str}{st:Stmt}{ps:List Str}{C:Addr}
theorem emk{xi qi:Str}{d:FnAt X.K xi qi st ps}(M:Mk X.K C d.a)(hm:X.mg x=some (.ref C))(G:FnOk X.prog X.w X.K X.mg X.base CX0 k d.a d.fd ps (ua9 X.K S))(hr:Room (k+1) X.A)(ha:A3 X (e::es) ts)(hg:Gl X x:=by rfl)(hdb:(x==("__debug__" :Str))=false:=by decide)
  (he:C5 (e::es) X.env=(false,eval e X.env)::C5 es X.env:=by rfl) (hpl:(backTo pos (C5 es X.env)).any (·.1)=false:=by rfl):E3 X (.Call (.Name x p) (e::es) [] pos) (vc5 C S [] ts) :=
 vt4 M G hr hg hm d.b .nil (λ_=>.nil) ha hdb he hpl
end
section
variable{X:Cx}{e:Expr}{es:List Expr}{p pos:Pos}{ts:TA3}{k:Nat}{S:Sp3}{x m qual:Str}{st:Stmt}{ps:List Str}{C f:Addr}{fd:Y0}
theorem emkd{i:Int}(M:Mk X.K C f)(hm:X.mg x=some (.ref C))(hd:∃t,Binds X.K fd ps [.int i t])(G:FnOk X.prog X.w X.K X.mg X.base CX0 k f fd ps (ua9 X.K S))(hr:Room (k+1) X.A)(ha:A3 X (e::es) ts)(hg:Gl X x:=by rfl)(hdb:(x==("__debug__" :Str))=false:=by decide)
  (he:C5 (e::es) X.env=(false,eval e X.env)::C5 es X.env:=by rfl) (hpl:(backTo pos (C5 es X.env)).any (·.1)=false:=by rfl):E3 X (.Call (.Name x p) (e::es) [] pos) (vc5 C S [.int i] ts):=by
 obtain⟨t,hb⟩:=hd;exact vt4 (dvs:=[.int i]) M G hr hg hm hb (.cons ⟨t,rfl⟩ .nil) (λ_=>.cons RelD.intI .nil) ha hdb he hpl
theorem u91{i:Int}(h:∃t,X.mg x=some (.int i t))(hg:Gl X x:=by rfl)(hdb:(x==("__debug__" :Str))=false:=by decide):E3 X (.Name x pos) (dC (.int i)):=by
 obtain⟨t,h⟩:=h;exact wr5 hg h (v:=.int i) ⟨t,rfl⟩ (λ_=>RelD.intI) hdb
end
theorem u89{c A B:Prop}[Decidable c](h1:c->A)(h2:¬ c->B):if decide c=true then A else B:=by
 by_cases h:c
 ·simpa[h] using h1 h
 ·simpa[h] using h2 h
theorem u36{xs:List D}:u13 (some (.lst xs))=some xs:=rfl
theorem v55{xs:List D}:u13 (some (.fro xs))=some xs:=rfl
theorem vn3{α:Type}{x:α}{xs:List α}:atI (x::xs) 0=some x:=u72 (j:=0) rfl
theorem vn2{α:Type}{x y:α}{xs:List α}:atI (x::y::xs) 1=some y:=u72 (j:=1) rfl
theorem w85{α:Type}{x y z:α}{xs:List α}:atI (x::y::z::xs) 2=some z:=u72 (j:=2) rfl
theorem w84{α:Type}{x y z u:α}{xs:List α}:atI (x::y::z::u::xs) 3=some u:=u72 (j:=3) rfl
theorem x31{α:Type}{x y z u v:α}{xs:List α}:atI (x::y::z::u::v::xs) 4=some v:=u72 (j:=4) rfl
theorem wq1:ixN 3 0=some 0:=rfl
theorem wq0:ixN 3 1=some 1:=rfl
theorem wp9:ixN 3 2=some 2:=rfl
theorem wq3:ixN 2 0=some 0:=rfl
theorem wq2:ixN 2 1=some 1:=rfl
theorem uy3{n j:Nat}(h:j<n):ixN n (j:Int)=some j:=by
 unfold ixN;rw[if_pos (by omega),if_pos (by omega)];simp
theorem w55{n:Nat}{i:Int}(h0:0<=i)(h:i<n):ixN n i=some i.toNat:=by
 unfold ixN;rw[if_pos h0,if_pos h]
theorem uv3{α:Type}{xs:List α}{i:Int}(h0:0<=i)(h:i<xs.length):atI xs i=some (xs[i.toNat]'(by omega)):=by
 unfold atI;rw[w55 h0 h];exact B6 _
theorem w83{α β:Type}{f:α->β}{xs:List α}{i:Int}(h0:0<=i)(h:i<xs.length):atI (xs.map f) i=some (f (xs[i.toNat]'(by omega))):=by
 rw[uv3 h0 (by simpa using h)];simp
theorem ud1{i j:Int}(h0:0<=i)(h:i<18446744073709551616):CMul i j:=.inl ⟨by omega,by omega⟩
theorem x33{j:Int}(h0:0<=j)(h:j<=1000):CPow 2 j:=⟨h0,by omega,by decide⟩
theorem ws1{j:Int}(h0:0<=j)(h:j<=1000):CPow 1 j:=⟨h0,by omega,by decide⟩
end L3
namespace L3
theorem u31{S:Sp3}{ds:List D}{G G1:Gp}{v:D}{q:DK}(h:∀R:DK,R v G1->S ds G R)(k:q v G1):∃R,S ds G R/\∀d G',R d G'->q d G' :=
 ⟨λd G'=>d=v/\G'=G1,h _ ⟨rfl,rfl⟩,λ_ _ ⟨e1,e2⟩=>by subst e1;subst e2;exact k⟩
theorem u48{S:Sp3}{ds:List D}{G:Gp}{post:DK}{q:DK}(h:∀R:DK,(∀d G',post d G'->R d G')->S ds G R)(k:∀d G',post d G'->q d G'):∃R,S ds G R/\∀d G',R d G'->q d G' :=
 ⟨post,h _ λ_ _ z=>z,k⟩
theorem u54{ok:Gp->Prop}{g:TG3}{tb:TS3}{E:Ends3}(I:List D->DSt->Gp->Prop){items:List D}{σ:DSt}{G:Gp}(h0:I items σ G)(nil:∀σ G,I [] σ G->ok G/\E.nx σ G)
  (cons:∀x r σ G,I (x::r) σ G->(∀σ' G',I r σ' G'->forL ok g tb E r σ' G')->ok G/\g x σ G λσ1 G1=>tb { E with nx:=forL ok g tb E r,ct:=forL ok g tb E r,bk:=E.nx} σ1 G1):forL ok g tb E items σ G:=by
 induction items generalizing σ G with
 | nil=>exact nil σ G h0
 | cons x r ih=>exact cons x r σ G h0 λσ' G' h=>ih h
theorem u28{ok:Gp->Prop}{g:TG3}{tc:TT3}{te:TE3}{p:PySem.Addr}{q:DK}(I:List D->DSt->Gp->Prop){items:List D}{σ:DSt}{G:Gp}(h0:I items σ G)(nil:∀σ G,I [] σ G->ok G/\q (.ref p) G)
  (cons:∀x r σ G,I (x::r) σ G->(∀σ' G',I r σ' G'->ui9 ok g tc te p q r σ' G')->ok G/\g x σ G λσ2 G2=>tc σ2 G2 λb G3 =>
   if b=true then te σ2 G3 λd G4=>(match G4 p with|some (.lst ys)=>ys.length<PySem.sizeLine/\ui9 ok g tc te p q r σ2 (gup G4 p (.lst (ys++[d])))|_=>False)
   else ui9 ok g tc te p q r σ2 G3):ui9 ok g tc te p q items σ G:=by
 induction items generalizing σ G with
 | nil=>exact nil σ G h0
 | cons x r ih=>exact cons x r σ G h0 λσ' G' h=>ih h
theorem v40{c:TT3}{tb:TS3}{E:Ends3}(I:Nat->DSt->Gp->Prop){m:Nat}{σ:DSt}{G:Gp}(h0:I m σ G)
  (step:∀m σ G N,I m σ G->(∀σ' G' m',m=m'+1->I m' σ' G'->N σ' G')->c σ G λb G1=>if b=true then tb { E with nx:=N,ct:=N,bk:=E.nx} σ G1 else E.nx σ G1):vc4 c tb E σ G:=by
 refine⟨m+1,?_⟩
 induction m generalizing σ G with
 | zero=>exact step 0 σ G (whN c tb E 0) h0 λσ' G' m' e=>absurd e (by omega)
 | succ m ih=>exact step (m+1) σ G (whN c tb E (m+1)) h0 λσ' G' m' e h=>ih (by cases e;exact h)
end L3
namespace L3
open PySem
theorem ut2:(("add" :Str) = "turn")=False:=eq_false (by decide)
theorem up9:(("add" :Str) = "go")=False:=eq_false (by decide)
theorem ut3:(("add" :Str) = "come")=False:=eq_false (by decide)
theorem up4:(("take" :Str) = "turn")=False:=eq_false (by decide)
theorem uj6:(("take" :Str) = "go")=False:=eq_false (by decide)
theorem up5:(("take" :Str) = "come")=False:=eq_false (by decide)
theorem uj5:(("turn" :Str) = "go")=False:=eq_false (by decide)
theorem up3:(("turn" :Str) = "come")=False:=eq_false (by decide)
theorem up6:(("swap" :Str) = "turn")=False:=eq_false (by decide)
theorem uj7:(("swap" :Str) = "go")=False:=eq_false (by decide)
theorem up7:(("swap" :Str) = "come")=False:=eq_false (by decide)
theorem uj8:(("go" :Str) = "turn")=False:=eq_false (by decide)
theorem v02:(("go" :Str) = "swap")=False:=eq_false (by decide)
theorem ue3:(("come" :Str) = "turn")=False:=eq_false (by decide)
theorem up8:(("come" :Str) = "swap")=False:=eq_false (by decide)
theorem v03:(("come" :Str) = "go")=False:=eq_false (by decide)
end L3
namespace Rw
open PySem PyProof.Rows L2 L3
inductive Opd where
 | num (n:Int)|box (y:Nat)
 deriving DecidableEq
inductive Row where
 | add (x:Nat) (o:Opd)|take (x:Nat) (o:Opd)|turn (x i:Nat) (cs:List (Nat×Nat))|swap (x y:Nat)|go (x:Nat) (n:Int) (k:Nat)|come (x:Nat) (n:Int) (k:Nat)
 deriving DecidableEq
def Opd.d:Opd->D
 | .num n=>.tup [.str "num",.int n]
 | .box y=>.tup [.str "box",.int (y:Int)]
def cd(c:Nat×Nat):D:=.tup [.int (c.1:Int),.int (c.2:Int)]
def Row.d:Row->D
 | .add x o=>.tup [.str "add",.int (x:Int),o.d]
 | .take x o=>.tup [.str "take",.int (x:Int),o.d]
 | .turn x i cs=>.tup [.str "turn",.int (x:Int),.int (i:Int),.tup (cs.map cd)]
 | .swap x y=>.tup [.str "swap",.int (x:Int),.int (y:Int)]
 | .go x n k=>.tup [.str "go",.int (x:Int),.int n,.int (k:Int)]
 | .come x n k=>.tup [.str "come",.int (x:Int),.int n,.int (k:Int)]
def Opd.ok(sz x:Nat):Opd->Prop
 | .num n=>0<=n/\n<4294967296
 | .box y=>y<sz/\y≠x
def Row.ok(sz:Nat):Row->Prop
 | .add x o=>x<sz/\o.ok sz x
 | .take x o=>x<sz/\o.ok sz x
 | .turn x i cs=>x<sz/\i<32/\cs.length<=2/\∀c∈cs,c.1<sz/\c.1≠x/\c.2<32
 | .swap x y=>x<sz/\y<sz/\y≠x
 | .go x n _=>x<sz/\0<=n/\n<4294967296
 | .come x n _=>x<sz/\0<=n/\n<4294967296
def Row.plain:Row->Bool
 | .go _ _ _=>false
 | .come _ _ _=>false
 | _=>true
def gt(bs:List Int)(x:Nat):Int:=bs.getD x 0
def bit(v:Int)(j:Nat):Int:=v / 2^j%2
def flp(v:Int)(i:Nat):Int:=v+2^i*(1-2*bit v i)
def val(bs:List Int):Opd->Int
 | .num n=>n
 | .box y=>gt bs y
def con(bs:List Int)(cs:List (Nat×Nat)):Bool:=cs.all λc=>!decide (bit (gt bs c.1) c.2=0)
def stp(s:Int)(bs:List Int):Row->List Int
 | .add x o=>bs.set x ((gt bs x+s*val bs o)%4294967296)
 | .take x o=>bs.set x ((gt bs x-s*val bs o)%4294967296)
 | .turn x i cs=>if con bs cs=true then bs.set x (flp (gt bs x) i) else bs
 | .swap x y=>(bs.set x (gt bs y)).set y (gt bs x)
 | .go _ _ _=>bs
 | .come _ _ _=>bs
structure BsOk(sz:Nat)(bs:List Int):Prop where
 len:bs.length=sz
 rng:∀v∈bs,0<=v/\v<4294967296
theorem ur3{bs:List Int}{x:Nat}(h:x<bs.length):gt bs x=bs[x]:=by unfold gt;rw[L4,B6 h];rfl
theorem ul1{sz:Nat}{bs:List Int}{x:Nat}(h:BsOk sz bs)(hx:x<sz):0<=gt bs x/\gt bs x<4294967296:=by
 rw[ur3 (by rw[h.len];exact hx)];exact h.rng _ (P7 _)
theorem u84{bs:List Int}{x y:Nat}{v:Int}(h:x<bs.length):gt (bs.set x v) y=if y=x then v else gt bs y:=by
 unfold gt;rw[L4,L4,Z0]
 by_cases e:x=y
 ·subst e;simp[h]
 ·rw[if_neg e,if_neg (D6 e)]
theorem u52{bs:List Int}{x:Nat}(h:x<bs.length):atI (bs.map D.int) (x:Int)=some (.int (gt bs x)):=by
 rw[u72 (v:=.int (gt bs x))];rw[F6,B6 h,ur3 h];rfl
theorem ua2{bs:List Int}{x:Nat}(h:x<bs.length):ixN (bs.map D.int).length (x:Int)=some x:=uy3 (by simpa using h)
theorem setm{bs:List Int}{x:Nat}{v:Int}:(bs.map D.int).set x (.int v)=(bs.set x v).map D.int:=by rw[B39]
theorem ue2{rs:List Row}{x:Nat}{r:Row}(h:rs[x]?=some r):atI (rs.map Row.d) (x:Int)=some r.d:=u72 (by rw[F6,h];rfl)
theorem v36{v:Int}{i:Nat}:X0 v (1*2^i)=flp v i:=by
 rw[A98,bitXor_and,W.kbt_bit];unfold flp bit;rw[C29,A96,C14 (2^i) (2*(v / 2^i%2)),Int.mul_assoc 2 (v / 2^i%2) (2^i)];omega
theorem vd7{v:Int}{j:Nat}:V1 (v / 2^j) 1=bit v j:=by rw[bitAnd_m1];rfl
theorem ul5(v:Int)(j:Nat):bit v j=0\/bit v j=1:=by unfold bit;omega
theorem pow_pos(i:Nat):(0:Int)<2^i:=Int.pow_pos (by decide)
theorem v51(v:Int)(i:Nat):∃a r:Int,v=2^i*(2*a+bit v i)+r/\0<=r/\r<2^i:=by
 refine⟨v / 2^i / 2,v%2^i,?_,Y3 _ (C15 (pow_pos i)),V8 _ (pow_pos i)⟩;have h1:=Int.mul_ediv_add_emod v (2^i);have h2:2*(v / 2^i / 2)+bit v i=v / 2^i:=by unfold bit;omega
 rw[h2];omega
theorem wr8{a r p:Int}(hp:0<p)(h0:0<=r)(h1:r<p):(p*a+r) / p=a:=by
 rw[Int.add_comm,Int.add_mul_ediv_left _ _ (C15 hp),Int.ediv_eq_zero_of_lt h0 h1];omega
theorem vt0(v:Int)(i:Nat):∃a r:Int,v=2^i*(2*a+bit v i)+r/\flp v i=2^i*(2*a+(1-bit v i))+r/\0<=r/\r<2^i:=by
 obtain⟨a,r,h,h0,h1⟩:=v51 v i;refine⟨a,r,h,?_,h0,h1⟩;have e:flp v i=v+2^i*(1-2*bit v i):=rfl;rw[e]
 rcases ul5 v i with hb|hb
 ·rw[hb] at h⊢
  have:(2:Int)^i*(1-2*0)=2^i:=by omega
  have e2:(2:Int)^i*(2*a+(1-0))=2^i*(2*a+0)+2^i:=by rw[A99,A99];omega
  omega
 ·rw[hb] at h⊢
  have:(2:Int)^i*(1-2*1)=- 2^i:=by omega
  have e2:(2:Int)^i*(2*a+1)=2^i*(2*a+(1-1))+2^i:=by rw[A99,A99];omega
  omega
theorem w81(v:Int)(i:Nat):bit (flp v i) i=1-bit v i:=by
 obtain⟨a,r,h,e,h0,h1⟩:=vt0 v i
 show flp v i / 2^i%2=_
 rw[e,wr8 (pow_pos i) h0 h1]
 rcases ul5 v i with hb|hb <;> rw[hb] <;> omega
theorem w63(v:Int)(i:Nat):flp (flp v i) i=v:=by
 have e:flp (flp v i) i=flp v i+2^i*(1-2*bit (flp v i) i):=rfl;rw[e,w81];have e2:flp v i=v+2^i*(1-2*bit v i):=rfl;rw[e2];have:(1-2*(1-bit v i))=-(1-2*bit v i):=by omega
 rw[this,Int.mul_neg];omega
theorem w61{v:Int}{i:Nat}(hi:i<32)(h0:0<=v)(h1:v<4294967296):0<=flp v i/\flp v i<4294967296:=by
 obtain⟨a,r,h,e,r0,r1⟩:=vt0 v i;have hp:=pow_pos i;have ha:0<=a:=by
  by_cases q:0<=a
  ·exact q
  ·have:(2:Int)^i*(2*a+bit v i)<=2^i*(-1):=V4 (by rcases ul5 v i with hb|hb <;> omega) (A71 hp)
   omega
 have hq:(4294967296:Int)=2^i*(2*2^(31-i)):=by
  have e1:(2:Int)*2^(31-i)=2^(32-i):=by
   rw[C14,<- Int.pow_succ];congr 1;omega
  rw[e1,<- Int.pow_add];have:i+(32-i)=32:=by omega
  rw[this];rfl
 have ha2:a<2^(31-i):=by
  by_cases q:a<2^(31-i)
  ·exact q
  ·have:(2:Int)^i*(2*2^(31-i))<=2^i*(2*a+bit v i):=V4 (by rcases ul5 v i with hb|hb <;> omega) (A71 hp)
   omega
 rw[e]
 constructor
 ·have:0<=(2:Int)^i*(2*a+(1-bit v i)):=Int.mul_nonneg (A71 hp) (by rcases ul5 v i with hb|hb <;> omega)
  omega
 ·have:(2:Int)^i*(2*a+(1-bit v i))<=2^i*(2*2^(31-i)-1):=V4 (by rcases ul5 v i with hb|hb <;> omega) (A71 hp)
  rw[C29,<- hq] at this;omega
theorem v50{s:Int}{sz:Nat}{bs:List Int}{r:Row}(h:BsOk sz bs)(hr:r.ok sz):BsOk sz (stp s bs r):=by
 have setOk:∀{cs:List Int} {x:Nat} {v:Int},BsOk sz cs->0<=v->v<4294967296->BsOk sz (cs.set x v):=λ{cs x v} h h0 h1 =>
  ⟨by rw[J0];exact h.len,λu hu=>by
   rcases N1 hu with q|q
   ·exact h.rng u q
   ·subst q;exact⟨h0,h1⟩⟩
 cases r with
 | add x o=>exact setOk h (Y3 _ (by decide)) (V8 _ (by decide))
 | take x o=>exact setOk h (Y3 _ (by decide)) (V8 _ (by decide))
 | turn x i cs =>
  show BsOk sz (if con bs cs=true then bs.set x (flp (gt bs x) i) else bs)
  split
  ·obtain⟨hx,hi,_⟩:=hr
   obtain⟨a,b⟩:=ul1 h hx;obtain⟨c,d⟩:=w61 hi a b;exact setOk h c d
  ·exact h
 | swap x y =>
  obtain⟨hx,hy,_⟩:=hr;obtain⟨a,b⟩:=ul1 h hx;obtain⟨c,d⟩:=ul1 h hy;exact setOk (setOk h c d) a b
 | go _ _ _=>exact h
 | come _ _ _=>exact h
theorem ud6{bs:List Int}{x:Nat}(h:x<bs.length):bs.set x (gt bs x)=bs:=by
 rw[ur3 h,List.set_getElem_self]
theorem uw2{s:Int}(hs:s=1\/s=-1){sz:Nat}{bs:List Int}{r:Row}(h:BsOk sz bs)(hr:r.ok sz):stp (-s) (stp s bs r) r=bs:=by
 have hl:=h.len;cases r with
 | add x o =>
  obtain⟨hx,ho⟩:=hr;have hv:val (bs.set x ((gt bs x+s*val bs o)%4294967296)) o=val bs o:=by
   cases o with
   | num n=>rfl
   | box y=>show gt _ y=gt bs y;rw[u84 (by omega),if_neg ho.2]
  show(bs.set x _).set x ((gt (bs.set x _) x+-s*val (bs.set x _) o)%4294967296)=bs
  rw[hv,u84 (by omega),if_pos rfl,A28];have hg:=ul1 h hx;have e:((gt bs x+s*val bs o)%4294967296+-s*val bs o)%4294967296=gt bs x:=by
   rw[C30];omega
  rw[e,ud6 (by omega)]
 | take x o =>
  obtain⟨hx,ho⟩:=hr;have hv:val (bs.set x ((gt bs x-s*val bs o)%4294967296)) o=val bs o:=by
   cases o with
   | num n=>rfl
   | box y=>show gt _ y=gt bs y;rw[u84 (by omega),if_neg ho.2]
  show(bs.set x _).set x ((gt (bs.set x _) x - -s*val (bs.set x _) o)%4294967296)=bs
  rw[hv,u84 (by omega),if_pos rfl,A28];have hg:=ul1 h hx;have e:((gt bs x-s*val bs o)%4294967296 - -s*val bs o)%4294967296=gt bs x:=by
   rw[C30];omega
  rw[e,ud6 (by omega)]
 | turn x i cs =>
  obtain⟨hx,hi,_,hc⟩:=hr
  show(if con (if con bs cs=true then bs.set x (flp (gt bs x) i) else bs) cs=true then _ else _)=bs
  by_cases hb:con bs cs=true
  ·have hb2:con (bs.set x (flp (gt bs x) i)) cs=true:=by
    unfold con at hb⊢;rw[N0] at hb⊢;intro c hcm;rw[u84 (by omega),if_neg (hc c hcm).2.1];exact hb c hcm
   show(if con (if con bs cs=true then bs.set x (flp (gt bs x) i) else bs) cs=true then(if con bs cs=true then bs.set x (flp (gt bs x) i) else bs).set x (flp (gt (if con bs cs=true then bs.set x (flp (gt bs x) i) else bs) x) i) else(if con bs cs=true then bs.set x (flp (gt bs x) i) else bs))=bs
   rw[if_pos hb,if_pos hb2,u84 (by omega),if_pos rfl,A28,w63,ud6 (by omega)]
  ·show(if con (if con bs cs=true then bs.set x (flp (gt bs x) i) else bs) cs=true then(if con bs cs=true then bs.set x (flp (gt bs x) i) else bs).set x (flp (gt (if con bs cs=true then bs.set x (flp (gt bs x) i) else bs) x) i) else(if con bs cs=true then bs.set x (flp (gt bs x) i) else bs))=bs
   rw[if_neg hb,if_neg hb]
 | swap x y =>
  obtain⟨hx,hy,hne⟩:=hr
  show(((bs.set x (gt bs y)).set y (gt bs x)).set x (gt ((bs.set x (gt bs y)).set y (gt bs x)) y)).set y (gt ((bs.set x (gt bs y)).set y (gt bs x)) x)=bs
  rw[u84 (by rw[J0];omega),if_pos rfl,u84 (by rw[J0];omega),if_neg (D6 hne),u84 (by omega),if_pos rfl];rw[A47 _ _ hne,A28,A47 _ _ (D6 hne)];have e1:(bs.set x (gt bs y)).set x (gt bs x)=bs:=by rw[A28,ud6 (by omega)]
  rw[A47 _ _ hne] at *
  first
   | (rw[e1];exact ud6 (by omega))
   | (rw[A47 _ _ (D6 hne),e1];exact ud6 (by omega))
 | go _ _ _=>rfl
 | come _ _ _=>rfl
end Rw
namespace Rw
open PySem L2 L3
theorem uj4{G:Gp}:∀ks:List Int,(ks.map D.int).mapM (snap G 0)=some (ks.map Sn.int)
 | []=>rfl
 | k::ks=>by
  rw[C8,L0,uj4 ks];rfl
theorem up0{G:Gp}{a:Addr}{ks:List Int}(h:u13 (G a)=some (ks.map .int)):snap G 1 (.ref a)=some (.lst (ks.map .int)):=by
 show((u13 (G a)).bind λds=>(ds.mapM (snap G 0)).map Sn.lst)=_
 rw[h,X3,uj4];rfl
theorem vt1:∀ks ms:List Int,ks.length=ms.length->∃bs,(((ks.map Sn.int).zip (ms.map Sn.int)).mapM λp=>eqN 0 p.1 p.2)=some bs/\bs.all id=decide (ks=ms)
 | [],[],_=>⟨[],rfl,rfl⟩
 | [],_::_,h=>by simp at h
 | _::_,[],h=>by simp at h
 | k::ks,m::ms,h=>by
  obtain⟨bs,e,q⟩:=vt1 ks ms (by simpa using h);refine⟨(k==m)::bs,?_,?_⟩
  ·rw[C8,C8,O5,L0,e]
   rfl
  ·rw[U6,q]
   by_cases hk:k=m
   ·subst hk;simp
   ·simp[hk]
theorem w65{ks ms:List Int}:eqN 1 (.lst (ks.map .int)) (.lst (ms.map .int))=some (decide (ks=ms)):=by
 show(if(ks.map Sn.int).length=(ms.map Sn.int).length then(((ks.map Sn.int).zip (ms.map Sn.int)).mapM λp=>eqN 0 p.1 p.2).map (λbs=>bs.all id) else some false)=_
 by_cases h:ks.length=ms.length
 ·rw[if_pos (by simpa using h)]
  obtain⟨bs,e,q⟩:=vt1 ks ms h;rw[e,A87,q]
 ·rw[if_neg (by simpa using h)]
  have:ks≠ms:=λe=>h (by rw[e])
  simp[this]
theorem uz1{G:Gp}{a b:Addr}{ks ms:List Int}{Q:Bool->Prop}(h1:u13 (G a)=some (ks.map .int))(h2:u13 (G b)=some (ms.map .int))(h:Q (decide (ks=ms))) :
  ∃n sd se r,n<=40/\snap G n (.ref a)=some sd/\snap G n (.ref b)=some se/\eqN n sd se=some r/\Q r :=
 ⟨1,_,_,_,by decide,up0 h1,up0 h2,w65,h⟩
theorem u33(lo:Int)(n:Nat):rngD lo (n+1)=.int lo::rngD (lo+1) n:=by
 unfold rngD;rw[List.range_succ_eq_map,C8,A72]
 congr 1
 ·simp
 ·apply P6
  intro i _
  show D.int _=D.int _
  congr 1
  simp;omega
structure Grow(G G':Gp):Prop where
 kp:∀b o,G b=some o->G' b=some o
theorem Grow.refl{G:Gp}:Grow G G:=⟨λ_ _ h=>h⟩
theorem Grow.trans{G G1 G2:Gp}(a:Grow G G1)(b:Grow G1 G2):Grow G G2:=⟨λc o h=>b.kp c o (a.kp c o h)⟩
theorem Grow.new{G G1:Gp}{p:Addr}{o:DO}(a:Grow G G1)(h:G1 p=none):Grow G (gup G1 p o):=⟨λb u e=>by rw[u06 (gne (a.kp b u e) h)];exact a.kp b u e⟩
theorem Grow.own{G G1:Gp}{p:Addr}{o:DO}(a:Grow G G1)(h:G p=none):Grow G (gup G1 p o):=⟨λb u e=>by rw[u06 (gne e h)];exact a.kp b u e⟩
theorem Grow.none{G G1:Gp}{p:Addr}(a:Grow G G1)(h:G1 p=none):G p=none:=by
 cases e:G p with
 | none=>rfl
 | some o=>rw[a.kp p o e] at h;cases h
end Rw
namespace L3
open PySem
abbrev nS(a b:Str):Prop:=(a=b)=False
abbrev nB(a b:Str):Prop:=(a==b)=false
theorem u24:nS "add" "take" /\ nS "add" "turn" /\ nS "add" "swap" /\ nS "add" "go" /\ nS "add" "come" /\ nS "add" "box" /\ nS "add" "num" /\ nS "take" "add" /\ nS "take" "turn" /\ nS "take" "swap" /\ nS "take" "go" /\ nS "take" "come" /\ nS "take" "box" /\ nS "take" "num" /\ nS "turn" "add" /\ nS "turn" "take" /\ nS "turn" "swap" /\ nS "turn" "go" /\ nS "turn" "come" /\ nS "turn" "box" /\ nS "turn" "num" /\ nS "swap" "add" /\ nS "swap" "take" /\ nS "swap" "turn" /\ nS "swap" "go" /\ nS "swap" "come" /\ nS "swap" "box" /\ nS "swap" "num" /\ nS "go" "add" /\ nS "go" "take" /\ nS "go" "turn" /\ nS "go" "swap" /\ nS "go" "come" /\ nS "go" "box" /\ nS "go" "num" /\ nS "come" "add" /\ nS "come" "take" /\ nS "come" "turn" /\ nS "come" "swap" /\ nS "come" "go" /\ nS "come" "box" /\ nS "come" "num" /\ nS "box" "add" /\ nS "box" "take" /\ nS "box" "turn" /\ nS "box" "swap" /\ nS "box" "go" /\ nS "box" "come" /\ nS "box" "num" /\ nS "num" "add" /\ nS "num" "take" /\ nS "num" "turn" /\ nS "num" "swap" /\ nS "num" "go" /\ nS "num" "come" /\ nS "num" "box" := by(repeat' apply C60) <;> first|exact eq_false (by decide)|decide
theorem ub0:nS "rows" "held" /\ nS "rows" "spot" /\ nS "held" "rows" /\ nS "held" "spot" /\ nS "spot" "rows" /\ nS "spot" "held" /\ nS "place" "rows" /\ nS "place" "held" /\ nS "place" "spot" /\ nS "boxes" "rows" /\ nS "boxes" "held" /\ nS "boxes" "spot" /\ nS "forth" "rows" /\ nS "forth" "held" /\ nS "forth" "spot" /\ nS "back" "rows" /\ nS "back" "held" /\ nS "back" "spot" /\ nS "at_end" "rows" /\ nS "at_end" "held" /\ nS "at_end" "spot" /\ nS "at_begin" "rows" /\ nS "at_begin" "held" /\ nS "at_begin" "spot" /\ nS "may_forth" "rows" /\ nS "may_forth" "held" /\ nS "may_forth" "spot" /\ nS "may_back" "rows" /\ nS "may_back" "held" /\ nS "may_back" "spot" /\ nB "rows" "held" /\ nB "rows" "spot" /\ nB "held" "rows" /\ nB "held" "spot" /\ nB "spot" "rows" /\ nB "spot" "held" /\ nB "place" "rows" /\ nB "place" "held" /\ nB "place" "spot" /\ nB "boxes" "rows" /\ nB "boxes" "held" /\ nB "boxes" "spot" /\ nB "forth" "rows" /\ nB "forth" "held" /\ nB "forth" "spot" /\ nB "back" "rows" /\ nB "back" "held" /\ nB "back" "spot" /\ nB "at_end" "rows" /\ nB "at_end" "held" /\ nB "at_end" "spot" /\ nB "at_begin" "rows" /\ nB "at_begin" "held" /\ nB "at_begin" "spot" /\ nB "may_forth" "rows" /\ nB "may_forth" "held" /\ nB "may_forth" "spot" /\ nB "may_back" "rows" /\ nB "may_back" "held" /\ nB "may_back" "spot" := by(repeat' apply C60) <;> first|exact eq_false (by decide)|decide
end L3
namespace L3
open PySem PySem.Spec PyProof.Rows L2
theorem wa4:(∀i j G q,xEqB false (.int i) (.int j) G q=q (.bl (decide (i=j))) G)/\(∀i j G q,xEqB true (.int i) (.int j) G q=q (.bl (!decide (i=j))) G) /\
  (∀i j G q,xEqB false (.str i) (.str j) G q=q (.bl (decide (i=j))) G)/\(∀i j G q,xEqB true (.str i) (.str j) G q=q (.bl (!decide (i=j))) G) /\
  (∀a c G q,xEqB false (.ref a) (.ref c) G q=∃n sd se b,n<=40/\snap G n (.ref a)=some sd/\snap G n (.ref c)=some se/\eqN n sd se=some b/\q (.bl b) G) /\
  (∀a c G q,xEqB true (.ref a) (.ref c) G q=∃n sd se b,n<=40/\snap G n (.ref a)=some sd/\snap G n (.ref c)=some se/\eqN n sd se=some b/\q (.bl (!b)) G) /\
  (∀a c G q,xEqB false (.tup a) (.tup c) G q=∃n sd se b,n<=40/\snap G n (.tup a)=some sd/\snap G n (.tup c)=some se/\eqN n sd se=some b/\q (.bl b) G) /\
  (∀a c G q,xEqB true (.tup a) (.tup c) G q=∃n sd se b,n<=40/\snap G n (.tup a)=some sd/\snap G n (.tup c)=some se/\eqN n sd se=some b/\q (.bl (!b)) G) /\
  (∀i j G q,xAdd (.int i) (.int j) G q=q (.int (i+j)) G)/\(∀i j G q,xMul (.int i) (.int j) G q=(CMul i j/\q (.int (i*j)) G)) /\
  (∀a k G q,xMul (.ref a) (.int k) G q=(match G a with|some (.lst xs)=>(-(2^63)<=k/\k<2^63/\xs.length*k.toNat<=sizeLine)/\∀p,G p=none->q (.ref p) (gup G p (.lst (C2 k.toNat xs).flatten))|_=>False)) /\
  (∀i j G q,xLt (.int i) (.int j) G q=q (.bl (decide (i<j))) G) /\
  (∀ds i G q,xIx (.tup ds) (.int i) G q=(match atI ds i with|some d=>q d G|none=>False)) /\
  (∀a i G q,xIx (.ref a) (.int i) G q=(match u13 (G a) with|some ds=>(match atI ds i with|some d=>q d G|none=>False)|none=>False)) /\
  (∀xs G q,xLen [.tup xs] G q=q (.int xs.length) G)/\(∀a G q,xLen [.ref a] G q=(match u13 (G a) with|some xs=>q (.int xs.length) G|none=>False)) :=
 ⟨λ_ _ _ _=>rfl,λ_ _ _ _=>rfl,λ_ _ _ _=>rfl,λ_ _ _ _=>rfl,λ_ _ _ _=>rfl,λ_ _ _ _=>rfl,λ_ _ _ _=>rfl,λ_ _ _ _=>rfl,λ_ _ _ _=>rfl,λ_ _ _ _=>rfl,λ_ _ _ _=>rfl,λ_ _ _ _=>rfl,λ_ _ _ _=>rfl,λ_ _ _ _=>rfl,λ_ _ _=>rfl,λ_ _ _=>rfl⟩
theorem wa3:(∀f i j G q,xInt f (.int i) (.int j) G q=q (.int (f i j)) G)/\(∀C f i j G q,ul9 C f (.int i) (.int j) G q=(C i j/\q (.int (f i j)) G))/\(∀i j G q,xLe (.int i) (.int j) G q=q (.bl (decide (i<=j))) G) /\
  (∀i j G q,xGt (.int i) (.int j) G q=q (.bl (decide (j<i))) G)/\(∀i j G q,xGe (.int i) (.int j) G q=q (.bl (decide (j<=i))) G)/\(∀i G q,xNeg (.int i) G q=q (.int (-i)) G) /\
  (∀a k v G q,xSet (.ref a) (.int k) v G q=(match G a with|some (.lst ds)=>(match ixN ds.length k with|some j=>q (gup G a (.lst (ds.set j v)))|none=>False)|_=>False)) /\
  (∀a lo hi G q,uj1 (.ref a) lo hi G q=(match u13 (G a) with|some ds=>∀p,G p=none->q (.ref p) (gup G p (.lst (cutD ds lo hi)))|none=>False)) /\
  (∀ds lo hi G q,uj1 (.tup ds) lo hi G q=(¬ (HT.sIx ds.length 0 lo=0/\HT.sIx ds.length ds.length hi=ds.length)/\q (.tup (cutD ds lo hi)) G)) /\
  (∀x G q,xIs2 x .non G q=(match x with|.non=>q (.bl true) G|_=>q (.bl false) G))/\(∀x b G q,xIs2 x (.bl b) G q=(match x with|.bl c=>q (.bl (decide (c=b))) G|_=>q (.bl false) G)) /\
  (∀x G q,ud4 x .non G q=(match x with|.non=>q (.bl false) G|_=>q (.bl true) G))/\(∀x b G q,ud4 x (.bl b) G q=(match x with|.bl c=>q (.bl (!decide (c=b))) G|_=>q (.bl true) G)) /\
  (∀i G q,xAbs [.int i] G q=q (.int (if i<0 then -i else i)) G)/\(∀i j G q,um0 [.int i,.int j] G q=(CDiv i j/\q (.tup [.int (i / j),.int (i%j)]) G)) /\
  (∀i j G q,wa9 [.int i,.int j] G q=q (.int (if j>i then j else i)) G)/\(∀i j G q,vf2 [.int i,.int j] G q=q (.int (if j<i then j else i)) G) /\
  (∀i G q,uj0 [.int i] G q=q (.int i) G)/\(∀b G q,uj0 [.bl b] G q=q (.int (if b then 1 else 0)) G) /\
  (∀xs G q,u95 [.tup xs] G q=∀p,G p=none->q (.ref p) (gup G p (.lst xs)))/\(∀a G q,u95 [.ref a] G q=(match u13 (G a) with|some xs=>∀p,G p=none->q (.ref p) (gup G p (.lst xs))|none=>False)) /\
  (∀xs G q,u86 [.tup xs] G q=q (.tup xs) G)/\(∀a G q,u86 [.ref a] G q=(match u13 (G a) with|some xs=>q (.tup xs) G|none=>False)) /\
  (∀a G q,xAll [.ref a] G q=(match u13 (G a) with|some xs=>(match us9 xs with|some bs=>q (.bl (bs.all id)) G|none=>False)|none=>False)) /\
  (∀x T G q,ul8 [x,.ty T] G q=((T = "int" \/ T = "str" \/ T = "bool" \/ T = "list" \/ T = "tuple" \/ T = "dict")/\(match un1 G x with|some n=>q (.bl (subK n T)) G|none=>False))) /\
  (∀a d G q,ud8 (.ref a) [d] G q=(match G a with|some (.lst xs)=>xs.length<sizeLine/\q .non (gup G a (.lst (xs++[d])))|_=>False)) /\
  (∀a b G q,ug8 (.ref a) [.ref b] G q=(match G a,G b with|some (.lst xs),some (.lst ys)=>xs.length+ys.length<=sizeLine/\q .non (gup G a (.lst (xs++ys)))|_,_=>False)) /\
  (∀a G q,ug9 (.ref a) [] G q=(match G a with|some (.lst _)=>q .non (gup G a (.lst []))|_=>False)):=by
 refine⟨?_,?_,?_,?_,?_,?_,?_,?_,?_,?_,?_,?_,?_,?_,?_,?_,?_,?_,?_,?_,?_,?_,?_,?_,?_,?_,?_,?_⟩ <;> intros <;> rfl
theorem yr_0:∀i j G q,xEqB false (.int i) (.int j) G q=q (.bl (decide (i=j))) G:=λ_ _ _ _=>rfl
theorem yr_1:∀i j G q,xEqB true (.int i) (.int j) G q=q (.bl (!decide (i=j))) G:=λ_ _ _ _=>rfl
theorem yr_2:∀i j G q,xEqB false (.str i) (.str j) G q=q (.bl (decide (i=j))) G:=λ_ _ _ _=>rfl
theorem yr_3:∀i j G q,xEqB true (.str i) (.str j) G q=q (.bl (!decide (i=j))) G:=λ_ _ _ _=>rfl
theorem yr_4:∀a c G q,xEqB false (.ref a) (.ref c) G q=∃n sd se b,n<=40/\snap G n (.ref a)=some sd/\snap G n (.ref c)=some se/\eqN n sd se=some b/\q (.bl b) G:=λ_ _ _ _=>rfl
theorem yr_5:∀a c G q,xEqB true (.ref a) (.ref c) G q=∃n sd se b,n<=40/\snap G n (.ref a)=some sd/\snap G n (.ref c)=some se/\eqN n sd se=some b/\q (.bl (!b)) G:=λ_ _ _ _=>rfl
theorem yr_6:∀a c G q,xEqB false (.tup a) (.tup c) G q=∃n sd se b,n<=40/\snap G n (.tup a)=some sd/\snap G n (.tup c)=some se/\eqN n sd se=some b/\q (.bl b) G:=λ_ _ _ _=>rfl
theorem yr_7:∀a c G q,xEqB true (.tup a) (.tup c) G q=∃n sd se b,n<=40/\snap G n (.tup a)=some sd/\snap G n (.tup c)=some se/\eqN n sd se=some b/\q (.bl (!b)) G:=λ_ _ _ _=>rfl
theorem yr_8:∀i j G q,xAdd (.int i) (.int j) G q=q (.int (i+j)) G:=λ_ _ _ _=>rfl
theorem yr_9:∀i j G q,xMul (.int i) (.int j) G q=(CMul i j/\q (.int (i*j)) G):=λ_ _ _ _=>rfl
theorem wz0:∀a k G q,xMul (.ref a) (.int k) G q=(match G a with|some (.lst xs)=>(-(2^63)<=k/\k<2^63/\xs.length*k.toNat<=sizeLine)/\∀p,G p=none->q (.ref p) (gup G p (.lst (C2 k.toNat xs).flatten))|_=>False):=λ_ _ _ _=>rfl
theorem wy9:∀i j G q,xLt (.int i) (.int j) G q=q (.bl (decide (i<j))) G:=λ_ _ _ _=>rfl
theorem wy8:∀ds i G q,xIx (.tup ds) (.int i) G q=(match atI ds i with|some d=>q d G|none=>False):=λ_ _ _ _=>rfl
theorem wy7:∀a i G q,xIx (.ref a) (.int i) G q=(match u13 (G a) with|some ds=>(match atI ds i with|some d=>q d G|none=>False)|none=>False):=λ_ _ _ _=>rfl
theorem wy6:∀xs G q,xLen [.tup xs] G q=q (.int xs.length) G:=λ_ _ _=>rfl
theorem wy5:∀a G q,xLen [.ref a] G q=(match u13 (G a) with|some xs=>q (.int xs.length) G|none=>False):=λ_ _ _=>rfl
theorem ys_0:∀f i j G q,xInt f (.int i) (.int j) G q=q (.int (f i j)) G:=λ_ _ _ _ _=>rfl
theorem ys_1:∀C f i j G q,ul9 C f (.int i) (.int j) G q=(C i j/\q (.int (f i j)) G):=λ_ _ _ _ _ _=>rfl
theorem ys_2:∀i j G q,xLe (.int i) (.int j) G q=q (.bl (decide (i<=j))) G:=λ_ _ _ _=>rfl
theorem ys_3:∀i j G q,xGt (.int i) (.int j) G q=q (.bl (decide (j<i))) G:=λ_ _ _ _=>rfl
theorem ys_4:∀i j G q,xGe (.int i) (.int j) G q=q (.bl (decide (j<=i))) G:=λ_ _ _ _=>rfl
theorem ys_5:∀i G q,xNeg (.int i) G q=q (.int (-i)) G:=λ_ _ _=>rfl
theorem ys_6:∀a k v G q,xSet (.ref a) (.int k) v G q=(match G a with|some (.lst ds)=>(match ixN ds.length k with|some j=>q (gup G a (.lst (ds.set j v)))|none=>False)|_=>False):=λ_ _ _ _ _=>rfl
theorem ys_7:∀a lo hi G q,uj1 (.ref a) lo hi G q=(match u13 (G a) with|some ds=>∀p,G p=none->q (.ref p) (gup G p (.lst (cutD ds lo hi)))|none=>False):=λ_ _ _ _ _=>rfl
theorem ys_8:∀ds lo hi G q,uj1 (.tup ds) lo hi G q=(¬ (HT.sIx ds.length 0 lo=0/\HT.sIx ds.length ds.length hi=ds.length)/\q (.tup (cutD ds lo hi)) G):=λ_ _ _ _ _=>rfl
theorem ys_9:∀x G q,xIs2 x .non G q=(match x with|.non=>q (.bl true) G|_=>q (.bl false) G):=λ_ _ _=>rfl
theorem wy4:∀x b G q,xIs2 x (.bl b) G q=(match x with|.bl c=>q (.bl (decide (c=b))) G|_=>q (.bl false) G):=λ_ _ _ _=>rfl
theorem wy3:∀x G q,ud4 x .non G q=(match x with|.non=>q (.bl false) G|_=>q (.bl true) G):=λ_ _ _=>rfl
theorem wy2:∀x b G q,ud4 x (.bl b) G q=(match x with|.bl c=>q (.bl (!decide (c=b))) G|_=>q (.bl true) G):=λ_ _ _ _=>rfl
theorem wy1:∀i G q,xAbs [.int i] G q=q (.int (if i<0 then -i else i)) G:=λ_ _ _=>rfl
theorem wy0:∀i j G q,um0 [.int i,.int j] G q=(CDiv i j/\q (.tup [.int (i / j),.int (i%j)]) G):=λ_ _ _ _=>rfl
theorem wx9:∀i j G q,wa9 [.int i,.int j] G q=q (.int (if j>i then j else i)) G:=λ_ _ _ _=>rfl
theorem wx8:∀i j G q,vf2 [.int i,.int j] G q=q (.int (if j<i then j else i)) G:=λ_ _ _ _=>rfl
theorem wx7:∀i G q,uj0 [.int i] G q=q (.int i) G:=λ_ _ _=>rfl
theorem wx6:∀b G q,uj0 [.bl b] G q=q (.int (if b then 1 else 0)) G:=λ_ _ _=>rfl
theorem wx5:∀xs G q,u95 [.tup xs] G q=∀p,G p=none->q (.ref p) (gup G p (.lst xs)):=λ_ _ _=>rfl
theorem wx4:∀a G q,u95 [.ref a] G q=(match u13 (G a) with|some xs=>∀p,G p=none->q (.ref p) (gup G p (.lst xs))|none=>False):=λ_ _ _=>rfl
theorem wx3:∀xs G q,u86 [.tup xs] G q=q (.tup xs) G:=λ_ _ _=>rfl
theorem wx2:∀a G q,u86 [.ref a] G q=(match u13 (G a) with|some xs=>q (.tup xs) G|none=>False):=λ_ _ _=>rfl
theorem wx1:∀a G q,xAll [.ref a] G q=(match u13 (G a) with|some xs=>(match us9 xs with|some bs=>q (.bl (bs.all id)) G|none=>False)|none=>False):=λ_ _ _=>rfl
theorem wx0:∀x T G q,ul8 [x,.ty T] G q=((T = "int" \/ T = "str" \/ T = "bool" \/ T = "list" \/ T = "tuple" \/ T = "dict")/\(match un1 G x with|some n=>q (.bl (subK n T)) G|none=>False)):=λ_ _ _ _=>rfl
theorem ww9:∀a d G q,ud8 (.ref a) [d] G q=(match G a with|some (.lst xs)=>xs.length<sizeLine/\q .non (gup G a (.lst (xs++[d])))|_=>False):=λ_ _ _ _=>rfl
theorem ww8:∀a b G q,ug8 (.ref a) [.ref b] G q=(match G a,G b with|some (.lst xs),some (.lst ys)=>xs.length+ys.length<=sizeLine/\q .non (gup G a (.lst (xs++ys)))|_,_=>False):=λ_ _ _ _=>rfl
theorem ww7:∀a G q,ug9 (.ref a) [] G q=(match G a with|some (.lst _)=>q .non (gup G a (.lst []))|_=>False):=λ_ _ _=>rfl
def strsOf:List D->Option (List Str)
 | []=>some []
 | .str x::r=>(strsOf r).map (x::·)
 | _=>none
def intsOf:List D->Option (List Int)
 | []=>some []
 | .int x::r=>(intsOf r).map (x::·)
 | _=>none
section
variable{X:Cx}{K:W.Frag}{H:Hp}
theorem ud5:∀{ds:List D} {ws:List Str} {vs:List V},strsOf ds=some ws->RelDs K H ds vs->vs=ws.map V.str
 | [],ws,vs,e,r=>by cases e;rw[r.inv_nil];rfl
 | .str b::ds,ws,vs,e,r=>by
  obtain⟨x,xs,rfl,h1,h2⟩:=r.inv_cons;obtain⟨ws',e',rfl⟩:=E4.mp (show(strsOf ds).map (b::·)=some ws from e);rw[h1.str_inv,ud5 e' h2];rfl
 | .non::_,_,_,e,_=>by cases e
 | .bl _::_,_,_,e,_=>by cases e
 | .int _::_,_,_,e,_=>by cases e
 | .tup _::_,_,_,e,_=>by cases e
 | .ref _::_,_,_,e,_=>by cases e
 | .ty _::_,_,_,e,_=>by cases e
theorem ud9:∀{ds:List D} {ws:List Int} {vs:List V},intsOf ds=some ws->RelDs K H ds vs->vs=ws.map V.int
 | [],ws,vs,e,r=>by cases e;rw[r.inv_nil];rfl
 | .int b::ds,ws,vs,e,r=>by
  obtain⟨x,xs,rfl,h1,h2⟩:=r.inv_cons;obtain⟨ws',e',rfl⟩:=E4.mp (show(intsOf ds).map (b::·)=some ws from e);rw[h1.int_inv,ud9 e' h2];rfl
 | .non::_,_,_,e,_=>by cases e
 | .bl _::_,_,_,e,_=>by cases e
 | .str _::_,_,_,e,_=>by cases e
 | .tup _::_,_,_,e,_=>by cases e
 | .ref _::_,_,_,e,_=>by cases e
 | .ty _::_,_,_,e,_=>by cases e
theorem va4{w:Str}{ws:List Str}:inV (V.str w) (ws.map V.str)=decide (w∈ws):=by
 unfold inV
 induction ws with
 | nil=>rfl
 | cons x xs ih =>
  rw[C8,O8,ih]
  show((x==w)||decide (w∈xs))=_
  by_cases h:x=w
  ·subst h;simp
  ·have h':¬ w=x:=λe=>h e.symm
   have:(x==w)=false:=by simpa using h
   rw[this];simp[h']
theorem va5{w:Int}{ws:List Int}:inV (V.int w) (ws.map V.int)=decide (w∈ws):=by
 unfold inV
 induction ws with
 | nil=>rfl
 | cons x xs ih =>
  rw[C8,O8,ih]
  show((x==w)||decide (w∈xs))=_
  by_cases h:x=w
  ·subst h;simp
  ·have h':¬ w=x:=λe=>h e.symm
   have:(x==w)=false:=by simpa using h
   rw[this];simp[h']
theorem uh5:∀ws:List Str,(ws.map V.str).all uh7=true
 | []=>rfl
 | _::ws=>by rw[C8,U6,uh5 ws];rfl
theorem uh6:∀ws:List Int,(ws.map V.int).all uh7=true
 | []=>rfl
 | _::ws=>by rw[C8,U6,uh6 ws];rfl
def xInB(neg:Bool):R3:=λx y G q=>match x,y with
 | .str w,.tup ds=>(match strsOf ds with|some ws=>q (.bl (if neg then !decide (w∈ws) else decide (w∈ws))) G|none=>False)
 | .str w,.ref a=>(match u13 (G a) with|some ds=>(match strsOf ds with|some ws=>q (.bl (if neg then !decide (w∈ws) else decide (w∈ws))) G|none=>False)|none=>False)
 | .int w,.tup ds=>(match intsOf ds with|some ws=>q (.bl (if neg then !decide (w∈ws) else decide (w∈ws))) G|none=>False)
 | .int w,.ref a=>(match u13 (G a) with|some ds=>(match intsOf ds with|some ws=>q (.bl (if neg then !decide (w∈ws) else decide (w∈ws))) G|none=>False)|none=>False)
 | _,_=>False
theorem vs5{neg:Bool}{x y:V}{Q:VK}(h:lowR K (xInB neg) x y H Q):rIn K neg x y H Q:=by
 obtain⟨d,e,G,q,r1,r2,c,t,f⟩:=h;unfold xInB at t;split at t
 ·rename_i w ds
  split at t
  ·rename_i ws es
   obtain⟨a,xs,rfl,s1,q1⟩:=r2.tup_inv;cases r1.str_inv;obtain rfl:=ud5 es q1;exact⟨a,_,rfl,.inr s1,rfl,uh5 ws,f _ _ _ _ (by rw[va4];exact RelD.blI) c (Le.refl H) t⟩
  ·exact t.elim
 ·rename_i w a
  split at t
  ·rename_i ds eq
   split at t
   ·rename_i ws es
    obtain⟨xs,s1,q1⟩:=u41 c eq;cases r1.str_inv;obtain rfl:=ud5 es q1;exact⟨a,_,r2.ref_inv,.inl s1,rfl,uh5 ws,f _ _ _ _ (by rw[va4];exact RelD.blI) c (Le.refl H) t⟩
   ·exact t.elim
  ·exact t.elim
 ·rename_i w ds
  split at t
  ·rename_i ws es
   obtain⟨a,xs,rfl,s1,q1⟩:=r2.tup_inv;cases r1.int_inv;obtain rfl:=ud9 es q1;exact⟨a,_,rfl,.inr s1,rfl,uh6 ws,f _ _ _ _ (by rw[va5];exact RelD.blI) c (Le.refl H) t⟩
  ·exact t.elim
 ·rename_i w a
  split at t
  ·rename_i ds eq
   split at t
   ·rename_i ws es
    obtain⟨xs,s1,q1⟩:=u41 c eq;cases r1.int_inv;obtain rfl:=ud9 es q1;exact⟨a,_,r2.ref_inv,.inl s1,rfl,uh6 ws,f _ _ _ _ (by rw[va5];exact RelD.blI) c (Le.refl H) t⟩
   ·exact t.elim
  ·exact t.elim
 ·exact t.elim
theorem x_in{k:Nat}{A:Around}(_:Room k A):Op3 X (K1 .In) (xInB false):=u96 v79 λ_ _ _ _ h=>vs5 h
theorem ul7{k:Nat}{A:Around}(_:Room k A):Op3 X (K1 .NotIn) (xInB true):=u96 uq5 λ_ _ _ _ h=>vs5 h
end
end L3
namespace L2
open PySem PySem.Spec PyProof.Rows
def Ite(K:W.Frag)(a:Addr):It :=
 ⟨λi H=>∃xs x,SqL K H a xs/\xs[i]?=some x,λi H v H'=>∃p x,v=.ref p/\H p=none/\H'=upd H p (.tup [.int (i:Int),x])/\∀xs,SqL K H a xs->xs[i]?=some x,λi H=>∃xs,SqL K H a xs/\xs.length<=i⟩
theorem Inv.turnedT{X:Cx}{pins:List (Addr×Obj)}{σ:List (Option V)}{H:Hp}{s:Shared}{h':Heap}{t':Nat}{e it:Addr}{o:HO}(I:Inv X pins σ H s)(k:∀b o,b≠e->b≠it->s.heap.get? b=some o->h'.get? b=some o)
  (f:∀b∈[e,it],FpOk X pins H b) (new:ObjOk X.prog X.w (upd H s.heap.objs.size o) h' s.heap.objs.size o):Inv X pins σ (upd H s.heap.objs.size o) { s with heap:=h',toks:=t'}:=by
 have hn:H s.heap.objs.size=none:=I.hok.fresh (B9 _);have f1:=f e (by simp);have f2:=f it (by simp);have old:∀b u,H b=some u->b≠s.heap.objs.size:=λb u q z=>by rw[z,hn] at q;cases q
 have nit:∀b u,H b=some u->b≠e/\b≠it:=λb u q=>⟨λz=>(by rw[z,f1.1] at q;cases q),λz=>(by rw[z,f2.1] at q;cases q)⟩
 have nch:∀{b:Addr},b∉[e,it]->b≠e/\b≠it:=λhc=>⟨λz=>hc (by simp[z]),λz=>hc (by simp[z])⟩
 refine I.step (g':=s.gens) (d':=s.drawn) (ch:=[e,it]) (λb hb=>?_) (λb o _ _ hc q _=>k b o (nch hc).1 (nch hc).2 q) (λb o _ _ hc q _=>⟨o.slots,k b o (nch hc).1 (nch hc).2 q⟩) (λb u _ q n=>?_)
  (λb o hc q=>⟨o,k b o (nch hc).1 (nch hc).2 q⟩) (λb xs q=>?_) (λb o u q=>?_) (λb ps q=>⟨#[],?_⟩) (λm hm=>?_) (λb u q=>?_) I.bare
 ·obtain⟨g0,g1,g2,g3,g4,g5⟩:=f b hb
  exact⟨g3,g1,g4,g5⟩
 ·rw[u22 (E6 (D5 q))];exact n
 ·rw[u22 (old b _ q)];exact q
 ·rw[u22 (old b _ q)];exact q
 ·rw[u22 (old b _ q),q];simp
 ·obtain⟨o,es,ep,ho,r⟩:=hm
  exact⟨o,es,ep,k _ o (D6 f1.2.1) (D6 f2.2.1) ho,r⟩
 ·by_cases hb:b=s.heap.objs.size
  ·subst hb;rw[u30] at q;cases q;exact new
  ·rw[u22 hb] at q
   refine(I.hok b u q).stay (λc v hc z=>?_) (λc z=>by rw[u22 (old c _ z)];exact z) λc xs z=>by rw[u22 (old c _ z)];exact z
   rcases hc with y|y
   ·subst y;exact k _ v (nit _ u q).1 (nit _ u q).2 z
   ·exact k c v (nit c _ y).1 (nit c _ y).2 z
theorem v47{P:Program}{w:World}{K:W.Frag}{elts:List Expr}{x1}{pos:Pos}(a e it:Addr)(hne:e≠it):Turn P w K (.Tuple elts x1 pos) (Ite K a) [e,it] e (λi h=>(∃old,IsEnum h e it (i:Int) old)/\h.IsListIter it a i) where
 mem:=by simp
 obj:=λi h st b hb=>by
  obtain⟨⟨old,st1⟩,st2⟩:=st
  rcases D1.mp hb with q|q
  ·subst q
   exact⟨_,st1,λv z=>by
    have z':B56 _=B05 v:=z;cases z'⟩
  ·have q:b=it:=by simpa using q
   subst q;obtain⟨o,e,c,d⟩:=st2;exact⟨o,e,λv z=>by rw[d] at z;cases z⟩
 keep:=λi h h' st k=>⟨st.1.elim λold q=>⟨old,k e (by simp) _ q⟩,st.2.at λo q=>k it (by simp) o q⟩
 item:=by
  intro X hP hw hK hc i pins s σ H E I hf st hg;subst hP hw hK;obtain⟨⟨old,st1⟩,st2⟩:=st;obtain⟨xs,x,hq,hx⟩:=hg;obtain⟨its,rv,p,hz⟩:=I.list hq;obtain⟨u,hu,ru⟩:=rv.get hx;have hel:e<s.heap.objs.size:=D5 st1;have hn:H s.heap.objs.size=none:=I.hok.fresh (B9 _);refine wpAny_pyNext_enum_item st1 st2 p.isList (x:=u) (by simpa using hu) hne λh1 ho hit1 ht1 hz1 hk1=>?_
  refine⟨_,rfl,wpAny_letOwnedTupleGo_enum ho λh2 he2 hs2=>?_⟩
  replace hs2:Q6 e h1 h2:=hs2
  have hk2:∀b o,b≠e->b≠it->s.heap.get? b=some o->h2.get? b=some o:=λb o h1' h2' q=>(hs2.2 b h1').trans (hk1 b o h1' h2' q)
  have ht2:=(hs2.2 s.heap.objs.size (T6 hel)).trans ht1;refine⟨.ref s.heap.objs.size,upd H s.heap.objs.size (.tup [.int (i:Int),x]),I.turnedT (t':=s.toks+1) hk2 hf ?_,rfl,⟨_,x,rfl,hn,rfl,λys hy=>by rw[I.list_inj hy hq];exact hx⟩,⟨⟨u,by simpa using he2⟩,?_⟩,λb hb=>?_⟩
  ·exact⟨show 2<=sizeLine by decide,[.int i s.toks,u],.cons ⟨s.toks,rfl⟩ (.cons ru .nil),⟨_,ht2,rfl,⟨_,rfl⟩,rfl⟩⟩
  ·exact hit1.at λo q=>(hs2.2 it (D6 hne)).trans q
  ·rw[u22 ?_];exact(hf b hb).1
   intro z
   rcases D1.mp hb with q|q
   ·exact E6 hel (q▸z)
   ·have q:b=it:=by simpa using q
    obtain⟨o,y,_⟩:=st2;exact E6 (D5 y) (q▸z)
 done:=by
  intro X hP hw hK hc i pins s σ H E I hf st hg;subst hP hw hK;obtain⟨⟨old,st1⟩,st2⟩:=st;obtain⟨xs,hq,hx⟩:=hg;obtain⟨its,rv,p,hz⟩:=I.list hq;obtain⟨f0,f1,f2,f3,f4,f5⟩:=hf it (by simp);have hl:=rv.length;exact wpAny_pyNext_enum_end (I.ok.hd hc) st1 st2 p.isList (by simp;omega) λh' eb=>⟨rfl,I.turned (t':=s.toks) (λb o hb q=>eb b o hb q) f0 f1 f3 f4 f5⟩
 self:=λ_ _ _ _ _ st h=>st.1.elim λ_ q=>wpAny_pyIter_enum q h
def wq7(K:W.Frag)(ta:TA):TI:=λσ H R=>ta σ H λvs H1=>∃a,vs=[.ref a]/\(∃xs,SqL K H1 a xs)/\R (Ite K a) H1
theorem vd3:P3 "enumerate" = some (.type "enumerate"):=by decide
theorem w20{X:Cx}{elts:List Expr}{x1}{tpos:Pos}{a:Expr}{ta:TA}{p pos:Pos}(hg:Gl X "enumerate")(hm:X.mg "enumerate" = none)(ha:PA X [a] ta)(hs:C5 [a] X.env=[(false,eval a X.env)]:=by rfl) :
  PI X (.Tuple elts x1 tpos) (.Call (.Name "enumerate" p) [a] [] pos) (wq7 X.K ta):=by
 intro pins s σ H R I h;refine Call_ (ub1 I hg hm vd3 (K4 (thn (ha pos pins s σ H _ I h) λus s1 ⟨vs,H1,I1,r1,q1⟩=>?_) hs rfl));obtain⟨l,e,⟨xs,hq⟩,q⟩:=q1;subst e;cases r1 with
 | cons r rr =>
  cases rr;cases r;obtain⟨its,rv,pl,hz⟩:=I1.list hq;refine call_enumerate_list pl.isList λh' he hit hsz hk=>?_
  refine wpAny_pyIter_enum he ?_;have I2:Inv X pins σ H1 { s1 with heap:=h'}:=I1.kept (t':=s1.toks) hk
  refine⟨s1.heap.objs.size+1,[s1.heap.objs.size+1,s1.heap.objs.size],_,_,H1,rfl,I2,v47 l _ _ (Nat.succ_ne_self _),⟨⟨.none,he⟩,hit⟩,λb hb=>?_,q⟩;have hb:s1.heap.objs.size<=b:=by
   rcases D1.mp hb with z|z
   ·rw[z];exact M0 _
   ·have e:b=s1.heap.objs.size:=by simpa using z
    rw[e];exact B9 _
  exact I1.fpOk hb (I1.hok.fresh hb)
end L2
namespace L3
open PySem PySem.Spec PyProof.Rows L2
def enD:Nat->List D->List D
 | _,[]=>[]
 | i,d::r=>.tup [.int (i:Int),d]::enD (i+1) r
theorem ue1:∀{i:Nat} {ds:List D},(enD i ds).length=ds.length
 | _,[]=>rfl
 | _,_::r=>by show(enD _ r).length+1=r.length+1;rw[ue1]
theorem vb2:∀{j i:Nat} {ds:List D} {d:D},ds[i]?=some d->(enD j ds)[i]?=some (.tup [.int ((j+i:Nat):Int),d])
 | j,0,d::r,_,h=>by cases h;rfl
 | j,i+1,d::r,e,h=>by
  have:=vb2 (j:=j+1) (i:=i) (ds:=r) (d:=e) (by simpa using h)
  show(enD (j+1) r)[i]?=_
  rw[this,show j+1+i=j+(i+1) by omega]
 | _,_,[],_,h=>by simp at h
theorem v21{K:W.Frag}{H0:Hp}{a:Addr}{ds:List D}:ItRel K H0 ⟨enD 0 ds,λG=>u13 (G a)=some ds⟩ (Ite K a) where
 go:=λi G H l c ok hi=>by
  obtain⟨xs,s,r⟩:=u41 c ok;rw[ue1] at hi;exact⟨xs,xs[i]'(by rw[<- r.length];exact hi),s,B6 _⟩
 stop:=λi G H l c ok hi=>by
  obtain⟨xs,s,r⟩:=u41 c ok;rw[ue1] at hi;exact⟨xs,s,by rw[<- r.length];exact hi⟩
 yld:=λi G H x H' l c ok hi y=>by
  obtain⟨p,v,rfl,hp,rfl,y⟩:=y;obtain⟨xs,s,r⟩:=u41 c ok;obtain⟨d,hd,rd⟩:=r.at_ (y xs s)
  refine⟨c.side hp,Le.fresh hp,.tup [.int (i:Int),d],by rw[vb2 hd,Q9],?_⟩;rw[RelD];exact⟨p,_,rfl,SqT.of u30,.cons RelD.intI (.cons (RelD.le (Le.fresh hp) rd) .nil)⟩
def vf5(t:TA3):TI3:=λσ G r=>t σ G λds G1=>match ds with
 | [.ref a]=>(match u13 (G1 a) with|some ds=>r ⟨enD 0 ds,λG=>u13 (G a)=some ds⟩ G1|none=>False)
 | _=>False
theorem v88{K:W.Frag}{t:TA3}{σ:L2.St}{H:Hp}{R:It->Hp->Prop}(h:lowI K (vf5 t) σ H R):wq7 K (lowA K t) σ H R:=by
 obtain⟨σd,G,q,rs,c,t,f⟩:=h;refine⟨σd,G,_,rs,c,t,λds G1 vs H1 r1 c1 l1 t1=>?_⟩;split at t1
 ·rename_i a
  split at t1
  ·rename_i ds e
   obtain⟨v,rfl,rv⟩:=r1.one;cases rv.ref_inv;obtain⟨xs,s1,q1⟩:=u41 c1 e;exact⟨a,rfl,⟨xs,s1⟩,f _ _ _ _ v21 c1 l1 t1⟩
  ·exact t1.elim
 ·exact t1.elim
theorem uu1{X:Cx}{elts:List Expr}{x1}{tpos:Pos}{a:Expr}{ts:TA3}{p pos:Pos}(hg:Gl X "enumerate")(hm:X.mg "enumerate" = none)(ha:A3 X [a] ts)(hs:C5 [a] X.env=[(false,eval a X.env)]:=by rfl) :
  I3 X (.Tuple elts x1 tpos) (.Call (.Name "enumerate" p) [a] [] pos) (vf5 ts):=v41 (w20 hg hm ha hs) λ_ _ _=>v88
end L3
namespace L2
open PySem PySem.Spec PyProof.Rows
section
variable{X:Cx}
theorem us2:CallR X (.builtin "isinstance") (λxs H Q=>∃a ys T,xs=[.ref a,.ty T]/\SqT X.K H a ys/\(T = "int" \/ T = "str" \/ T = "bool" \/ T = "list" \/ T = "tuple" \/ T = "dict")/\Q (.bl (subK "tuple" T)) H):=by
 intro pins s σ H xs us Q I r h;obtain⟨a,ys,T,rfl,hq,hT,q⟩:=h;obtain⟨u,w,rfl,rx,rt⟩:=vals2 r;cases rt;cases rx;obtain⟨its,rv,p,hz⟩:=I.tuple hq;obtain⟨o,h1,h2,_⟩:=p;exact W.kia_one W.kitx_tuple I.kIn ⟨o,h1,h2⟩ (u88 (by simp) hT) (λz=>nomatch z) λtk=>⟨.bl (subK "tuple" T),H,I.tok tk,rfl,q⟩
end
end L2
namespace L3
open PySem PySem.Spec PyProof.Rows L2
section
variable{X:Cx}
def uf1:C3:=λds G q=>match ds with
 | [.tup _,.ty T]=>(T = "int" \/ T = "str" \/ T = "bool" \/ T = "list" \/ T = "tuple" \/ T = "dict")/\q (.bl (subK "tuple" T)) G
 | _=>False
theorem u94:Call3 X (.builtin "isinstance") uf1:=u56 us2 λxs H Q ⟨ds,G,q,r,c,t,f⟩=>by
 unfold uf1 at t;split at t
 ·rename_i d T
  obtain⟨v,u,rfl,r1,r2⟩:=r.two;rw[RelD] at r2;subst r2;obtain⟨a,ys,rfl,s1,q1⟩:=r1.tup_inv;exact⟨a,ys,T,rfl,s1,t.1,f _ _ _ _ RelD.blI c (Le.refl H) t.2⟩
 ·exact t.elim
end
end L3
namespace Law
open PySem L2 L3 Rw
theorem u83{v:Int}(h:0<=v):∃x:Nat,v=(x:Int):=⟨v.toNat,by omega⟩
structure StAt(G:Gp)(st:Addr):Prop where
 ex:∃(a:Addr) (ns:List Int) (k r:Int),G st=some (.lst [.ref a,.int k,.int r])/\G a=some (.fro (ns.map .int))/\0<=k/\0<=r/\a≠st/\ns.length<=63
structure Adv(st:Addr)(G G':Gp):Prop where
 at_:StAt G' st
 kp:∀b o,b≠st->G b=some o->G' b=some o
structure Upd1(a:Addr)(bs:List Int)(G G':Gp):Prop where
 at_:G' a=some (.lst (bs.map .int))
 kp:∀b,b≠a->G' b=G b
def flds(ra ha:Addr)(s:Nat):List (Str×D):=[("rows",.ref ra),("held",.ref ha),("spot",.int (s:Int))]
structure RideAt(C:Addr)(G:Gp)(p ra ha:Addr)(rs:List Row)(bs:List Int)(s:Nat):Prop where
 ob:G p=some (.ins C (flds ra ha s))
 ro:G ra=some (.lst (rs.map Row.d))
 he:G ha=some (.lst (bs.map .int))
 ne:ra≠ha
structure Cde(sz:Nat)(rs:List Row)(bs:List Int)(s:Nat):Prop where
 bo:BsOk sz bs
 ro:∀r∈rs,r.ok sz
 le:s<=rs.length
def mayF(rs:List Row)(bs:List Int)(s:Nat):Bool:=match rs[s]? with
 | none=>false
 | some (.come x n _)=>!decide (gt bs x=n)
 | some _=>true
def mayB(rs:List Row)(bs:List Int)(s:Nat):Bool:=if s=0 then false else match rs[s-1]? with
 | none=>false
 | some (.go x n _)=>!decide (gt bs x=n)
 | some _=>true
def nxF(rs:List Row)(bs:List Int)(s:Nat):Nat×List Int:=match rs[s]? with
 | some (.go x n k)=>if gt bs x=n then(k+1,bs) else(s+1,bs)
 | some r=>(s+1,stp 1 bs r)
 | none=>(s,bs)
def nxB(rs:List Row)(bs:List Int)(s:Nat):Nat×List Int:=match rs[s-1]? with
 | some (.come x n k)=>if gt bs x=n then(k,bs) else(s-1,bs)
 | some r=>(s-1,stp (-1) bs r)
 | none=>(s,bs)
theorem RideAt.pr{C:Addr}{G:Gp}{p ra ha:Addr}{rs:List Row}{bs:List Int}{s:Nat}(h:RideAt C G p ra ha rs bs s):p≠ra:=by
 intro e;have:=h.ob;rw[e,h.ro] at this;cases this
theorem RideAt.ph{C:Addr}{G:Gp}{p ra ha:Addr}{rs:List Row}{bs:List Int}{s:Nat}(h:RideAt C G p ra ha rs bs s):p≠ha:=by
 intro e;have:=h.ob;rw[e,h.he] at this;cases this
theorem StAt.new{G:Gp}{st p:Addr}{o:DO}(h:StAt G st)(hp:G p=none):StAt (gup G p o) st:=by
 obtain⟨a,ns,k,r,h1,h2,h3⟩:=h.ex;exact⟨a,ns,k,r,by rw[u06 (gne h1 hp)];exact h1,by rw[u06 (gne h2 hp)];exact h2,h3⟩
theorem StAt.ne{G:Gp}{st p:Addr}(h:StAt G st)(hp:G p=none):p≠st:=by
 obtain⟨a,ns,k,r,h1,h2,h3⟩:=h.ex;exact D6 (gne h1 hp)
theorem StAt.set{G:Gp}{st p:Addr}{xs ys:List D}(h:StAt G st)(hp:G p=some (.lst xs))(hne:p≠st):StAt (gup G p (.lst ys)) st:=by
 obtain⟨a,ns,k,r,h1,h2,h3⟩:=h.ex;have:a≠p:=by intro e;rw[e,hp] at h2;cases h2
 exact⟨a,ns,k,r,by rw[u06 (D6 hne)];exact h1,by rw[u06 this];exact h2,h3⟩
theorem Adv.refl{G:Gp}{st:Addr}(h:StAt G st):Adv st G G:=⟨h,λ_ _ _ e=>e⟩
theorem Adv.trans{st:Addr}{G G1 G2:Gp}(a:Adv st G G1)(b:Adv st G1 G2):Adv st G G2:=⟨b.at_,λc o hc e=>b.kp c o hc (a.kp c o hc e)⟩
theorem Adv.new{st p:Addr}{G G1:Gp}{o:DO}(a:Adv st G G1)(hp:G1 p=none):Adv st G (gup G1 p o):=⟨a.at_.new hp,λc u hc e=>by rw[u06 (gne (a.kp c u hc e) hp)];exact a.kp c u hc e⟩
theorem Adv.own{st p:Addr}{G G1:Gp}{xs ys:List D}(a:Adv st G G1)(hp:G p=none)(h1:G1 p=some (.lst xs))(hne:p≠st):Adv st G (gup G1 p (.lst ys)) :=
 ⟨a.at_.set h1 hne,λc u hc e=>by rw[u06 (gne e hp)];exact a.kp c u hc e⟩
theorem Adv.none{st p:Addr}{G G1:Gp}(a:Adv st G G1)(hp:G1 p=none)(hne:p≠st):G p=none:=by
 cases e:G p with
 | none=>rfl
 | some o=>rw[a.kp p o hne e] at hp;cases hp
theorem v73{rs:List Row}{bs:List Int}{s:Nat}(h:s<rs.length)(hp:rs[s].plain=true):mayF rs bs s=true/\nxF rs bs s=(s+1,stp 1 bs rs[s]):=by
 have hg:=B6 h
 revert hp
 unfold mayF nxF;rw[hg];cases rs[s] <;> intro hp <;> first|exact⟨rfl,rfl⟩|cases hp
theorem vs3{rs:List Row}{bs:List Int}{s:Nat}(h:s<rs.length)(hp:rs[s].plain=true):mayB rs bs (s+1)=true/\nxB rs bs (s+1)=(s,stp (-1) bs rs[s]):=by
 have hg:=B6 h
 revert hp
 unfold mayB nxB;rw[if_neg (by omega),K8,hg];cases rs[s] <;> intro hp <;> first|exact⟨rfl,rfl⟩|cases hp
theorem RideAt.grow{C:Addr}{G G':Gp}{p ra ha:Addr}{rs:List Row}{bs:List Int}{s:Nat}(h:RideAt C G p ra ha rs bs s)(g:Grow G G'):RideAt C G' p ra ha rs bs s :=
 ⟨g.kp _ _ h.ob,g.kp _ _ h.ro,g.kp _ _ h.he,h.ne⟩
structure Kept(p ha:Addr)(G G':Gp):Prop where
 kp:∀b o,b≠p->b≠ha->G b=some o->G' b=some o
theorem Kept.refl{p ha:Addr}{G:Gp}:Kept p ha G G:=⟨λ_ _ _ _ h=>h⟩
theorem Kept.trans{p ha:Addr}{G G1 G2:Gp}(a:Kept p ha G G1)(b:Kept p ha G1 G2):Kept p ha G G2:=⟨λc o h1 h2 h=>b.kp c o h1 h2 (a.kp c o h1 h2 h)⟩
theorem Kept.grow{p ha:Addr}{G G1 G2:Gp}(a:Kept p ha G G1)(b:Grow G1 G2):Kept p ha G G2:=⟨λc o h1 h2 h=>b.kp c o (a.kp c o h1 h2 h)⟩
theorem Kept.eqs{p ha:Addr}{G G1 G2:Gp}(a:Kept p ha G G1)(b:∀c,c≠p->c≠ha->G2 c=G1 c):Kept p ha G G2:=⟨λc o h1 h2 h=>by rw[b c h1 h2];exact a.kp c o h1 h2 h⟩
theorem Kept.none{p ha q:Addr}{G G1:Gp}(a:Kept p ha G G1)(h1:q≠p)(h2:q≠ha)(h:G1 q=none):G q=none:=by
 cases e:G q with
 | none=>rfl
 | some o=>rw[a.kp q o h1 h2 e] at h;cases h
end Law
namespace Rw
open PySem L2 L3
theorem ua6{α β:Type}{f:α->Option β}:∀{xs:List α},(∀x∈xs,∃y,f x=some y)->∃ys,xs.mapM f=some ys
 | [],_=>⟨[],rfl⟩
 | x::xs,h=>by
  obtain⟨y,hy⟩:=h x D7;obtain⟨ys,hys⟩:=ua6 (xs:=xs) λz hz=>h z (C6 _ hz)
  exact⟨y::ys,by rw[L0,hy,hys];rfl⟩
theorem un4{n:Nat}:∀{ys:List Sn},(∀y∈ys,eqN n y y=some true)->∃bs,((ys.zip ys).mapM λp=>eqN n p.1 p.2)=some bs/\bs.all id=true
 | [],_=>⟨[],rfl,rfl⟩
 | y::ys,h=>by
  obtain⟨bs,e,q⟩:=un4 (ys:=ys) λz hz=>h z (C6 _ hz)
  refine⟨true::bs,?_,by rw[U6,q];rfl⟩;rw[O5,L0,e,h y D7];rfl
theorem um9{α β:Type}{f:α->Option β}:∀{xs:List α} {ys:List β},xs.mapM f=some ys->∀y∈ys,∃x,f x=some y
 | [],ys,h,y,hy=>by
  have:ys=[]:=by simpa using h.symm
  subst this;cases hy
 | x::xs,ys,h,y,hy=>by
  rw[L0] at h;cases hx:f x with
  | none=>rw[hx] at h;cases h
  | some z =>
   rw[hx] at h;cases hr:xs.mapM f with
   | none=>rw[hr] at h;cases h
   | some r =>
    rw[hr] at h;have e:z::r=ys:=E2 h;subst e
    rcases D1.mp hy with rfl|q
    ·exact⟨x,hx⟩
    ·exact um9 hr y q
theorem ub9{G:Gp}:∀(n:Nat) {d:D} {s:Sn},snap G n d=some s->eqN n s s=some true
 | n,.non,s,h=>by cases n <;> (cases h;rfl)
 | n,.bl b,s,h=>by cases n <;> (cases h;cases b <;> rfl)
 | n,.int i,s,h=>by cases n <;> (cases h;simp[eqN,u61,eqF])
 | n,.str i,s,h=>by cases n <;> (cases h;simp[eqN,u61,eqF])
 | n,.ty _,s,h=>by cases n <;> cases h
 | 0,.tup _,s,h=>by cases h
 | 0,.ref _,s,h=>by cases h
 | n+1,.tup ds,s,h=>by
  obtain⟨ys,e,rfl⟩:=E4.mp (show(ds.mapM (snap G n)).map Sn.tup=some s from h);obtain⟨bs,e2,q⟩:=un4 (n:=n) (ys:=ys) λy hy=>by obtain⟨x,hx⟩:=um9 e y hy;exact ub9 n hx
  show(if ys.length=ys.length then((ys.zip ys).mapM λp=>eqN n p.1 p.2).map (λbs=>bs.all id) else none)=_
  rw[if_pos rfl,e2,A87,q]
 | n+1,.ref a,s,h=>by
  obtain⟨ds,e0,h⟩:=Y6.mp (show((u13 (G a)).bind λds=>(ds.mapM (snap G n)).map Sn.lst)=some s from h);obtain⟨ys,e,rfl⟩:=E4.mp h;obtain⟨bs,e2,q⟩:=un4 (n:=n) (ys:=ys) λy hy=>by obtain⟨x,hx⟩:=um9 e y hy;exact ub9 n hx
  show(if ys.length=ys.length then((ys.zip ys).mapM λp=>eqN n p.1 p.2).map (λbs=>bs.all id) else some false)=_
  rw[if_pos rfl,e2,A87,q]
theorem snap_tup{G:Gp}{n:Nat}{ds:List D}(h:∀d∈ds,∃s,snap G n d=some s):∃s,snap G (n+1) (.tup ds)=some s:=by
 obtain⟨ys,e⟩:=ua6 h;exact⟨.tup ys,by show(ds.mapM (snap G n)).map Sn.tup=_;rw[e];rfl⟩
theorem snap_int{G:Gp}{n:Nat}{i:Int}:∃s,snap G n (.int i)=some s:=by cases n <;> exact⟨_,rfl⟩
theorem snap_str{G:Gp}{n:Nat}{i:Str}:∃s,snap G n (.str i)=some s:=by cases n <;> exact⟨_,rfl⟩
theorem all1{p:D->Prop}{a:D}(h:p a):∀d∈[a],p d:=λd hd=>by cases D9.mp hd;exact h
theorem all2{p:D->Prop}{a:D}{r:List D}(h:p a)(hr:∀d∈r,p d):∀d∈a::r,p d:=λd hd=>by
 rcases D1.mp hd with rfl|q
 ·exact h
 ·exact hr d q
theorem uw5{G:Gp}{n:Nat}(o:Opd):∃s,snap G (n+1) o.d=some s:=by
 cases o with
 | num m=>exact snap_tup (all2 snap_str (all1 snap_int))
 | box y=>exact snap_tup (all2 snap_str (all1 snap_int))
theorem uw4{G:Gp}{n:Nat}(r:Row):∃s,snap G (n+3) r.d=some s:=by
 cases r with
 | add x o=>exact snap_tup (all2 snap_str (all2 snap_int (all1 (uw5 o))))
 | take x o=>exact snap_tup (all2 snap_str (all2 snap_int (all1 (uw5 o))))
 | turn x i cs =>
  refine snap_tup (all2 snap_str (all2 snap_int (all2 snap_int (all1 (snap_tup λd hd=>?_)))));obtain⟨c,_,rfl⟩:=P1.mp hd;exact snap_tup (all2 snap_int (all1 snap_int))
 | swap x y=>exact snap_tup (all2 snap_str (all2 snap_int (all1 snap_int)))
 | go x m k=>exact snap_tup (all2 snap_str (all2 snap_int (all2 snap_int (all1 snap_int))))
 | come x m k=>exact snap_tup (all2 snap_str (all2 snap_int (all2 snap_int (all1 snap_int))))
theorem snap_rows{G:Gp}{n:Nat}{a:Addr}{rs:List Row}(h:u13 (G a)=some (rs.map Row.d)):∃s,snap G (n+4) (.ref a)=some s:=by
 obtain⟨ys,e⟩:=ua6 (f:=snap G (n+3)) (xs:=rs.map Row.d) λd hd=>by
  obtain⟨r,_,rfl⟩:=P1.mp hd;exact uw4 r
 exact⟨.lst ys,by show((u13 (G a)).bind λds=>(ds.mapM (snap G (n+3))).map Sn.lst)=_;rw[h,X3,e];rfl⟩
theorem snap_ref{G:Gp}{n:Nat}{a b:Addr}(h:u13 (G a)=u13 (G b)):snap G n (.ref a)=snap G n (.ref b):=by
 cases n with
 | zero=>rfl
 | succ n=>show((u13 (G a)).bind _)=((u13 (G b)).bind _);rw[h]
end Rw
namespace Law
open PySem L2 L3 Rw
structure Pairs(rs:List Row):Prop where
 go:∀(j x:Nat) (n:Int) (k:Nat),rs[j]?=some (Row.go x n k)->rs[k]?=some (.come x n j)
 co:∀(j x:Nat) (n:Int) (k:Nat),rs[j]?=some (Row.come x n k)->rs[k]?=some (.go x n j)
theorem un0{α:Type}{xs:List α}{i:Nat}{x:α}(h:xs[i]?=some x):i<xs.length:=(J7.mp h).1
theorem w37{rs:List Row}{bs:List Int}{s:Nat}(h:mayF rs bs s=true):s<rs.length:=by
 by_cases q:s<rs.length
 ·exact q
 ·unfold mayF at h;rw[K9 (by omega)] at h;cases h
theorem vj1{rs:List Row}{bs:List Int}{s:Nat}(h:mayB rs bs s=true):s≠0:=by
 intro e;subst e;cases h
theorem wz8{rs:List Row}{bs:List Int}{s sz:Nat}(hp:Pairs rs)(c:Cde sz rs bs s)(hm:mayF rs bs s=true) :
  Cde sz rs (nxF rs bs s).2 (nxF rs bs s).1/\mayB rs (nxF rs bs s).2 (nxF rs bs s).1=true/\nxB rs (nxF rs bs s).2 (nxF rs bs s).1=(s,bs):=by
 have hlt:=w37 hm;have hg:=B6 hlt;have hok:=c.ro _ (P7 hlt);have pln:∀row:Row,rs[s]=row->row.plain=true->nxF rs bs s=(s+1,stp 1 bs row)/\(mayB rs (stp 1 bs row) (s+1)=true/\nxB rs (stp 1 bs row) (s+1)=(s,bs)):=by
  intro row hrow hpl;have h1:=v73 (bs:=bs) hlt (by rw[hrow];exact hpl);have h2:=vs3 (bs:=stp 1 bs row) hlt (by rw[hrow];exact hpl);rw[hrow] at h1 h2;rw[hrow] at hok;refine⟨h1.2,h2.1,?_⟩;rw[h2.2,uw2 (.inl rfl) c.bo hok]
 have fin:∀row:Row,rs[s]=row->row.plain=true->Cde sz rs (nxF rs bs s).2 (nxF rs bs s).1/\mayB rs (nxF rs bs s).2 (nxF rs bs s).1=true/\nxB rs (nxF rs bs s).2 (nxF rs bs s).1=(s,bs):=by
  intro row hrow hpl;obtain⟨h1,h2,h3⟩:=pln row hrow hpl;rw[h1];rw[hrow] at hok;exact⟨⟨v50 c.bo hok,c.ro,hlt⟩,h2,h3⟩
 cases hrow:rs[s] with
 | add x o=>exact fin _ hrow rfl
 | take x o=>exact fin _ hrow rfl
 | turn x i cs=>exact fin _ hrow rfl
 | swap x y=>exact fin _ hrow rfl
 | go x n k =>
  have hk:=hp.go s x n k (by rw[hg,hrow]);have hkl:=un0 hk
  by_cases h:gt bs x=n
  ·have e:nxF rs bs s=(k+1,bs):=by unfold nxF;rw[hg,hrow];simp[h]
   rw[e];refine⟨⟨c.bo,c.ro,hkl⟩,?_,?_⟩
   ·show mayB rs bs (k+1)=true
    unfold mayB;rw[if_neg (by omega),K8,hk]
   ·show nxB rs bs (k+1)=(s,bs)
    unfold nxB;rw[K8,hk];simp[h]
  ·have e:nxF rs bs s=(s+1,bs):=by unfold nxF;rw[hg,hrow];simp[h]
   rw[e];refine⟨⟨c.bo,c.ro,hlt⟩,?_,?_⟩
   ·show mayB rs bs (s+1)=true
    unfold mayB;rw[if_neg (by omega),K8,hg,hrow];simp[h]
   ·show nxB rs bs (s+1)=(s,bs)
    unfold nxB;rw[K8,hg,hrow];rfl
 | come x n k =>
  have h:¬ gt bs x=n:=by unfold mayF at hm;rw[hg,hrow] at hm;simpa using hm
  have e:nxF rs bs s=(s+1,bs):=by unfold nxF;rw[hg,hrow];rfl
  rw[e];refine⟨⟨c.bo,c.ro,hlt⟩,?_,?_⟩
  ·show mayB rs bs (s+1)=true
   unfold mayB;rw[if_neg (by omega),K8,hg,hrow]
  ·show nxB rs bs (s+1)=(s,bs)
   unfold nxB;rw[K8,hg,hrow];simp[h]
theorem wz9{rs:List Row}{bs:List Int}{s sz:Nat}(hp:Pairs rs)(c:Cde sz rs bs s)(hm:mayB rs bs s=true) :
  Cde sz rs (nxB rs bs s).2 (nxB rs bs s).1/\mayF rs (nxB rs bs s).2 (nxB rs bs s).1=true/\nxF rs (nxB rs bs s).2 (nxB rs bs s).1=(s,bs):=by
 have hle:=c.le;obtain⟨t,rfl⟩:∃t,s=t+1:=⟨s-1,by have:=vj1 hm;omega⟩;have hlt:t<rs.length:=hle;have hg:=B6 hlt;have hok:=c.ro _ (P7 hlt);have fin:∀row:Row,rs[t]=row->row.plain=true->Cde sz rs (nxB rs bs (t+1)).2 (nxB rs bs (t+1)).1/\mayF rs (nxB rs bs (t+1)).2 (nxB rs bs (t+1)).1=true/\nxF rs (nxB rs bs (t+1)).2 (nxB rs bs (t+1)).1=(t+1,bs):=by
  intro row hrow hpl;have h2:=vs3 (bs:=bs) hlt (by rw[hrow];exact hpl);have h1:=v73 (bs:=stp (-1) bs row) hlt (by rw[hrow];exact hpl);rw[hrow] at h1 h2 hok;rw[h2.2];have sb:=uw2 (s:=-1) (.inr rfl) c.bo hok;rw[show(-(-1):Int)=1 from rfl] at sb;refine⟨⟨v50 c.bo hok,c.ro,L5 hlt⟩,h1.1,?_⟩
  show nxF rs (stp (-1) bs row) t=_
  rw[h1.2,sb]
 cases hrow:rs[t] with
 | add x o=>exact fin _ hrow rfl
 | take x o=>exact fin _ hrow rfl
 | turn x i cs=>exact fin _ hrow rfl
 | swap x y=>exact fin _ hrow rfl
 | come x n k =>
  have hk:=hp.co t x n k (by rw[hg,hrow]);have hkl:=un0 hk
  by_cases h:gt bs x=n
  ·have e:nxB rs bs (t+1)=(k,bs):=by unfold nxB;rw[K8,hg,hrow];simp[h]
   rw[e];refine⟨⟨c.bo,c.ro,L5 hkl⟩,?_,?_⟩
   ·show mayF rs bs k=true
    unfold mayF;rw[hk]
   ·show nxF rs bs k=(t+1,bs)
    unfold nxF;rw[hk];simp[h]
  ·have e:nxB rs bs (t+1)=(t,bs):=by unfold nxB;rw[K8,hg,hrow];simp[h]
   rw[e];refine⟨⟨c.bo,c.ro,L5 hlt⟩,?_,?_⟩
   ·show mayF rs bs t=true
    unfold mayF;rw[hg,hrow];simp[h]
   ·show nxF rs bs t=(t+1,bs)
    unfold nxF;rw[hg,hrow];rfl
 | go x n k =>
  have h:¬ gt bs x=n:=by unfold mayB at hm;rw[if_neg (by omega),K8,hg,hrow] at hm;simpa using hm
  have e:nxB rs bs (t+1)=(t,bs):=by unfold nxB;rw[K8,hg,hrow];rfl
  rw[e];refine⟨⟨c.bo,c.ro,L5 hlt⟩,?_,?_⟩
  ·show mayF rs bs t=true
   unfold mayF;rw[hg,hrow]
  ·show nxF rs bs t=(t+1,bs)
   unfold nxF;rw[hg,hrow];simp[h]
def od:Option Row->D
 | none=>.non
 | some r=>r.d
end Law
namespace Law
open PySem L2 L3 Rw
theorem StAt.grow{G G':Gp}{st:Addr}(h:StAt G st)(g:Grow G G'):StAt G' st:=by
 obtain⟨a,ns,k,r,h1,h2,h3⟩:=h.ex;exact⟨a,ns,k,r,g.kp _ _ h1,g.kp _ _ h2,h3⟩
theorem u34{ra ha:Addr}{s:Nat}:I0 ("rows" :Str) (flds ra ha s)=some (D.ref ra)/\I0 ("held" :Str) (flds ra ha s)=some (D.ref ha)/\I0 ("spot" :Str) (flds ra ha s)=some (D.int (s:Int)) /\
  I0 ("place" :Str) (flds ra ha s)=none/\I0 ("boxes" :Str) (flds ra ha s)=none/\I0 ("forth" :Str) (flds ra ha s)=none/\I0 ("back" :Str) (flds ra ha s)=none/\I0 ("at_end" :Str) (flds ra ha s)=none/\I0 ("at_begin" :Str) (flds ra ha s)=none /\
  I0 ("may_forth" :Str) (flds ra ha s)=none/\I0 ("may_back" :Str) (flds ra ha s)=none/\(∀v:D,putD ("spot" :Str) v (flds ra ha s)=([("rows",.ref ra),("held",.ref ha),("spot",v)]:List (Str×D))):=by
 refine⟨?_,?_,?_,?_,?_,?_,?_,?_,?_,?_,?_,λv=>?_⟩ <;> simp only[flds,ub0,beq_self_eq_true,E7,M9,putD,if_false,if_true]
theorem vb0{ra ha:Addr}{s:Nat}:(flds ra ha s).length<1000:=show 3<1000 by decide
theorem wo9(r:Row):(∃x m k,r=.go x m k)\/∃w rest,r.d=.tup (.str w::rest)/\(w=("go" :Str))=False/\∀(rs:List Row) (bs:List Int) (s:Nat),rs[s]?=some r->nxF rs bs s=(s+1,stp 1 bs r):=by
 cases r with
 | go x m k=>exact .inl ⟨x,m,k,rfl⟩
 | come x m k=>exact .inr ⟨_,_,rfl,v03,λrs bs s h=>by unfold nxF;rw[h]⟩
 | add x o=>exact .inr ⟨_,_,rfl,up9,λrs bs s h=>by unfold nxF;rw[h]⟩
 | take x o=>exact .inr ⟨_,_,rfl,uj6,λrs bs s h=>by unfold nxF;rw[h]⟩
 | turn x i cs=>exact .inr ⟨_,_,rfl,uj5,λrs bs s h=>by unfold nxF;rw[h]⟩
 | swap x y=>exact .inr ⟨_,_,rfl,uj7,λrs bs s h=>by unfold nxF;rw[h]⟩
theorem kinds3(r:Row):(∃x m k,r=.go x m k)\/(∃x m k,r=.come x m k)\/∃w rest,r.d=.tup (.str w::rest)/\(w=("go" :Str))=False/\(w=("come" :Str))=False/\r.plain=true:=by
 cases r with
 | go x m k=>exact .inl ⟨x,m,k,rfl⟩
 | come x m k=>exact .inr (.inl ⟨x,m,k,rfl⟩)
 | add x o=>exact .inr (.inr ⟨_,_,rfl,up9,ut3,rfl⟩)
 | take x o=>exact .inr (.inr ⟨_,_,rfl,uj6,up5,rfl⟩)
 | turn x i cs=>exact .inr (.inr ⟨_,_,rfl,uj5,up3,rfl⟩)
 | swap x y=>exact .inr (.inr ⟨_,_,rfl,uj7,up7,rfl⟩)
end Law
namespace L3
open PySem PySem.Spec PyProof.Rows L2
theorem uk9:∀ks:List Int,intsOf (ks.map D.int)=some ks
 | []=>rfl
 | k::ks=>by show(intsOf (ks.map D.int)).map (k::·)=_;rw[uk9 ks];rfl
theorem mem2{w a b:Str}:decide (w∈[a,b])=(decide (w=a)||decide (w=b)):=by
 by_cases h1:w=a
 ·simp[h1]
 ·by_cases h2:w=b
  ·simp[h2]
  ·simp[h1,h2]
theorem u47:(∀w a b G q,xInB false (.str w) (.tup [.str a,.str b]) G q=q (.bl (decide (w=a)||decide (w=b))) G)/\(∀w a b G q,xInB true (.str w) (.tup [.str a,.str b]) G q=q (.bl (!(decide (w=a)||decide (w=b)))) G) /\
  (∀v a G q,xInB true (.int v) (.ref a) G q=(match u13 (G a) with|some ds=>(match intsOf ds with|some ws=>q (.bl (!decide (v∈ws))) G|none=>False)|none=>False)) /\
  (∀v a G q,xInB false (.int v) (.ref a) G q=(match u13 (G a) with|some ds=>(match intsOf ds with|some ws=>q (.bl (decide (v∈ws))) G|none=>False)|none=>False)) /\
  (∀i j G q,xEqB true (.bl i) (.bl j) G q=q (.bl (!decide (i=j))) G)/\(∀i j G q,xEqB false (.bl i) (.bl j) G q=q (.bl (decide (i=j))) G) /\
  (∀a b G q,xAdd (.ref a) (.ref b) G q=(match G a,G b with|some (.lst xs),some (.lst ys)=>xs.length+ys.length<=sizeLine/\∀p,G p=none->q (.ref p) (gup G p (.lst (xs++ys)))|_,_=>False))/\((2<=sizeLine)=True):=by
 refine⟨λw a b G q=>?_,λw a b G q=>?_,λ_ _ _ _=>rfl,λ_ _ _ _=>rfl,λ_ _ _ _=>rfl,λ_ _ _ _=>rfl,λ_ _ _ _=>rfl,eq_true (by decide)⟩
 ·show q (.bl (decide (w∈[a,b]))) G=_
  rw[mem2]
 ·show q (.bl (!decide (w∈[a,b]))) G=_
  rw[mem2]
theorem u66:∀m:Nat,us9 (C2 m (.bl true))=some (C2 m true)
 | 0=>rfl
 | m+1=>by rw[M4,us9,u66 m];rfl
theorem uc1(m:Nat):(C2 m true).all id=true:=by simp
theorem vd8{a p:Addr}{G0:Gp}{ks0:List Int}{bnd:Int}{te:TE3}{tl:DSt}{q:DK}(hte:∀(v:Int) (G:Gp) (q:DK),q (.bl (decide (v<bnd))) G->te (some (.int v)::tl) G q)(ha:u13 (G0 a)=some (ks0.map .int))(hp:a≠p)(hl:ks0.length<=1000)(hks:∀k∈ks0,k<bnd)
  (hq:q (.ref p) (gup G0 p (.lst (C2 ks0.length (.bl true))))) (v0:Option D):ui9 (λG=>u13 (G a)=some (ks0.map .int)) (uh3 0) dYes te p q (ks0.map .int) (v0::tl) (gup G0 p (.lst [])):=by
 refine u28 (λr σ G'=>∃(ks:List Int) (m:Nat) (v:Option D),r=ks.map .int/\ks.length+m=ks0.length/\(∀k∈ks,k<bnd)/\G'=gup G0 p (.lst (C2 m (.bl true)))/\σ=v::tl) ⟨ks0,0,v0,rfl,by omega,hks,rfl,rfl⟩ ?_ ?_
 ·rintro σ G' ⟨ks,m,v,e,hm,_,rfl,rfl⟩
  have hk:ks=[]:=by simpa using e.symm
  subst hk;refine⟨by rw[u06 hp];exact ha,?_⟩;have hm':m=ks0.length:=by simpa using hm
  rw[hm'];exact hq
 ·rintro z r σ G' ⟨ks,m,v,e,hm,hk,rfl,rfl⟩ ih
  cases ks with
  | nil=>cases e
  | cons k ks =>
   cases e;refine⟨by rw[u06 hp];exact ha,?_⟩;have hk1:decide (k<bnd)=true:=decide_eq_true (hk k D7);simp only[uh3,dYes,B20,if_true];refine hte k _ _ ?_;rw[hk1];simp only[u01];rw[C0] at hm;refine⟨by rw[J9];exact C4 (m:=1000) (by omega) (by decide),?_⟩;refine ih _ _ ⟨ks,m+1,_,rfl,by omega,λj hj=>hk j (C6 _ hj),?_,rfl⟩;rw[u29,T9]
end L3
namespace Rw
open PySem L2 L3
def rb:Row->List Int
 | .add _ (.box y)=>[(y:Int)]
 | .take _ (.box y)=>[(y:Int)]
 | .turn _ _ cs=>cs.map λc=>(c.1:Int)
 | .swap _ y=>[(y:Int)]
 | _=>[]
def rbits:Row->List Int
 | .turn _ i cs=>(i:Int)::cs.map λc=>(c.2:Int)
 | _=>[]
def rnums:Row->List Int
 | .add _ (.num n)=>[n]
 | .take _ (.num n)=>[n]
 | .go _ n _=>[n]
 | .come _ n _=>[n]
 | _=>[]
def Row.x:Row->Nat
 | .add x _=>x
 | .take x _=>x
 | .turn x _ _=>x
 | .swap x _=>x
 | .go x _ _=>x
 | .come x _ _=>x
theorem v63(r:Row):∃w rest,r.d=.tup (.str w::.int (r.x:Int)::rest):=by
 cases r <;> exact⟨_,_,rfl⟩
theorem vs0{sz:Nat}{r:Row}(h:r.ok sz):(rb r).length<=2:=by
 cases r with
 | add x o=>cases o <;> simp[rb]
 | take x o=>cases o <;> simp[rb]
 | turn x i cs=>simp only[rb,B5];exact h.2.2.1
 | swap x y=>simp[rb]
 | go x n k=>simp[rb]
 | come x n k=>simp[rb]
theorem v68{sz:Nat}{r:Row}(h:r.ok sz):(rbits r).length<=3:=by
 cases r with
 | turn x i cs=>simp only[rbits,C0,B5];have:=h.2.2.1;omega
 | add x o=>simp[rbits]
 | take x o=>simp[rbits]
 | swap x y=>simp[rbits]
 | go x n k=>simp[rbits]
 | come x n k=>simp[rbits]
theorem v64{r:Row}:(rnums r).length<=1:=by
 cases r with
 | add x o=>cases o <;> simp[rnums]
 | take x o=>cases o <;> simp[rnums]
 | turn x i cs=>simp[rnums]
 | swap x y=>simp[rnums]
 | go x n k=>simp[rnums]
 | come x n k=>simp[rnums]
theorem ok_x{sz:Nat}{r:Row}(h:r.ok sz):r.x<sz:=by
 cases r <;> exact h.1
theorem wi0{sz:Nat}{r:Row}(h:r.ok sz):∀k∈rb r,k<(sz:Int)/\k≠(r.x:Int):=by
 intro k hk;cases r with
 | add x o =>
  cases o with
  | num n=>cases hk
  | box y=>rw[rb,D9] at hk;subst hk;have:=h.2;exact⟨by have:=this.1;omega,by have:=this.2;show(y:Int)≠(x:Int);omega⟩
 | take x o =>
  cases o with
  | num n=>cases hk
  | box y=>rw[rb,D9] at hk;subst hk;have:=h.2;exact⟨by have:=this.1;omega,by have:=this.2;show(y:Int)≠(x:Int);omega⟩
 | turn x i cs =>
  obtain⟨c,hc,rfl⟩:=P1.mp hk;have:=h.2.2.2 c hc;exact⟨by have:=this.1;omega,by have:=this.2.1;show(c.1:Int)≠(x:Int);omega⟩
 | swap x y=>rw[rb,D9] at hk;subst hk;have:=h.2;exact⟨by have:=this.1;omega,by have:=this.2;show(y:Int)≠(x:Int);omega⟩
 | go x n k=>cases hk
 | come x n k=>cases hk
theorem wj4{sz:Nat}{r:Row}(h:r.ok sz):∀k∈rbits r,k<32:=by
 intro k hk;cases r with
 | turn x i cs =>
  rcases D1.mp hk with rfl|hk
  ·have:=h.2.1;omega
  ·obtain⟨c,hc,rfl⟩:=P1.mp hk
   have:=(h.2.2.2 c hc).2.2;omega
 | add x o=>cases hk
 | take x o=>cases hk
 | swap x y=>cases hk
 | go x n k=>cases hk
 | come x n k=>cases hk
theorem wj3{sz:Nat}{r:Row}(h:r.ok sz):∀k∈rnums r,k<4294967296:=by
 intro k hk;cases r with
 | add x o =>
  cases o with
  | num n=>rw[rnums,D9] at hk;subst hk;exact h.2.2
  | box y=>cases hk
 | take x o =>
  cases o with
  | num n=>rw[rnums,D9] at hk;subst hk;exact h.2.2
  | box y=>cases hk
 | turn x i cs=>cases hk
 | swap x y=>cases hk
 | go x n k=>rw[rnums,D9] at hk;subst hk;exact h.2.2
 | come x n k=>rw[rnums,D9] at hk;subst hk;exact h.2.2
theorem vs7(r:Row):(∃w x o,(r=.add x o\/r=.take x o)/\r.d=.tup [.str w,.int (x:Int),o.d]/\(decide (w=("add" :Str))||decide (w=("take" :Str)))=true)\/(∃x i cs,r=.turn x i cs)\/(∃x y,r=.swap x y) \/
  ∃w x n k,(r=.go x n k\/r=.come x n k)/\r.d=.tup [.str w,.int (x:Int),.int n,.int (k:Int)]/\(decide (w=("add" :Str))||decide (w=("take" :Str)))=false/\(w=("turn" :Str))=False/\(w=("swap" :Str))=False/\(decide (w=("go" :Str))||decide (w=("come" :Str)))=true:=by
 cases r with
 | add x o=>exact .inl ⟨_,x,o,.inl rfl,rfl,by decide⟩
 | take x o=>exact .inl ⟨_,x,o,.inr rfl,rfl,by decide⟩
 | turn x i cs=>exact .inr (.inl ⟨x,i,cs,rfl⟩)
 | swap x y=>exact .inr (.inr (.inl ⟨x,y,rfl⟩))
 | go x n k=>exact .inr (.inr (.inr ⟨_,x,n,k,.inl rfl,rfl,by decide,uj8,v02,by decide⟩))
 | come x n k=>exact .inr (.inr (.inr ⟨_,x,n,k,.inr rfl,rfl,by decide,ue3,up8,by decide⟩))
theorem wp0(r:Row):(∃x i cs,r=.turn x i cs)\/∃w rest,r.d=.tup (.str w::rest)/\(w=("turn" :Str))=False/\rbits r=[]:=by
 cases r with
 | turn x i cs=>exact .inl ⟨x,i,cs,rfl⟩
 | add x o=>exact .inr ⟨_,_,rfl,ut2,rfl⟩
 | take x o=>exact .inr ⟨_,_,rfl,up4,rfl⟩
 | swap x y=>exact .inr ⟨_,_,rfl,up6,rfl⟩
 | go x n k=>exact .inr ⟨_,_,rfl,uj8,rfl⟩
 | come x n k=>exact .inr ⟨_,_,rfl,ue3,rfl⟩
theorem vc7{G:Gp}{xs ys:List D}{r:Row}{Q:Bool->Prop}(h1:D.tup xs=r.d)(h2:D.tup ys=r.d)(h:Q true) :
  ∃n sd se b,n<=40/\snap G n (.tup xs)=some sd/\snap G n (.tup ys)=some se/\eqN n sd se=some b/\Q b:=by
 obtain⟨s,hs⟩:=uw4 (G:=G) (n:=0) r;rw[h1,h2];exact⟨3,s,s,true,by decide,hs,hs,ub9 3 hs,h⟩
end Rw
namespace Law
open PySem L2 L3 Rw
def mayX(fw:Bool)(rs:List Row)(bs:List Int)(s:Nat):Bool:=if fw=true then mayF rs bs s else mayB rs bs s
def nxX(fw:Bool)(rs:List Row)(bs:List Int)(s:Nat):Nat×List Int:=if fw=true then nxF rs bs s else nxB rs bs s
theorem wz7{fw:Bool}{rs:List Row}{bs:List Int}{s sz:Nat}(hp:Pairs rs)(c:Cde sz rs bs s)(hm:mayX fw rs bs s=true) :
  Cde sz rs (nxX fw rs bs s).2 (nxX fw rs bs s).1/\mayX (!fw) rs (nxX fw rs bs s).2 (nxX fw rs bs s).1=true/\nxX (!fw) rs (nxX fw rs bs s).2 (nxX fw rs bs s).1=(s,bs):=by
 cases fw with
 | true=>exact wz8 hp c hm
 | false=>exact wz9 hp c hm
def rn(fw:Bool)(rs:List Row):Nat->Nat->List Int->Nat×Nat×List Int
 | 0,s,bs=>(0,s,bs)
 | n+1,s,bs=>if mayX fw rs bs s=true then((rn fw rs n (nxX fw rs bs s).1 (nxX fw rs bs s).2).1+1,(rn fw rs n (nxX fw rs bs s).1 (nxX fw rs bs s).2).2) else(0,s,bs)
def wrd(fw:Bool)(rs:List Row)(bs:List Int)(s:Nat):Str :=
 if s=(if fw=true then rs.length else 0) then(if fw=true then "end" else "begin") else if mayX fw rs bs s=true then "tired" else "torn"
def outD(fw:Bool)(rs:List Row)(r:Nat×Nat×List Int)(q:Addr):D:=.tup [.str (wrd fw rs r.2.2 r.2.1),.int (r.2.1:Int),.ref q,.int (r.1:Int)]
theorem wd8{fw:Bool}{rs:List Row}{n s:Nat}{bs:List Int}(h:mayX fw rs bs s=true):rn fw rs (n+1) s bs=((rn fw rs n (nxX fw rs bs s).1 (nxX fw rs bs s).2).1+1,(rn fw rs n (nxX fw rs bs s).1 (nxX fw rs bs s).2).2):=by
 show(if mayX fw rs bs s=true then _ else _)=_
 rw[if_pos h]
theorem v65{fw:Bool}{rs:List Row}{n s:Nat}{bs:List Int}(h:mayX fw rs bs s=false):rn fw rs n s bs=(0,s,bs):=by
 cases n with
 | zero=>rfl
 | succ n=>show(if mayX fw rs bs s=true then _ else _)=_;rw[if_neg (by rw[h];exact C7)]
structure RnI(fw:Bool)(rs:List Row)(most s0:Nat)(bs0:List Int)(k s:Nat)(bs:List Int):Prop where
 le:k<=most
 eq:rn fw rs most s0 bs0=(k+(rn fw rs (most-k) s bs).1,(rn fw rs (most-k) s bs).2)
theorem RnI.init{fw:Bool}{rs:List Row}{most s0:Nat}{bs0:List Int}:RnI fw rs most s0 bs0 0 s0 bs0:=⟨N4 _,by rw[A29,Q9]⟩
theorem RnI.step{fw:Bool}{rs:List Row}{most s0 k s:Nat}{bs0 bs:List Int}(h:RnI fw rs most s0 bs0 k s bs)(hk:k<most)(hm:mayX fw rs bs s=true):RnI fw rs most s0 bs0 (k+1) (nxX fw rs bs s).1 (nxX fw rs bs s).2:=by
 refine⟨hk,?_⟩;rw[h.eq,show most-k=(most-(k+1))+1 by omega,wd8 hm]
 show(k+((rn fw rs (most-(k+1)) _ _).1+1),_)=_
 rw[show∀a:Nat,k+(a+1)=k+1+a from λa=>by omega]
theorem RnI.stop{fw:Bool}{rs:List Row}{most s0 k s:Nat}{bs0 bs:List Int}(h:RnI fw rs most s0 bs0 k s bs)(hk:¬ k<most\/mayX fw rs bs s=false):rn fw rs most s0 bs0=(k,s,bs):=by
 have e:rn fw rs (most-k) s bs=(0,s,bs):=by
  rcases hk with hk|hk
  ·have:=h.le
   rw[show most-k=0 by omega];rfl
  ·exact v65 hk
 rw[h.eq,e];rfl
end Law
namespace L2
open PySem PySem.Spec PyProof.Rows
theorem Inv.turnedN{X:Cx}{pins:List (Addr×Obj)}{σ:List (Option V)}{H:Hp}{s:Shared}{h':Heap}{t':Nat}{fp:List Addr}(I:Inv X pins σ H s)(k:∀b o,b∉fp->s.heap.get? b=some o->h'.get? b=some o)
  (f:∀b∈fp,FpOk X pins H b):Inv X pins σ H { s with heap:=h',toks:=t'}:=by
 have nit:∀b u,H b=some u->b∉fp:=λb u e z=>by rw[(f b z).1] at e;cases e
 refine I.step (g':=s.gens) (d':=s.drawn) (ch:=fp) (λb hb=>?_) (λb o _ _ hc e _=>k b o hc e) (λb o _ _ hc e _=>⟨o.slots,k b o hc e⟩) (λ_ _ _ _ n=>n)
  (λb o hc e=>⟨o,k b o hc e⟩) (λ_ _ e=>e) (λ_ _ _ e=>e) (λb ps e=>⟨#[],by rw[e];simp⟩) (λm hm=>?_) (λb u e=>?_) I.bare
 ·obtain⟨g0,g1,g2,g3,g4,g5⟩:=f b hb
  exact⟨g3,g1,g4,g5⟩
 ·obtain⟨o,es,ep,ho,r⟩:=hm
  exact⟨o,es,ep,k _ o (λz=>(f _ z).2.1 rfl) ho,r⟩
 ·refine(I.hok b u e).stay (λc v hc q=>k c v ?_ q) (λ_ q=>q) λ_ _ q=>q
  rcases hc with z|z
  ·rw[z];exact nit b u e
  ·exact nit c _ z
theorem Inv.turnedL{X:Cx}{pins:List (Addr×Obj)}{σ:List (Option V)}{H:Hp}{s:Shared}{h':Heap}{t':Nat}{fp:List Addr}{o:HO}(I:Inv X pins σ H s)(k:∀b o,b∉fp->s.heap.get? b=some o->h'.get? b=some o)
  (f:∀b∈fp,FpOk X pins H b) (new:ObjOk X.prog X.w (upd H s.heap.objs.size o) h' s.heap.objs.size o):Inv X pins σ (upd H s.heap.objs.size o) { s with heap:=h',toks:=t'}:=by
 have hn:H s.heap.objs.size=none:=I.hok.fresh (B9 _);have old:∀b u,H b=some u->b≠s.heap.objs.size:=λb u q z=>by rw[z,hn] at q;cases q
 have nit:∀b u,H b=some u->b∉fp:=λb u e z=>by rw[(f b z).1] at e;cases e
 refine I.step (g':=s.gens) (d':=s.drawn) (ch:=fp) (λb hb=>?_) (λb o _ _ hc q _=>k b o hc q) (λb o _ _ hc q _=>⟨o.slots,k b o hc q⟩) (λb u _ q n=>?_)
  (λb o hc q=>⟨o,k b o hc q⟩) (λb xs q=>?_) (λb o u q=>?_) (λb ps q=>⟨#[],?_⟩) (λm hm=>?_) (λb u q=>?_) I.bare
 ·obtain⟨g0,g1,g2,g3,g4,g5⟩:=f b hb
  exact⟨g3,g1,g4,g5⟩
 ·rw[u22 (E6 (D5 q))];exact n
 ·rw[u22 (old b _ q)];exact q
 ·rw[u22 (old b _ q)];exact q
 ·rw[u22 (old b _ q),q];simp
 ·obtain⟨o,es,ep,ho,r⟩:=hm
  exact⟨o,es,ep,k _ o (λz=>(f _ z).2.1 rfl) ho,r⟩
 ·by_cases hb:b=s.heap.objs.size
  ·subst hb;rw[u30] at q;cases q;exact new
  ·rw[u22 hb] at q
   refine(I.hok b u q).stay (λc v hc z=>?_) (λc z=>by rw[u22 (old c _ z)];exact z) λc xs z=>by rw[u22 (old c _ z)];exact z
   rcases hc with y|y
   ·subst y;exact k _ v (nit _ u q) z
   ·exact k c v (nit c _ y) z
end L2
namespace L3
open PySem PySem.Spec PyProof.Rows L2
def zpD:List D->List D->List D
 | d::r,e::t=>.tup [d,e]::zpD r t
 | _,_=>[]
theorem ut0:∀{ds es:List D},(zpD ds es).length=min ds.length es.length
 | [],[]=>rfl
 | [],_::_=>by simp[zpD]
 | _::_,[]=>by simp[zpD]
 | _::r,_::t=>by show(zpD r t).length+1=_;rw[ut0];simp
theorem v34:∀{i:Nat} {ds es:List D} {d e:D},ds[i]?=some d->es[i]?=some e->(zpD ds es)[i]?=some (.tup [d,e])
 | 0,d::r,e::t,_,_,h1,h2=>by cases h1;cases h2;rfl
 | i+1,d::r,e::t,_,_,h1,h2=>v34 (i:=i) (ds:=r) (es:=t) (by simpa using h1) (by simpa using h2)
 | _,[],_,_,_,h,_=>by simp at h
 | _,_::_,[],_,_,_,h=>by simp at h
end L3
namespace L3
open PySem PySem.Spec PyProof.Rows L2 Rw
def pc(b m:Nat):Nat:=(J6 b).countP λi=>m.testBit i
theorem ui3(a b:Nat):V1 (a:Int) (b:Int)=((a &&& b:Nat):Int):=by
 unfold V1;simp
theorem ux0(a b:Nat):Z9 (a:Int) (b:Int)=((a ||| b:Nat):Int):=by
 have h1:∀x:Nat,¬ (0<=Z1 (x:Int)):=λx=>by unfold Z1;omega
 have h2:∀x:Int,Z1 (Z1 x)=x:=λx=>by unfold Z1;omega
 unfold Z9 V1;simp only[h1,decide_false,h2,T7]
end L3
namespace L2
open PySem PySem.Spec PyProof.Rows
abbrev ub4(h:Heap)(z TI TO T:Addr)(f:Bool):Prop:=h.get? z=some { cls:=.type "zip",data:=.fields #[rawInt (T:Int),.bool f,.bool false,.ref TI,.ref TO]}
end L2
namespace L3
open PySem PySem.Spec PyProof.Rows L2 Rw
abbrev Mv:=Bool×Nat
def nD(x:Nat):D:=.int (x:Int)
def xr(m k:Nat):Nat:=m ^^^ 2^(k-1)
def hi(m:Nat):Nat:=if m=0 then 0 else m.log2+1
theorem x15{m i:Nat}(h:m.testBit i=false):m ||| 2^i=m ^^^ 2^i:=X1 λj=>by
 rw[B72,A88,V0]
 by_cases e:i=j
 ·subst e;rw[h];simp
 ·simp[e]
theorem wg8{m i:Nat}(h:m.testBit i=true):m ||| 2^i=m:=X1 λj=>by
 rw[B72,V0]
 by_cases e:i=j
 ·subst e;rw[h];rfl
 ·simp[e]
theorem w86{m i:Nat}(h:m.testBit i=true):m &&& 2^i=2^i:=X1 λj=>by
 rw[A89,V0]
 by_cases e:i=j
 ·subst e;rw[h];rfl
 ·simp[e]
theorem ws6{m i:Nat}(h:m.testBit i=false):m &&& 2^i=0:=X1 λj=>by
 rw[A89,V0,Nat.zero_testBit]
 by_cases e:i=j
 ·subst e;rw[h];rfl
 ·simp[e]
theorem vo4:∀{i m:Nat},m.testBit i=true->(m ^^^ 2^i)+2^i=m
 | 0,m,h=>by
  have h1:m%2=1:=by rw[Z7] at h;simpa using h
  have h2:(m ^^^ 1) / 2=m / 2:=by rw[A90];simp
  have h3:(m ^^^ 1)%2=0:=by
   have:(m ^^^ 1).testBit 0=false:=by rw[A88,h];rfl
   rw[Z7] at this;have:=of_decide_eq_false this;omega
  show(m ^^^ 1)+1=m
  omega
 | i+1,m,h=>by
  have h0:(m / 2).testBit i=true:=by rw[<- Nat.testBit_succ];exact h
  have ih:=vo4 h0;have e1:2^(i+1) / 2=2^i:=by rw[A73];omega
  have h2:(m ^^^ 2^(i+1)) / 2=m / 2 ^^^ 2^i:=by rw[A90,e1]
  have h3:(m ^^^ 2^(i+1))%2=m%2:=by
   have a:(m ^^^ 2^(i+1)).testBit 0=m.testBit 0:=by
    rw[A88,V0];simp
   rw[Z7,Z7] at a;have b:=decide_eq_decide.mp a;omega
  rw[A73] at h2 h3⊢;omega
theorem xor_int(m i:Nat):X0 (m:Int) (1*2^i)=((m ^^^ 2^i:Nat):Int):=by
 have e:(1*2^i:Int)=((2^i:Nat):Int):=by simp
 unfold X0;rw[e,ux0,ui3];cases h:m.testBit i with
 | true =>
  rw[wg8 h,w86 h];have:=vo4 h;omega
 | false =>
  rw[x15 h,ws6 h];simp
def fin:Nat->List Mv->Nat
 | m,[]=>m
 | m,p::r=>fin (xr m p.2) r
def low:Nat->List Mv->Nat
 | m,[]=>hi m
 | m,p::r=>min (low (xr m p.2) r) (hi m)
def thw:Nat->List Mv->List Mv
 | _,[]=>[]
 | m,p::r=>if p.2<=low (xr m p.2) r then p::thw (xr m p.2) r else thw (xr m p.2) r
def once(w:List Mv):List Mv:=thw 0 w
theorem at_getD{α:Type}{xs:List α}{v:Int}(h0:0<=v)(h1:v<(xs.length:Int)):∃x,x∈xs/\atI xs v=some x:=by
 have h2:v.toNat<xs.length:=by omega
 refine⟨xs[v.toNat],P7 _,?_⟩;unfold atI ixN;rw[if_pos h0,if_pos h1,X3,B6 h2]
def hD(x:Nat):D:=nD (hi x)
def cnt:Nat->Nat->Nat
 | 0,_=>0
 | n+1,m=>cnt n m+(if m.testBit n then 1 else 0)
theorem ve9{G:Gp}{a b:Addr}{xs ys:List D}{q:DK}(ha:G a=some (.lst xs))(hb:G b=some (.lst ys))(hz:xs.length+ys.length<=sizeLine)(k:∀p,G p=none->q (.ref p) (gup G p (.lst (xs++ys)))):xAdd (.ref a) (.ref b) G q:=by
 unfold xAdd;simp only[ha,hb];exact⟨hz,k⟩
theorem vm6{α:Type}{xs:List α}{n:Nat}:cutD xs none (some (n:Int))=xs.take n:=by
 unfold cutD;rw[HT.sIx_none,HT.sIx_nat,A97,A29]
 rcases C16 n xs.length with h|h
 ·rw[B64 h]
 ·rw[B49 h,Z2 (B9 _),Z2 h]
abbrev Pm:=Option Mv
def flp:Pm->Pm
 | none=>none
 | some p=>some (!p.1,p.2)
theorem ux1{P:Program}{w:World}{K:W.Frag}{mg:Str->Option Value}{base:Heap}{n:Nat}{x qual:Str}{st:Stmt}{ps:List Str}{d:FnAt K x qual st ps}{S:Sp3}(h:∀ds G R,¬ S ds G R):Ok P w mg base n d S :=
 ⟨λvs H Q E ⟨ds,G,R,_,_,s,_⟩=>absurd s (h ds G R),λA outer s H args us vs Q E _ _ _ _ ⟨ds,G,R,_,_,s,_⟩=>absurd s (h ds G R)⟩
theorem ud3{G:Gp}{a b:Addr}{xs ys:List D}{q:DK}(ha:G a=some (.lst xs))(hb:G b=some (.lst ys))(hz:xs.length+ys.length<=100000)(k:∀p,G p=none->q (.ref p) (gup G p (.lst (xs++ys)))):xAdd (.ref a) (.ref b) G q :=
 ve9 ha hb (L5 (C4 hz (by decide))) k
end L3
namespace Law
open PySem L2 L3 Rw
theorem Adv.grow{G G1 G2:Gp}{st:Addr}(a:Adv st G G1)(g:Grow G1 G2):Adv st G G2:=⟨a.at_.grow g,λc o h e=>g.kp _ _ (a.kp c o h e)⟩
end Law
namespace L3
open PySem PySem.Spec PyProof.Rows L2
def kD:Key->D
 | .inl i=>.int i
 | .inr x=>.str x
section
variable{X:Cx}{K:W.Frag}{G:Gp}{H:Hp}{p:Addr}
theorem um6:∀{ks:List Key} {xs:List V},RelDs K H (ks.map kD) xs->xs=ks.map kV
 | [],xs,r=>r.inv_nil
 | .inl i::ks,xs,r=>by
  obtain⟨x,xs',rfl,h1,h2⟩:=r.inv_cons;rw[(show RelD K H (.int i) x from h1).int_inv,um6 h2];rfl
 | .inr z::ks,xs,r=>by
  obtain⟨x,xs',rfl,h1,h2⟩:=r.inv_cons;rw[(show RelD K H (.str z) x from h1).str_inv,um6 h2];rfl
theorem Le.dT{xs ys:List (List Key×V)}(h:H p=some (.dT xs)):Le H (upd H p (.dT ys)) :=
  ⟨fun b zs q => by by_cases e : b = p
                    · subst e;rw[h] at q;cases q
                    · rw[u22 e];exact q,
   fun b o u q => by by_cases e : b = p
                     · subst e;rw[h] at q;cases q
                     · rw[u22 e];exact q⟩
end
end L3
namespace L2
open PySem PySem.Spec PyProof.Rows
theorem vn1:P3 "list" = some (.type "list"):=by decide
end L2
namespace L3
open PySem PySem.Spec PyProof.Rows L2
theorem v66{K:W.Frag}{H:Hp}{i:Int}:∀l:List Nat,RelDs K H (l.map λk:Nat=>D.int (i+k)) (l.map λk:Nat=>V.int (i+k))
 | []=>.nil
 | _::l=>.cons RelD.intI (v66 l)
section
variable{X:Cx}{K:W.Frag}{H:Hp}{σ:L2.St}{a b c:Expr}{ta tb tc:TE3}{pos:Pos}
def vc6(r r':R3)(ta tb tc:TE3):TE3:=λσ G q=>ta σ G λx G1=>tb σ G1 λy G2=>r x y G2 λz G3=>match z with
 | .bl k=>if k=true then tc σ G3 λw G4=>r' y w G4 q else q (.bl false) G3
 | _=>False
theorem v93{r r':R3}{Q:VK}(h:lowE K (vc6 r r' ta tb tc) σ H Q):vp3 (lowR K r) (lowR K r') (lowE K ta) (lowE K tb) (lowE K tc) σ H Q:=by
 obtain⟨σd,G,q,rs,c,t,f⟩:=h;refine⟨σd,G,_,rs,c,t,λd G1 v H1 r1 c1 l1 t1=>⟨σd,G1,_,rs.le l1,c1,t1,λe G2 u H2 r2 c2 l2 t2=>⟨d,e,G2,_,RelD.le l2 r1,r2,c2,t2,λz G3 x H3 r3 c3 l3 t3=>?_⟩⟩⟩;have l13:=l1.trans (l2.trans l3);split at t3
 ·rename_i k
  refine⟨k,r3.bl_inv,?_⟩;cases k with
  | true =>
   rw[if_pos rfl] at t3⊢;exact⟨σd,G3,_,rs.le l13,c3,t3,λz2 G4 x2 H4 r4 c4 l4 t4=>⟨e,z2,G4,q,RelD.le (l3.trans l4) r2,r4,c4,t4,f.le (l13.trans l4)⟩⟩
  | false =>
   rw[if_neg C7] at t3⊢;exact f _ _ _ _ RelD.blI c3 l13 t3
 ·exact t3.elim
theorem w67{op op':CmpOp}{r r':R3}(ho:Op3 X (K1 op) r)(ho':Op3 X (K1 op') r')(ha:E3 X a ta)(hb:E3 X b tb)(hc:E3 X c tc)(hm:lastMarks [op,op'] [b,c]=false:=by with_unfolding_all rfl):E3 X (.Compare a [op,op'] [b,c] pos) (vc6 r r' ta tb tc) :=
 u51 (vi3 ho ho' ha hb hc hm) λ_ _ _=>v93
end
end L3
namespace L2
open PySem PySem.Spec PyProof.Rows
def jn(sep:Str)(ws:List Str):Str:=C54 sep ws
section
variable{X:Cx}
theorem uo5:∀{ws:List Str} {us:List Value},Vals (ws.map V.str) us->∃l:List (Str×Tok),us=strValues l/\l.map (·.1)=ws
 | [],_,.nil=>⟨[],rfl,rfl⟩
 | w::ws,_,.cons r t=>by
  obtain⟨l,rfl,e⟩:=uo5 t;obtain⟨k,rfl⟩:=r;exact⟨(w,k)::l,rfl,by rw[C8,e]⟩
def rJoin(K:W.Frag):V->List V->Hp->VK->Prop:=λx vs H Q=>∃(sep:Str) (p:Addr) (ws:List Str),x=.str sep/\vs=[.ref p]/\SqL K H p (ws.map V.str)/\X7 ((ws.toArray).foldl (·+·.length+sep.length) 0)=false/\(jn sep ws).length<=sizeLine/\Q (.str (jn sep ws)) H
theorem w35:MtR X "str.join" (rJoin X.K):=by
 intro pins s σ H x vs v us Q I rx rv h;obtain⟨sep,p,ws,rfl,rfl,hq,hl,hz,q⟩:=h;obtain⟨t,rfl⟩:=rx;obtain⟨u,rfl,ru⟩:=rv.one;cases ru;obtain⟨its,r',pl,_⟩:=I.list hq;obtain⟨l,rfl,e⟩:=uo5 r';refine X2 F.slot_str_join (B30 _ _ _) F.entry_str_join (F.args_str_join_2 _ _) (meets_str_join_list sep t p l (by rw[e];exact hl)) ⟨pl.isList,?_⟩
 match l,e with
 | [],e =>
  subst e;exact⟨hz,.str _,H,I.tok _,⟨_,rfl⟩,q⟩
 | [a],e =>
  subst e;exact⟨.str _,H,I,⟨_,rfl⟩,q⟩
 | a::b::l,e =>
  subst e;exact⟨hz,.str _,H,I.tok _,⟨_,rfl⟩,q⟩
end
end L2
namespace L3
open PySem PySem.Spec PyProof.Rows L2
section
variable{X:Cx}{K:W.Frag}{H:Hp}{o e:Expr}{es:List Expr}{to:TE3}{ts:TA3}{apos cpos:Pos}
@[reducible] def wo5:M3:=λx ds G q=>∃(sep:Str) (a:Addr) (ws:List Str),x=.str sep/\ds=[.ref a]/\u13 (G a)=some (ws.map .str)/\X7 ((ws.toArray).foldl (·+·.length+sep.length) 0)=false/\(jn sep ws).length<=sizeLine/\q (.str (jn sep ws)) G
theorem uw8:∀{ws:List Str} {vs:List V},RelDs K H (ws.map .str) vs->vs=ws.map V.str
 | [],vs,r=>r.inv_nil
 | w::ws,vs,r=>by
  obtain⟨x,ys,rfl,h1,h2⟩:=r.inv_cons;rw[uw8 h2,h1.str_inv];rfl
theorem ty_str(K:W.Frag):∀G H x v,Con K G H->RelD K H x v->tyD G "str" x->tyV K "str" v H:=by
 intro G H x v c r t;cases x with
 | str i=>cases r.str_inv;exact rfl
 | int _=>simp[tyD] at t
 | ref a=>cases e:G a with
  | none=>simp[tyD,e] at t
  | some o=>cases o <;> simp[tyD,e] at t
 | _=>exact t.elim
theorem wr4(ho:E3 X o to)(ha:A3 X (e::es) ts)(hbase:L9 o "join" X.env (eval o X.env)=eval o X.env:=by rfl)
  (hfew:((backTo cpos (C5 (e::es) X.env)).all (λx=>!x.1)&&(Q5 cpos (M5 [] X.env)).all (λx=>x.1.isSome)
   && decide ((e::es).length+([]:List Keyword).length+(if([]:List Keyword).isEmpty then 0 else 1)<30))=true:=by rfl)
  (hline:(apos.endLine==cpos.line)=true:=by rfl) (hs:C5 (e::es) X.env=(false,eval e X.env)::C5 es X.env:=by rfl) (hplain:(backTo cpos (C5 es X.env)).any (·.1)=false:=by rfl) :
  E3 X (.Call (.Attribute o "join" apos) (e::es) [] cpos) (dBM "str" wo5 to ts) :=
 u51 (vi5 PySem.F.plainAttrs_str PySem.F.slot_str_join PySem.F.type_str_join (uo4 (r':=lowM X.K wo5) w35 <| by
  rintro x xs H Q ⟨d,ds,G,q,r1,r2,c,⟨sep,a,ws,rfl,rfl,es,h1,h2,t⟩,f⟩;obtain⟨v,rfl,r3⟩:=r2.one;cases r3.ref_inv;cases r1.str_inv;obtain⟨ys,s1,q1⟩:=u41 c es;obtain rfl:=uw8 q1;exact⟨sep,a,ws,rfl,rfl,s1,h1,h2,f _ _ _ _ RelD.strI c (Le.refl H) t⟩) ho ha hbase hfew hline hs hplain) λ_ _ _=>ux9 (ty_str X.K)
theorem wp6:∀ws:List Str,(jn W4 ws).length=(ws.map B18).sum:=by
 have key:∀(ws:List Str) (acc:Array Nat),(ws.foldl (λacc p=>acc++W4.cps++p.cps) acc).size=acc.size+(ws.map B18).sum:=by
  intro ws
  induction ws with
  | nil=>intro acc;simp
  | cons w ws ih =>
   intro acc;rw[A84,ih,A42,A42]
   show acc.size+0+w.cps.size+_=_
   rw[C8,C05]
   show _=acc.size+(w.cps.size+_)
   omega
 intro ws;cases ws with
 | nil=>rfl
 | cons w ws =>
  show(ws.foldl (λacc p=>acc++W4.cps++p.cps) w.cps).size=_
  rw[key];rfl
end
end L3
namespace L3
open PySem PySem.Spec PyProof.Rows L2 Rw
inductive Atm
 | num (i:Nat)
 | box (x:Str)
def aD:Atm->D
 | .num i=>.int (i:Int)
 | .box x=>.str x
inductive Rowp
 | is (x:Str) (a:Atm)
 | op (x o:Str) (a b:Atm)
 | cho (a:Atm) (ys ns:List Rowp)
 | tim (k:Nat) (ys:List Rowp)
mutual
def rowD:Rowp->D
 | .is x a=>.tup [.str "is",.str x,aD a]
 | .op x o a b=>.tup [.str "op",.str x,.str o,aD a,aD b]
 | .cho a ys ns=>.tup [.str "choose",aD a,.tup (u25 ys),.tup (u25 ns)]
 | .tim k ys=>.tup [.str "times",.int (k:Int),.tup (u25 ys)]
def u25:List Rowp->List D
 | []=>[]
 | r::rs=>rowD r::u25 rs
end
theorem u58:∀rs:List Rowp,u25 rs=rs.map rowD
 | []=>rfl
 | r::rs=>by rw[u25,u58 rs];rfl
theorem u98(rs:List Rowp):(u25 rs).length=rs.length:=by rw[u58,B5]
theorem ug4(a b:List Rowp):u25 (a++b)=u25 a++u25 b:=by rw[u58,u58,u58,D2]
def okA(W:Nat)(bs:List Str):Atm->Prop
 | .num i=>i<2^W
 | .box x=>x∈bs
def signs:List Str:=["+", "-", "&", "|", "^", "<", "="]
mutual
def okR(W:Nat)(bs:List Str):Rowp->Prop
 | .is x a=>x∈bs/\okA W bs a
 | .op x o a b=>x∈bs/\o∈signs/\okA W bs a/\okA W bs b
 | .cho a ys ns=>okA W bs a/\okL W bs ys/\okL W bs ns
 | .tim k ys=>k<=20/\okL W bs ys
def okL(W:Nat)(bs:List Str):List Rowp->Prop
 | []=>True
 | r::rs=>okR W bs r/\okL W bs rs
end
theorem okL_app{W:Nat}{bs:List Str}:∀{a b:List Rowp},okL W bs (a++b)↔okL W bs a/\okL W bs b
 | [],b=>by simp[okL]
 | r::a,b=>by
  show okR W bs r/\okL W bs (a++b)↔(okR W bs r/\okL W bs a)/\okL W bs b
  rw[okL_app,and_assoc]
mutual
def depR:Rowp->Nat
 | .is _ _=>0
 | .op _ _ _ _=>0
 | .cho _ ys ns=>1+max (depL ys) (depL ns)
 | .tim _ ys=>1+depL ys
def depL:List Rowp->Nat
 | []=>0
 | r::rs=>max (depR r) (depL rs)
end
theorem ud0:∀{a b:List Rowp},depL (a++b)=max (depL a) (depL b)
 | [],b=>by simp[depL]
 | r::a,b=>by
  show max (depR r) (depL (a++b))=max (max (depR r) (depL a)) (depL b)
  rw[ud0];omega
mutual
def szR:Rowp->Nat
 | .is _ _=>1
 | .op _ _ _ _=>1
 | .cho _ ys ns=>1+szL ys+szL ns
 | .tim _ ys=>1+szL ys
def szL:List Rowp->Nat
 | []=>0
 | r::rs=>szR r+szL rs
end
theorem u97:∀{a b:List Rowp},szL (a++b)=szL a+szL b
 | [],b=>by simp[szL]
 | r::a,b=>by
  show szR r+szL (a++b)=szR r+szL a+szL b
  rw[u97];omega
theorem vv3:∀r:Rowp,1<=szR r
 | .is _ _=>B9 _
 | .op _ _ _ _=>B9 _
 | .cho _ ys ns=>by show 1<=1+szL ys+szL ns;omega
 | .tim _ ys=>by show 1<=1+szL ys;omega
theorem uy0:∀rs:List Rowp,rs.length<=szL rs
 | []=>B9 _
 | r::rs=>by
  have:=vv3 r;have:=uy0 rs
  show rs.length+1<=szR r+szL rs
  omega
inductive Hd
 | c1 (a:Atm)
 | c2 (a:Atm) (ys:List Rowp)
 | tm (k:Nat)
def hdD:Hd->D
 | .c1 a=>.tup [.str "choose",aD a]
 | .c2 a ys=>.tup [.str "choose",aD a,.tup (u25 ys)]
 | .tm k=>.tup [.str "times",.int (k:Int)]
def Hd.ok(W:Nat)(bs:List Str):Hd->Prop
 | .c1 a=>okA W bs a
 | .c2 a ys=>okA W bs a/\okL W bs ys
 | .tm k=>k<=20
theorem snap_rows{G:Gp}:∀(d k:Nat) (r:Rowp),depR r<=d->∃s,snap G (k+2*d+1) (rowD r)=some s:=by
 intro d k
 induction d with
 | zero =>
  intro r h;cases r with
  | is x a =>
   refine Rw.snap_tup (n:=k+2*0) λe he=>?_
   simp only[D1,L8,or_false] at he
   rcases he with rfl|rfl|rfl
   ·exact Rw.snap_str
   ·exact Rw.snap_str
   ·cases a <;> first|exact Rw.snap_int|exact Rw.snap_str
  | op x o a b =>
   refine Rw.snap_tup (n:=k+2*0) λe he=>?_
   simp only[D1,L8,or_false] at he
   rcases he with rfl|rfl|rfl|rfl|rfl
   ·exact Rw.snap_str
   ·exact Rw.snap_str
   ·exact Rw.snap_str
   ·cases a <;> first|exact Rw.snap_int|exact Rw.snap_str
   ·cases b <;> first|exact Rw.snap_int|exact Rw.snap_str
  | cho a ys ns=>simp only[depR] at h;omega
  | tim k2 ys=>simp only[depR] at h;omega
 | succ d ih =>
  intro r h;have hin:∀ys:List Rowp,depL ys<=d->∃s,snap G (k+2*d+2) (.tup (u25 ys))=some s:=by
   intro ys hy;refine Rw.snap_tup (n:=k+2*d+1) λe he=>?_
   rw[u58] at he;obtain⟨r',hr',rfl⟩:=P1.mp he;refine ih r' ?_;clear he
   induction ys with
   | nil=>cases hr'
   | cons y ys ih2 =>
    simp only[depL] at hy
    rcases D1.mp hr' with e|e
    ·subst e;omega
    ·exact ih2 (by omega) e
  have at_:∀a:Atm,∃s,snap G (k+2*d+2) (aD a)=some s:=λa=>by
   cases a <;> first|exact Rw.snap_int|exact Rw.snap_str
  cases r with
  | is x a =>
   refine Rw.snap_tup (n:=k+2*d+2) λe he=>?_
   simp only[D1,L8,or_false] at he
   rcases he with rfl|rfl|rfl
   ·exact Rw.snap_str
   ·exact Rw.snap_str
   ·exact at_ a
  | op x o a b =>
   refine Rw.snap_tup (n:=k+2*d+2) λe he=>?_
   simp only[D1,L8,or_false] at he
   rcases he with rfl|rfl|rfl|rfl|rfl
   ·exact Rw.snap_str
   ·exact Rw.snap_str
   ·exact Rw.snap_str
   ·exact at_ a
   ·exact at_ b
  | cho a ys ns =>
   simp only[depR] at h;refine Rw.snap_tup (n:=k+2*d+2) λe he=>?_
   simp only[D1,L8,or_false] at he
   rcases he with rfl|rfl|rfl|rfl
   ·exact Rw.snap_str
   ·exact at_ a
   ·exact hin ys (by omega)
   ·exact hin ns (by omega)
  | tim k2 ys =>
   simp only[depR] at h;refine Rw.snap_tup (n:=k+2*d+2) λe he=>?_
   simp only[D1,L8,or_false] at he
   rcases he with rfl|rfl|rfl
   ·exact Rw.snap_str
   ·exact Rw.snap_int
   ·exact hin ys (by omega)
theorem ug7:∀{ys:List Rowp} {d:Nat},depL ys<=d->∀r∈ys,depR r<=d
 | [],_,_,r,h=>by cases h
 | y::ys,d,hd,r,h=>by
  simp only[depL] at hd
  rcases D1.mp h with e|e
  ·subst e;omega
  ·exact ug7 (by omega) r e
theorem v01{G:Gp}{ys:List Rowp}{k:Nat}(h:depL ys<=5):∀e∈u25 ys,∃s,snap G (k+2*5+1) e=some s:=by
 intro e he;rw[u58] at he;obtain⟨r,hr,rfl⟩:=P1.mp he;exact snap_rows 5 k r (ug7 h r hr)
end L3
namespace L2
open PySem PySem.Spec PyProof.Rows
def tyN:Bool->String
 | true => "tuple_iterator"
 | false => "list_iterator"
def SIt(c:Bool)(h:Heap)(it l:Addr)(i:Nat):Prop:=∃o,h.get? it=some o/\o.cls=.type (tyN c)/\o.data=.fields #[.ref l,.int i 0]
def SOf(c:Bool)(h:Heap)(l:Addr)(xs:Array Value):Prop:=∃o,h.get? l=some o/\o.cls=.type (cond c "tuple" "list")/\∃n,o.data=.seq xs n
theorem SIt.at{c:Bool}{h h':Heap}{it l:Addr}{i:Nat}(x:SIt c h it l i)(e:∀o,h.get? it=some o->h'.get? it=some o):SIt c h' it l i:=let ⟨o,ho,r⟩:=x;⟨o,e _ ho,r⟩
theorem SOf.at{c:Bool}{h h':Heap}{l:Addr}{xs:Array Value}(x:SOf c h l xs)(e:∀o,h.get? l=some o->h'.get? l=some o):SOf c h' l xs:=let ⟨o,ho,r⟩:=x;⟨o,e _ ho,r⟩
section
variable{prog:Program}{w:World}{A:Around}{E:Value->Shared->Prop}{s:Shared}
theorem wo2{j l:Addr}{i:Nat}{xs:Array Value}{x:Value}{Q:Value->Shared->Prop}(hj:s.heap.IsTupleIter j l i)(hl:s.heap.IsTuple l xs)(hx:xs[i]?=some x)
  (q:∀h',h'.IsTupleIter j l (i+1)->Q6 j s.heap h'->Q x { s with heap:=h'}):wpAny (model prog w) A (J8 (.ref j)) Q E s:=by
 obtain⟨u,eu,cu,du⟩:=id hj;obtain⟨v,ev,_,nv,dv⟩:=hl;unfold J8;refine B4 (M6 (name:=C1 "__next__") hj.typeIs F.slot_tuple_iterator_next (R4 F.slot_tuple_iterator_next hj.typeIs F.entry_tuple_iterator_next ?_ (F.args_tuple_iterator_next_1 _)))
 show wpAny _ _ (field (.ref j) 0 >>= _) _ _ s
 refine B4 (K3 eu du (x:=.ref l) rfl ?_)
 show wpAny _ _ (if(J4 l==V5)=true then _ else _) _ _ s
 rw[if_neg (c:=(J4 l==V5)=true) λz=>C7 z]
 show wpAny _ _ (field (.ref j) 1 >>= _) _ _ s
 refine B4 (K3 eu du (x:=.int i 0) rfl ?_)
 show wpAny _ _ (seqItems? (.ref l) >>= _) _ _ s
 refine B4 (M7 ev dv ?_);simp only[T7,hx];refine B4 (wpAny_setField eu du (by simp) (C9 ⟨x,rfl,C9 (q _ ?_ (B09 ..))⟩));refine⟨_,A94 _ eu (Obj.isFreed_of_fields (B21 du _)),(Obj.cls_mapFields ..).trans cu,?_⟩;rw[B21 du];simp[rawInt]
theorem v10{j l:Addr}{i:Nat}{xs:Array Value}{Q:Value->Shared->Prop}(hh:A.handled=none)(hj:s.heap.IsTupleIter j l i)(hl:s.heap.IsTuple l xs)(hx:xs[i]?=none)
  (q:∀h' e,C31 j s.heap h'->(∃o,h'.get? e=some o/\o.cls=.type "StopIteration")->E (.ref e) { s with heap:=h'}):wpAny (model prog w) A (J8 (.ref j)) Q E s:=by
 obtain⟨u,eu,cu,du⟩:=id hj;obtain⟨v,ev,_,nv,dv⟩:=hl;unfold J8;refine B4 (M6 (name:=C1 "__next__") hj.typeIs F.slot_tuple_iterator_next (R4 F.slot_tuple_iterator_next hj.typeIs F.entry_tuple_iterator_next ?_ (F.args_tuple_iterator_next_1 _)))
 show wpAny _ _ (field (.ref j) 0 >>= _) _ _ s
 refine B4 (K3 eu du (x:=.ref l) rfl ?_)
 show wpAny _ _ (if(J4 l==V5)=true then _ else _) _ _ s
 rw[if_neg (c:=(J4 l==V5)=true) λz=>C7 z]
 show wpAny _ _ (field (.ref j) 1 >>= _) _ _ s
 refine B4 (K3 eu du (x:=.int i 0) rfl ?_)
 show wpAny _ _ (seqItems? (.ref l) >>= _) _ _ s
 refine B4 (M7 ev dv ?_);simp only[T7,hx];refine B4 (B31 (B4 (wpAny_setField eu du (by simp) ?_)))
 show wpAny _ _ (newExc (.type "StopIteration") [] >>= _) _ _ _
 refine B4 ?_;simp only[newExc,newTuple];refine B4 (Q2 ?_ (by size_fits));refine B4 (m:=firstArgMember _ _) (wpAny_of_eq (a:=V5) (by first|rfl|(simp only[firstArgMember];rfl)) ?_);refine Q2 ?_ (by size_fits);simp only[raiseNew];refine B4 (wpAny_handled ?_)
 first|rw[show A.in1.handled=none from hh]|rw[hh]
 refine B4 (C9 (wpAny_throw ?_));exact q _ _ (((B09 ..).extBut.push _).push _) ⟨_,D8 _ rfl,rfl⟩
theorem ug5{c:Bool}{j l:Addr}{i:Nat}{xs:Array Value}{x:Value}{Q:Value->Shared->Prop}(hj:SIt c s.heap j l i)(hl:SOf c s.heap l xs)(hx:xs[i]?=some x)
  (q:∀h',SIt c h' j l (i+1)->Q6 j s.heap h'->Q x { s with heap:=h'}):wpAny (model prog w) A (J8 (.ref j)) Q E s:=by
 cases c with
 | true=>exact wo2 hj hl hx q
 | false=>exact wpAny_nextOf_list_item hj hl hx q
theorem v82{c:Bool}{j l:Addr}{i:Nat}{xs:Array Value}{Q:Value->Shared->Prop}(hh:A.handled=none)(hj:SIt c s.heap j l i)(hl:SOf c s.heap l xs)(hx:xs[i]?=none)
  (q:∀h' e,C31 j s.heap h'->(∃o,h'.get? e=some o/\o.cls=.type "StopIteration")->E (.ref e) { s with heap:=h'}):wpAny (model prog w) A (J8 (.ref j)) Q E s:=by
 cases c with
 | true=>exact v10 hh hj hl hx q
 | false=>exact wpAny_nextOf_list_end hh hj hl hx q
theorem vt7{c d:Bool}{z TI TO i1 i2 l1 l2:Addr}{k1 k2:Nat}{xs ys:Array Value}{x y a b:Value}{Q:Value->Shared->Prop}(D:Y1 z TI TO i1 i2 l1 l2)
  (ez:IsZip s.heap z TI TO .none) (eI:IsPair s.heap TI (.ref i1) (.ref i2)) (eO:IsPair s.heap TO a b) (j1:SIt c s.heap i1 l1 k1) (j2:SIt d s.heap i2 l2 k2) (m1:SOf c s.heap l1 xs) (m2:SOf d s.heap l2 ys) (hx:xs[k1]?=some x) (hy:ys[k2]?=some y)
  (q:∀h',IsZip h' z TI TO (rawInt s.heap.objs.size)->IsPair h' TO x y->SIt c h' i1 l1 (k1+1)->SIt d h' i2 l2 (k2+1)->IsPair h' s.heap.objs.size x y->h'.objs.size=s.heap.objs.size+1->(∀e o,e≠z->e≠TO->e≠i1->e≠i2->s.heap.get? e=some o->h'.get? e=some o)->Q (.ref s.heap.objs.size) { s with heap:=h'}) :
  wpAny (model prog w) A (Builtin.«zip.__next__» ⟨[.ref z],[]⟩) (λfin s'=>∃v,fin=.done (.ret v)/\Q v s') E s:=by
 show wpAny _ _ (field (.ref z) 2 >>= _) _ _ _
 refine B4 (K3 ez rfl (x:=.bool false) rfl ?_)
 show wpAny _ _ (field (.ref z) 3 >>= _) _ _ _
 refine B4 (K3 ez rfl (x:=.ref TI) rfl ?_);refine B4 (M7 eI rfl ?_)
 show wpAny _ _ (K5 (.ref z) >>= _) _ _ _
 refine B4 ?_;unfold K5;refine B4 (K3 ez rfl (x:=.none) rfl (C9 ?_));simp only[if_true];refine B4 (B31 ?_);refine B4 (K3 ez rfl (x:=.ref TO) rfl ?_);refine B4 (O7 ez (by simp) λg1 e1 b1=>?_)
 replace e1:IsZip g1 z TI TO .ellipsis:=e1
 have u1:∀{e o},e≠z->s.heap.get? e=some o->g1.get? e=some o:=λn z=>(b1.2 _ n).trans z
 refine B4 ?_;simp only[B50,B65,Y2,A35];refine B4 (B4 (A51 ?_))
 show wpAny _ _ (J8 (.ref i1) >>= _) _ _ _
 refine B4 (ug5 (j1.at λo=>u1 D.i1z) (m1.at λo=>u1 D.l1z) hx λg2 n1 b2=>C9 ?_);have u2:∀{e o},e≠i1->g1.get? e=some o->g2.get? e=some o:=λn z=>(b2.2 _ n).trans z
 have o2:IsPair g2 TO a b:=u2 D.TOi1 (u1 D.TOz eO);refine B4 (M7 o2 rfl ?_);refine B4 (A07 o2 λg3 o3 b3=>?_)
 replace o3:IsPair g3 TO x b:=o3
 have u3:∀{e o},e≠TO->g2.get? e=some o->g3.get? e=some o:=λn z=>(b3.2 _ n).trans z
 refine B4 (B60 (C9 ?_));refine B4 (B4 (A51 ?_))
 show wpAny _ _ (J8 (.ref i2) >>= _) _ _ _
 refine B4 (ug5 (j2.at λo e=>u3 (D6 D.TOi2) (u2 (D6 D.i12) (u1 D.i2z e))) (m2.at λo e=>u3 D.l2TO (u2 D.l2i1 (u1 D.l2z e))) hy λg4 n2 b4=>C9 ?_);have u4:∀{e o},e≠i2->g3.get? e=some o->g4.get? e=some o:=λn z=>(b4.2 _ n).trans z
 have o4:IsPair g4 TO x b:=u4 D.TOi2 o3;refine B4 (M7 o4 rfl ?_);refine B4 (A07 o4 λg5 o5 b5=>?_)
 replace o5:IsPair g5 TO x y:=o5
 have u5:∀{e o},e≠TO->g4.get? e=some o->g5.get? e=some o:=λn z=>(b5.2 _ n).trans z
 refine B4 (B60 (C9 (C9 ?_)));refine B4 (M7 o5 rfl ?_);refine B4 (wpAny_newTuple ?_);have sz:g5.objs.size=s.heap.objs.size:=by rw[b5.1,b4.1,b3.1,b2.1,b1.1]
 have z5:IsZip g5 z TI TO .ellipsis:=u5 (D6 D.TOz) (u4 (D6 D.i2z) (u3 (D6 D.TOz) (u2 (D6 D.i1z) e1)));have zl:z<g5.objs.size:=D5 z5
 show wpAny _ _ (X8 (.ref z) (.ref g5.objs.size) >>= _) _ _ _
 refine B4 ?_;unfold X8;have z6:IsZip (g5.push { cls:=.type "tuple",data:=.seq #[x,y]}) z TI TO .ellipsis:=B7 _ z5;refine B4 (O7 z6 (by simp) λg7 z7 b7=>?_)
 replace z7:IsZip g7 z TI TO (rawInt g5.objs.size):=z7
 refine O7 z7 (by simp) λg8 z8 b8=>?_
 replace z8:IsZip g8 z TI TO (rawInt g5.objs.size):=z8
 have u8:∀{e o},e≠z->(g5.push { cls:=.type "tuple",data:=.seq #[x,y]}).get? e=some o->g8.get? e=some o:=λn z=>(b8.2 _ n).trans ((b7.2 _ n).trans z)
 have t8:IsPair g8 g5.objs.size x y:=u8 (T6 zl) (D8 _ rfl);have s8:g8.objs.size=g5.objs.size+1:=by rw[b8.1,b7.1,L6]
 rw[sz] at z8 t8 s8;refine C9 ⟨_,rfl,?_⟩
 show Q (.ref g5.objs.size) _
 rw[sz];have v8:∀{e o},e≠z->g5.get? e=some o->g8.get? e=some o:=λn z=>u8 n (B7 _ z)
 exact q g8 z8 (v8 D.TOz o5) (n1.at λo e=>v8 D.i1z (u5 (D6 D.TOi1) (u4 D.i12 (u3 (D6 D.TOi1) e)))) (n2.at λo e=>v8 D.i2z (u5 (D6 D.TOi2) e)) t8 s8
  λe o p1 p2 p3 p4 h=>v8 p1 (u5 p2 (u4 p4 (u3 p2 (u2 p3 (u1 p1 h)))))
theorem wa2{c d:Bool}{z TI TO i1 i2 l1 l2:Addr}{k1 k2:Nat}{xs ys:Array Value}{a b:Value}{Q:Fin->Shared->Prop}(hh:A.handled=none)(D:Y1 z TI TO i1 i2 l1 l2)
  (ez:IsZip s.heap z TI TO .none) (eI:IsPair s.heap TI (.ref i1) (.ref i2)) (eO:IsPair s.heap TO a b) (j1:SIt c s.heap i1 l1 k1) (j2:SIt d s.heap i2 l2 k2) (m1:SOf c s.heap l1 xs) (m2:SOf d s.heap l2 ys) (hend:xs[k1]?=none\/ys[k2]?=none)
  (q:∀h' e,(∀e o,e≠z->e≠TO->e≠i1->e≠i2->s.heap.get? e=some o->h'.get? e=some o)->(∃o,h'.get? e=some o/\o.cls=.type "StopIteration")->E (.ref e) { s with heap:=h'}) :
  wpAny (model prog w) A (Builtin.«zip.__next__» ⟨[.ref z],[]⟩) Q E s:=by
 show wpAny _ _ (field (.ref z) 2 >>= _) _ _ _
 refine B4 (K3 ez rfl (x:=.bool false) rfl ?_)
 show wpAny _ _ (field (.ref z) 3 >>= _) _ _ _
 refine B4 (K3 ez rfl (x:=.ref TI) rfl ?_);refine B4 (M7 eI rfl ?_)
 show wpAny _ _ (K5 (.ref z) >>= _) _ _ _
 refine B4 ?_;unfold K5;refine B4 (K3 ez rfl (x:=.none) rfl (C9 ?_));simp only[if_true];refine B4 (B31 ?_);refine B4 (K3 ez rfl (x:=.ref TO) rfl ?_);refine B4 (O7 ez (by simp) λg1 e1 b1=>?_)
 replace e1:IsZip g1 z TI TO .ellipsis:=e1
 have u1:∀{e o},e≠z->s.heap.get? e=some o->g1.get? e=some o:=λn z=>(b1.2 _ n).trans z
 refine B4 ?_;simp only[B50,B65,Y2,A35];refine B4 (B4 (A51 ?_))
 show wpAny _ _ (J8 (.ref i1) >>= _) _ _ _
 have stopz:∀{g:Heap} {e:Addr},IsZip g z TI TO .ellipsis->(∃o,g.get? e=some o/\o.cls=.type "StopIteration")->e≠z:=λhz ⟨o,h1,h2⟩ n=>by
  subst n;rw[hz] at h1;cases h1;simp at h2
 cases hx:xs[k1]? with
 | none =>
  refine B4 (v82 hh (j1.at λo=>u1 D.i1z) (m1.at λo=>u1 D.l1z) hx λg2 e b2 he=>?_);have z2:IsZip g2 z TI TO .ellipsis:=b2 _ _ (D6 D.i1z) e1;have ne:=stopz z2 he;obtain⟨oe,k1,k2⟩:=he;refine O7 z2 (by simp) λg3 _ b3=>q g3 e (λf o p1 _ p3 _ h=>(b3.2 _ p1).trans (b2 _ _ p3 (u1 p1 h))) ⟨oe,(b3.2 _ ne).trans k1,k2⟩
 | some x =>
  have hy:ys[k2]?=none:=by
   rcases hend with h|h
   ·rw[hx] at h;cases h
   ·exact h
  refine B4 (ug5 (j1.at λo=>u1 D.i1z) (m1.at λo=>u1 D.l1z) hx λg2 n1 b2=>C9 ?_);have u2:∀{e o},e≠i1->g1.get? e=some o->g2.get? e=some o:=λn z=>(b2.2 _ n).trans z
  have o2:IsPair g2 TO a b:=u2 D.TOi1 (u1 D.TOz eO);refine B4 (M7 o2 rfl ?_);refine B4 (A07 o2 λg3 o3 b3=>?_);have u3:∀{e o},e≠TO->g2.get? e=some o->g3.get? e=some o:=λn z=>(b3.2 _ n).trans z
  refine B4 (B60 (C9 ?_));refine B4 (B4 (A51 ?_))
  show wpAny _ _ (J8 (.ref i2) >>= _) _ _ _
  refine B4 (v82 hh (j2.at λo e=>u3 (D6 D.TOi2) (u2 (D6 D.i12) (u1 D.i2z e))) (m2.at λo e=>u3 D.l2TO (u2 D.l2i1 (u1 D.l2z e))) hy λg4 e b4 he=>?_);have z4:IsZip g4 z TI TO .ellipsis:=b4 _ _ (D6 D.i2z) (u3 (D6 D.TOz) (u2 (D6 D.i1z) e1));have ne:=stopz z4 he;obtain⟨oe,k1,k2⟩:=he;refine O7 z4 (by simp) λg5 _ b5=>q g5 e (λf o p1 p2 p3 p4 h=>(b5.2 _ p1).trans (b4 _ _ p4 (u3 p2 (u2 p3 (u1 p1 h))))) ⟨oe,(b5.2 _ ne).trans k1,k2⟩
theorem v33{c d:Bool}{z TI TO i1 i2 l1 l2:Addr}{k1 k2:Nat}{xs ys:Array Value}{x y a b:Value}{Q:Option Value->Shared->Prop}(D:Y1 z TI TO i1 i2 l1 l2)
  (ez:IsZip s.heap z TI TO .none) (eI:IsPair s.heap TI (.ref i1) (.ref i2)) (eO:IsPair s.heap TO a b) (j1:SIt c s.heap i1 l1 k1) (j2:SIt d s.heap i2 l2 k2) (m1:SOf c s.heap l1 xs) (m2:SOf d s.heap l2 ys) (hx:xs[k1]?=some x) (hy:ys[k2]?=some y)
  (q:∀h',IsZip h' z TI TO (rawInt s.heap.objs.size)->IsPair h' TO x y->SIt c h' i1 l1 (k1+1)->SIt d h' i2 l2 (k2+1)->IsPair h' s.heap.objs.size x y->h'.objs.size=s.heap.objs.size+1->(∀e o,e≠z->e≠TO->e≠i1->e≠i2->s.heap.get? e=some o->h'.get? e=some o)->Q (some (.ref s.heap.objs.size)) { s with heap:=h'}) :
  wpAny (model prog w) A (pyNext (.ref z)) Q E s:=by
 have ty:s.TypeIs (.ref z) "zip" := ⟨_,ez,rfl⟩;unfold pyNext;refine B4 (A52 (M6 (name:=C1 "__next__") ty F.slot_zip_next (R4 F.slot_zip_next ty F.entry_zip_next ?_ (F.args_zip_next_1 _))));exact vt7 D ez eI eO j1 j2 m1 m2 hx hy λh' a1 a2 a3 a4 a5 a6 a7=>C9 (q h' a1 a2 a3 a4 a5 a6 a7)
theorem v32{c d:Bool}{z TI TO i1 i2 l1 l2:Addr}{k1 k2:Nat}{xs ys:Array Value}{a b:Value}{Q:Option Value->Shared->Prop}(hh:A.handled=none)(D:Y1 z TI TO i1 i2 l1 l2)
  (ez:IsZip s.heap z TI TO .none) (eI:IsPair s.heap TI (.ref i1) (.ref i2)) (eO:IsPair s.heap TO a b) (j1:SIt c s.heap i1 l1 k1) (j2:SIt d s.heap i2 l2 k2) (m1:SOf c s.heap l1 xs) (m2:SOf d s.heap l2 ys) (hend:xs[k1]?=none\/ys[k2]?=none)
  (q:∀h',(∀e o,e≠z->e≠TO->e≠i1->e≠i2->s.heap.get? e=some o->h'.get? e=some o)->Q none { s with heap:=h'}):wpAny (model prog w) A (pyNext (.ref z)) Q E s:=by
 have ty:s.TypeIs (.ref z) "zip" := ⟨_,ez,rfl⟩;unfold pyNext;refine B4 (A52 (M6 (name:=C1 "__next__") ty F.slot_zip_next (R4 F.slot_zip_next ty F.entry_zip_next ?_ (F.args_zip_next_1 _))));refine wa2 hh D ez eI eO j1 j2 m1 m2 hend λh' e hk ⟨o,k1,k2⟩=>?_
 exact B4 (wpAny_isInstance (T := "StopIteration") (b:=true) ⟨o,k1,k2⟩ isSubtype_stop (C9 (q _ hk)))
end
abbrev itO(c:Bool)(l:Addr):Obj:={ cls:=.type (tyN c),data:=.fields #[.ref l,.int 0 0]}
abbrev zt1(h:Heap)(c:Bool)(l1:Addr):Heap:=h.push (itO c l1)
abbrev zt2(h:Heap)(c d:Bool)(l1 l2:Addr):Heap:=(zt1 h c l1).push (itO d l2)
abbrev zt3(h:Heap)(c d:Bool)(l1 l2:Addr):Heap:=(zt2 h c d l1 l2).push { cls:=.type "tuple",data:=.seq #[.ref h.objs.size,.ref (zt1 h c l1).objs.size]}
abbrev zt4(h:Heap)(c d:Bool)(l1 l2:Addr):Heap:=(zt3 h c d l1 l2).push { cls:=.type "tuple",data:=.seq #[.none,.none]}
abbrev zt5(h:Heap)(c d:Bool)(l1 l2:Addr):Heap:=(zt4 h c d l1 l2).push { cls:=.type "zip",data:=.fields #[.none,.bool false,.bool false,.ref (zt2 h c d l1 l2).objs.size,.ref (zt3 h c d l1 l2).objs.size]}
theorem SOf.push{c:Bool}{h:Heap}{l:Addr}{xs:Array Value}(x:SOf c h l xs)(o:Obj):SOf c (h.push o) l xs:=x.at λ_ e=>B7 o e
set_option maxHeartbeats 4000000 in
theorem vo3(c d:Bool)(l1 l2:Addr)(xs ys:Array Value) :
  Meets (Builtin.«zip.__new__» ⟨[.type "zip",.ref l1,.ref l2],[]⟩) (λ_ R s=>SOf c s.heap l1 xs/\SOf d s.heap l2 ys/\R (.ok (.ret (.ref (zt4 s.heap c d l1 l2).objs.size))) { s with heap:=zt5 s.heap c d l1 l2}) :=
 .of_wp λprog w A R s h=>by
  obtain⟨hp,g,dd,tk,os⟩:=s;obtain⟨m1,m2,h⟩:=h;have sub:=sub_zip;cases c with
  | true =>
   have a1:B40 (A06 ⟨hp,g,dd,tk,os⟩) l1 xs:=m1;cases d with
   | true =>
    have a2:B40 (A06 ⟨hp.push { cls:=.type "tuple_iterator",data:=.fields #[.ref l1,.int 0 0]},g,dd,tk,os⟩) l2 ys:=m2.push _
    wp_walk using W0 a1,W0 a2
    exact⟨_,rfl,h⟩
   | false =>
    have a2:B57 (A06 ⟨hp.push { cls:=.type "tuple_iterator",data:=.fields #[.ref l1,.int 0 0]},g,dd,tk,os⟩) l2 ys:=m2.push _
    wp_walk using W0 a1,U4 a2
    exact⟨_,rfl,h⟩
  | false =>
   have a1:B57 (A06 ⟨hp,g,dd,tk,os⟩) l1 xs:=m1;cases d with
   | true =>
    have a2:B40 (A06 ⟨hp.push { cls:=.type "list_iterator",data:=.fields #[.ref l1,.int 0 0]},g,dd,tk,os⟩) l2 ys:=m2.push _
    wp_walk using U4 a1,W0 a2
    exact⟨_,rfl,h⟩
   | false =>
    have a2:B57 (A06 ⟨hp.push { cls:=.type "list_iterator",data:=.fields #[.ref l1,.int 0 0]},g,dd,tk,os⟩) l2 ys:=m2.push _
    wp_walk using U4 a1,U4 a2
    exact⟨_,rfl,h⟩
section
variable{prog:Program}{w:World}{A:Around}{E:Value->Shared->Prop}{s:Shared}
theorem vt8{c d:Bool}{l1 l2:Addr}{xs ys:Array Value}{Q:Value->Shared->Prop}(m1:SOf c s.heap l1 xs)(m2:SOf d s.heap l2 ys)
  (q:∀h',IsZip h' (s.heap.objs.size+4) (s.heap.objs.size+2) (s.heap.objs.size+3) .none->IsPair h' (s.heap.objs.size+2) (.ref s.heap.objs.size) (.ref (s.heap.objs.size+1))->IsPair h' (s.heap.objs.size+3) .none .none ->
   SIt c h' s.heap.objs.size l1 0->SIt d h' (s.heap.objs.size+1) l2 0->(∀e o,s.heap.get? e=some o->h'.get? e=some o)->Q (.ref (s.heap.objs.size+4)) { s with heap:=h'}) :
  wpAny (model prog w) A (call (.type "zip") [.ref l1,.ref l2]) Q E s:=by
 refine callType_new F.called_zip (by decide) (F.typeCall_zip_2 _ _) (F.newCall_zip_2 _ _) (λobj=>F.args_object_init_3 obj _ _) F.entry_zip_new (vo3 c d l1 l2 xs ys) ⟨m1,m2,?_⟩;have n1:(zt1 s.heap c l1).objs.size=s.heap.objs.size+1:=L6 ..;have n2:(zt2 s.heap c d l1 l2).objs.size=s.heap.objs.size+2:=by rw[L6,n1]
 have n3:(zt3 s.heap c d l1 l2).objs.size=s.heap.objs.size+3:=by rw[L6,n2]
 have n4:(zt4 s.heap c d l1 l2).objs.size=s.heap.objs.size+4:=by rw[L6,n3]
 have r5:(zt5 s.heap c d l1 l2).get? (zt4 s.heap c d l1 l2).objs.size=some _:=D8 _ rfl;have r4:(zt5 s.heap c d l1 l2).get? (zt3 s.heap c d l1 l2).objs.size=some _:=B7 _ (D8 _ rfl);have r3:(zt5 s.heap c d l1 l2).get? (zt2 s.heap c d l1 l2).objs.size=some _:=B7 _ (B7 _ (D8 _ rfl));have r2:(zt5 s.heap c d l1 l2).get? (zt1 s.heap c l1).objs.size=some _:=B7 _ (B7 _ (B7 _ (D8 _ rfl)));have r1:(zt5 s.heap c d l1 l2).get? s.heap.objs.size=some _:=B7 _ (B7 _ (B7 _ (B7 _ (D8 _ rfl))))
 show _/\_
 rw[n2,n3,n4] at r5;rw[n1,n2] at r3;rw[n3] at r4;rw[n1] at r2;rw[n4];refine⟨⟨_,r5,rfl⟩,q _ r5 r3 r4 ⟨_,r1,rfl,rfl⟩ ⟨_,r2,rfl,rfl⟩ λe o x=>?_⟩;exact B7 _ (B7 _ (B7 _ (B7 _ (B7 _ x))))
end
def Sq(c:Bool)(K:W.Frag)(H:Hp)(a:Addr)(xs:List V):Prop:=match c with
 | true=>SqT K H a xs
 | false=>SqL K H a xs
theorem Inv.sq{X:Cx}{pins:List (Addr×Obj)}{σ:List (Option V)}{H:Hp}{s:Shared}{c:Bool}{a:Addr}{xs:List V}(I:Inv X pins σ H s)(h:Sq c X.K H a xs):∃its:List Value,Vals xs its/\SOf c s.heap a its.toArray:=by
 cases c with
 | true =>
  obtain⟨its,r,p,_⟩:=I.tuple h;exact⟨its,r,p⟩
 | false =>
  obtain⟨its,r,p,_⟩:=I.list h;obtain⟨o,e,h1,h2⟩:=p.isList;exact⟨its,r,o,e,h1,h2⟩
theorem Inv.sq_inj{X:Cx}{pins:List (Addr×Obj)}{σ:List (Option V)}{H:Hp}{s:Shared}{c:Bool}{a:Addr}{xs ys:List V}(I:Inv X pins σ H s)(h:Sq c X.K H a xs)(h':Sq c X.K H a ys):xs=ys:=by
 cases c with
 | true=>exact I.tuple_inj h h'
 | false=>exact I.list_inj h h'
def ItZ(K:W.Frag)(c d:Bool)(a b:Addr):It :=
 ⟨λi H=>∃xs ys x y,Sq c K H a xs/\Sq d K H b ys/\xs[i]?=some x/\ys[i]?=some y,λi H v H'=>∃p x y,v=.ref p/\H p=none/\H'=upd H p (.tup [x,y])/\(∀xs,Sq c K H a xs->xs[i]?=some x)/\∀ys,Sq d K H b ys->ys[i]?=some y,
  λi H=>∃xs ys,Sq c K H a xs/\Sq d K H b ys/\(xs.length<=i\/ys.length<=i)⟩
def ZtSt(c d:Bool)(a b z TI TO i1 i2:Addr)(i:Nat)(h:Heap):Prop:=IsZip h z TI TO .none/\IsPair h TI (.ref i1) (.ref i2)/\(∃u v,IsPair h TO u v)/\SIt c h i1 a i/\SIt d h i2 b i
theorem vu7{P:Program}{w:World}{K:W.Frag}{elts:List Expr}{x1}{pos:Pos}{c d:Bool}{a b z TI TO i1 i2:Addr}(ap:Y1 z TI TO i1 i2 a b):Turn P w K (.Tuple elts x1 pos) (ItZ K c d a b) [z,TI,TO,i1,i2] z (ZtSt c d a b z TI TO i1 i2) where
 mem:=by simp
 obj:=λi h st e he=>by
  obtain⟨h1,h2,⟨u,v,h3⟩,h4,h5⟩:=st;simp only[D1,L8,or_false] at he
  rcases he with q|q|q|q|q <;> subst q
  ·exact⟨_,h1,λv z=>by cases(show B56 _=B05 v from z)⟩
  ·exact⟨_,h2,λv z=>by cases(show C28 _ _=B05 v from z)⟩
  ·exact⟨_,h3,λv z=>by cases(show C28 _ _=B05 v from z)⟩
  ·obtain⟨o,e,_,k⟩:=h4
   exact⟨o,e,λv z=>by rw[k] at z;cases z⟩
  ·obtain⟨o,e,_,k⟩:=h5
   exact⟨o,e,λv z=>by rw[k] at z;cases z⟩
 keep:=λi h h' st k=>by
  obtain⟨h1,h2,⟨u,v,h3⟩,h4,h5⟩:=st;exact⟨k z (by simp) _ h1,k TI (by simp) _ h2,⟨u,v,k TO (by simp) _ h3⟩,h4.at λo q=>k i1 (by simp) o q,h5.at λo q=>k i2 (by simp) o q⟩
 item:=by
  intro X hP hw hK hc i pins s σ H E I hf st hg;subst hP hw hK;obtain⟨h1,h2,⟨u0,v0,h3⟩,h4,h5⟩:=st;obtain⟨xs,ys,x,y,hq,hq2,hx,hy⟩:=hg;obtain⟨its,rv,p⟩:=I.sq hq;obtain⟨its2,rv2,p2⟩:=I.sq hq2;obtain⟨u,hu,ru⟩:=rv.get hx;obtain⟨u2,hu2,ru2⟩:=rv2.get hy;have hn:H s.heap.objs.size=none:=I.hok.fresh (B9 _);have lt:∀{c o},s.heap.get? c=some o->c≠s.heap.objs.size:=λe=>E6 (D5 e)
  refine v33 ap h1 h2 h3 h4 h5 p p2 (x:=u) (y:=u2) (by simpa using hu) (by simpa using hu2) λh' k1 k2 k3 k4 k5 k6 k7=>?_
  refine⟨_,rfl,wpAny_letOwnedTupleGo_zip k1 λh'' m1 m2=>?_⟩
  replace m2:Q6 z h' h'':=m2
  have hk:∀e o,e∉[z,TI,TO,i1,i2]->s.heap.get? e=some o->h''.get? e=some o:=λe o he q=>by
   simp only[D1,L8,or_false,not_or] at he;exact(m2.2 e he.1).trans (k7 e o he.1 he.2.2.1 he.2.2.2.1 he.2.2.2.2 q)
  have k5':=(m2.2 s.heap.objs.size (D6 (lt h1))).trans k5;refine⟨.ref s.heap.objs.size,upd H s.heap.objs.size (.tup [x,y]),I.turnedL (t':=s.toks) hk hf ?_,rfl,⟨_,x,y,rfl,hn,rfl,λws e=>by rw[I.sq_inj e hq];exact hx,λws e=>by rw[I.sq_inj e hq2];exact hy⟩,⟨m1,?_,⟨u,u2,?_⟩,?_,?_⟩,λe he=>?_⟩
  ·exact⟨show 2<=sizeLine by decide,[u,u2],.cons ru (.cons ru2 .nil),⟨_,k5',rfl,⟨_,rfl⟩,rfl⟩⟩
  ·exact(m2.2 TI ap.TIz).trans (k7 TI _ ap.TIz ap.TITO ap.TIi1 ap.TIi2 h2)
  ·exact(m2.2 TO ap.TOz).trans k2
  ·exact k3.at λo q=>(m2.2 i1 ap.i1z).trans q
  ·exact k4.at λo q=>(m2.2 i2 ap.i2z).trans q
  ·rw[u22 ?_]
   ·exact(hf e he).1
   ·simp only[D1,L8,or_false] at he
    rcases he with q|q|q|q|q <;> subst q
    ·exact lt h1
    ·exact lt h2
    ·exact lt h3
    ·obtain⟨o,e,_⟩:=h4;exact lt e
    ·obtain⟨o,e,_⟩:=h5;exact lt e
 done:=by
  intro X hP hw hK hc i pins s σ H E I hf st hg;subst hP hw hK;obtain⟨h1,h2,⟨u0,v0,h3⟩,h4,h5⟩:=st;obtain⟨xs,ys,hq,hq2,hx⟩:=hg;obtain⟨its,rv,p⟩:=I.sq hq;obtain⟨its2,rv2,p2⟩:=I.sq hq2;have hl:=rv.length;have hl2:=rv2.length;refine v32 (I.ok.hd hc) ap h1 h2 h3 h4 h5 p p2 (by simp;omega) λh' k=>⟨rfl,I.turnedN (fp:=[z,TI,TO,i1,i2]) (t':=s.toks) (λe o he q=>?_) hf⟩
  simp only[D1,L8,or_false,not_or] at he;exact k e o he.1 he.2.2.1 he.2.2.2.1 he.2.2.2.2 q
 self:=λ_ _ _ _ _ st h=>A64 st.1 h
def iZt(K:W.Frag)(ta:TA):TI:=λσ H R=>ta σ H λvs H1=>∃c d a b,vs=[.ref a,.ref b]/\(∃xs,Sq c K H1 a xs)/\(∃xs,Sq d K H1 b xs)/\R (ItZ K c d a b) H1
theorem x08{X:Cx}{elts:List Expr}{x1}{tpos:Pos}{a b:Expr}{ta:TA}{p pos:Pos}(hg:Gl X "zip")(hm:X.mg "zip" = none)(ha:PA X [a,b] ta)(hs:C5 [a,b] X.env=(false,eval a X.env)::C5 [b] X.env:=by rfl)(hs2:(backTo pos (C5 [b] X.env)).any (·.1)=false:=by rfl) :
  PI X (.Tuple elts x1 tpos) (.Call (.Name "zip" p) [a,b] [] pos) (iZt X.K ta):=by
 intro pins s σ H R I h;refine Call_ (ub1 I hg hm boot_zip (K4 (thn (ha pos pins s σ H _ I h) λus s1 ⟨vs,H1,I1,r1,q1⟩=>?_) hs hs2));obtain⟨c,d,l,m,e,⟨xs,hq⟩,⟨ys,hq2⟩,q⟩:=q1;subst e;cases r1 with
 | cons r rr =>
  cases rr with
  | cons r2 rr =>
   cases rr;cases r;cases r2;obtain⟨its,rv,pl⟩:=I1.sq hq;obtain⟨its2,rv2,pl2⟩:=I1.sq hq2;have hll:l<s1.heap.objs.size:=by obtain⟨o,e,_⟩:=pl;exact D5 e
   have hlm:m<s1.heap.objs.size:=by obtain⟨o,e,_⟩:=pl2;exact D5 e
   refine vt8 pl pl2 λh' k1 k2 k3 k4 k5 k7=>?_
   refine A64 k1 ?_;have I2:Inv X pins σ H1 { s1 with heap:=h'}:=I1.kept (t':=s1.toks) k7
   refine⟨_,_,_,_,H1,rfl,I2,vu7 (zipApart_new hll hlm),⟨k1,k2,⟨_,_,k3⟩,k4,k5⟩,λe he=>?_,q⟩;have hb:s1.heap.objs.size<=e:=by
    simp only[D1,L8,or_false] at he
    rcases he with q|q|q|q|q <;> subst q <;> omega
   exact I1.fpOk hb (I1.hok.fresh hb)
end L2
namespace L3
open PySem PySem.Spec PyProof.Rows L2
def sqD(G:Gp):D->Option (List D)
 | .tup ds=>some ds
 | .ref a=>u13 (G a)
 | _=>none
theorem vf7{K:W.Frag}{G:Gp}{H0:Hp}{x:D}{v:V}{ds:List D}(r:RelD K H0 x v)(c0:Con K G H0)(h:sqD G x=some ds):∃c a,v=.ref a/\(∃xs,Sq c K H0 a xs)/\∀G' H',Le H0 H'->Con K G' H'->sqD G' x=some ds->∃xs,Sq c K H' a xs/\RelDs K H' ds xs:=by
 cases x with
 | tup es =>
  cases h;obtain⟨a,xs,rfl,s1,q1⟩:=r.tup_inv;exact⟨true,a,rfl,⟨xs,s1⟩,λG' H' l c _=>⟨xs,l.sqT s1,RelDs.le l q1⟩⟩
 | ref a =>
  cases r.ref_inv;obtain⟨xs,s1,q1⟩:=u41 c0 h;refine⟨false,a,rfl,⟨xs,s1⟩,λG' H' l c h'=>u41 c h'⟩
 | _=>cases h
theorem vl3{K:W.Frag}{H0:Hp}{c d:Bool}{a b:Addr}{ds es:List D}{x y:D}(hx:∀G' H',Le H0 H'->Con K G' H'->sqD G' x=some ds->∃xs,Sq c K H' a xs/\RelDs K H' ds xs)(hy:∀G' H',Le H0 H'->Con K G' H'->sqD G' y=some es->∃xs,Sq d K H' b xs/\RelDs K H' es xs) :
  ItRel K H0 ⟨zpD ds es,λG=>sqD G x=some ds/\sqD G y=some es⟩ (ItZ K c d a b) where
 go:=λi G H l c ok hi=>by
  obtain⟨xs,s,r⟩:=hx G H l c ok.1;obtain⟨ys,s2,r2⟩:=hy G H l c ok.2;rw[ut0] at hi;exact⟨xs,ys,xs[i]'(by rw[<- r.length];omega),ys[i]'(by rw[<- r2.length];omega),s,s2,B6 _,B6 _⟩
 stop:=λi G H l c ok hi=>by
  obtain⟨xs,s,r⟩:=hx G H l c ok.1;obtain⟨ys,s2,r2⟩:=hy G H l c ok.2;rw[ut0] at hi;exact⟨xs,ys,s,s2,by rw[<- r.length,<- r2.length];omega⟩
 yld:=λi G H v H' l c ok hi y=>by
  obtain⟨p,v1,v2,rfl,hp,rfl,y1,y2⟩:=y;obtain⟨xs,s,r⟩:=hx G H l c ok.1;obtain⟨ys,s2,r2⟩:=hy G H l c ok.2;obtain⟨d,hd,rd⟩:=r.at_ (y1 xs s)
  obtain⟨e,he,re⟩:=r2.at_ (y2 ys s2)
  refine⟨c.side hp,Le.fresh hp,.tup [d,e],v34 hd he,?_⟩;rw[RelD];exact⟨p,_,rfl,SqT.of u30,.cons (RelD.le (Le.fresh hp) rd) (.cons (RelD.le (Le.fresh hp) re) .nil)⟩
def wZt(t:TA3):TI3:=λσ G r=>t σ G λds G1=>match ds with
 | [x,y]=>(match sqD G1 x,sqD G1 y with|some ds,some es=>r ⟨zpD ds es,λG=>sqD G x=some ds/\sqD G y=some es⟩ G1|_,_=>False)
 | _=>False
theorem w38{K:W.Frag}{t:TA3}{σ:L2.St}{H:Hp}{R:It->Hp->Prop}(h:lowI K (wZt t) σ H R):iZt K (lowA K t) σ H R:=by
 obtain⟨σd,G,q,rs,c,t,f⟩:=h;refine⟨σd,G,_,rs,c,t,λds G1 vs H1 r1 c1 l1 t1=>?_⟩;split at t1
 ·rename_i x y
  split at t1
  ·rename_i ds es e e2
   obtain⟨v,vs',rfl,rv,r2⟩:=r1.inv_cons;obtain⟨v2,rfl,rv2⟩:=r2.one;obtain⟨k1,a,rfl,s1,q1⟩:=vf7 rv c1 e;obtain⟨k2,b,rfl,s2,q2⟩:=vf7 rv2 c1 e2;exact⟨k1,k2,a,b,rfl,s1,s2,f _ _ _ _ (vl3 q1 q2) c1 l1 t1⟩
  ·exact t1.elim
 ·exact t1.elim
theorem wq5{X:Cx}{elts:List Expr}{x1}{tpos:Pos}{a b:Expr}{ts:TA3}{p pos:Pos}(hg:Gl X "zip")(hm:X.mg "zip" = none)(ha:A3 X [a,b] ts)(hs:C5 [a,b] X.env=(false,eval a X.env)::C5 [b] X.env:=by rfl)(hs2:(backTo pos (C5 [b] X.env)).any (·.1)=false:=by rfl) :
  I3 X (.Tuple elts x1 tpos) (.Call (.Name "zip" p) [a,b] [] pos) (wZt ts):=v41 (x08 hg hm ha hs hs2) λ_ _ _=>w38
end L3
namespace L3
open PySem PySem.Spec PyProof.Rows L2 Rw
mutual
def outR:Rowp->List Rowp
 | .is x a=>[.is x a]
 | .op x o a b=>[.op x o a b]
 | .cho a ys ns=>[.cho a (outL ys) (outL ns)]
 | .tim k ys=>(C2 k (outL ys)).flatten
def outL:List Rowp->List Rowp
 | []=>[]
 | r::rs=>outR r++outL rs
end
theorem vi6:∀{a b:List Rowp},outL (a++b)=outL a++outL b
 | [],b=>rfl
 | r::a,b=>by
  show outR r++outL (a++b)=(outR r++outL a)++outL b
  rw[vi6,E1]
mutual
def ntR:Rowp->Prop
 | .is _ _=>True
 | .op _ _ _ _=>True
 | .cho _ ys ns=>ntL ys/\ntL ns
 | .tim _ _=>False
def ntL:List Rowp->Prop
 | []=>True
 | r::rs=>ntR r/\ntL rs
end
theorem ntL_app:∀{a b:List Rowp},ntL (a++b)↔ntL a/\ntL b
 | [],b=>by simp[ntL]
 | r::a,b=>by
  show ntR r/\ntL (a++b)↔(ntR r/\ntL a)/\ntL b
  rw[ntL_app,and_assoc]
theorem ux4:∀{rs:List Rowp} {r:Rowp},ntL rs->r∈rs->ntR r
 | s::rs,r,h,m=>by
  rcases D1.mp m with e|e
  ·subst e;exact h.1
  ·exact ux4 h.2 e
end L3
namespace L2
open PySem PySem.Spec PyProof.Rows
theorem vm1:entryFor table "zip.__getattribute__" = some Builtin.«object.__getattribute__» :=
 entryFor_alias (id' := "object.__getattribute__") (by kernel_rfl) (by decide) (by decide) (by kernel_rfl)
theorem w68:B29 (.type "zip") "__getattr__" = pure none:=by rw[typeLookup_type,builtinLookup_eq_fast];kernel_rfl
theorem vb4:B29 (.type "zip") "keys" = pure none:=by rw[typeLookup_type,builtinLookup_eq_fast];kernel_rfl
theorem w69(z TI TO:Addr)(u:Tok):Meets (Builtin.«object.__getattribute__» ⟨[.ref z,.str "keys" u],[]⟩) (λA R s=>IsZip s.heap z TI TO .none/\raisesAttr (.ref z) "keys" A R s) :=
 Meets.of_wp λprog w A R s hs=>by
  obtain⟨hp,g,d,tk,os⟩:=s;obtain⟨hx,hs⟩:=hs;have ty:(⟨hp,g,d,tk,os⟩:Shared).TypeIs (.ref z) "zip" := ⟨_,hx,rfl⟩;have mi:=vb4;unfold Builtin.«object.__getattribute__»
  repeat(any_goals (first|assumption|wp_step))
  exact wpAny_raiseAttrError hs.1 hs.2 (by decide)
theorem w71{prog:Program}{w:World}{A:Around}{E:Value->Shared->Prop}{s:Shared}{z TI TO:Addr}{Q:Option Value->Shared->Prop}(hx:IsZip s.heap z TI TO .none)(hA:A.handled=none)
  (q:∀h' tk,(∀b o,s.heap.get? b=some o->h'.get? b=some o)->Q none { s with heap:=h',toks:=tk}):wpAny (model prog w) A (getAttr? (.ref z) "keys") Q E s:=by
 obtain⟨hp,g,d,tk,os⟩:=s;have ty:∀tk',(⟨hp,g,d,tk',os⟩:Shared).TypeIs (.ref z) "zip" := λ_=>⟨_,hx,rfl⟩
 have f1:=sub_AttributeError;have f3:=F.slot_zip_getattribute.lookup;have f4:=F.slot_zip_getattribute.bind (.ref z);have f5:=w68;unfold getAttr? getAttrBy? getAttrBy
 repeat(any_goals (first|assumption|exact ty _|((with_reducible show wpAny _ _ (call (Value.builtin "zip.__getattribute__") _ _) _ _ _);refine X2 F.slot_zip_getattribute (ty _) vm1 (F.args_zip_getattribute_2 _ _) (w69 z TI TO _) ⟨hx,hA,λh' tk' e hx'=>?_⟩)|wp_step))
 obtain⟨t',u',he⟩:=hx'.there
 show wpAny _ _ (getattributeRaised _ _ _ _ _ _ _) _ _ _
 unfold getattributeRaised
 repeat(any_goals (first|assumption|wp_step))
 exact q _ _ hx'.keeps
section
variable{prog:Program}{w:World}{A:Around}{E:Value->Shared->Prop}{s:Shared}
theorem ve7{c d:Bool}{z TI TO i1 i2 l1 l2 T:Addr}{f:Bool}{oT:Obj}{k1 k2:Nat}{xs ys:Array Value}{x y:Value}{Q:Value->Shared->Prop}(D:Y1 z TI TO i1 i2 l1 l2)(ez:ub4 s.heap z TI TO T f)(hT:s.heap.get? T=some oT)
  (eI:IsPair s.heap TI (.ref i1) (.ref i2)) (j1:SIt c s.heap i1 l1 k1) (j2:SIt d s.heap i2 l2 k2) (m1:SOf c s.heap l1 xs) (m2:SOf d s.heap l2 ys) (hx:xs[k1]?=some x) (hy:ys[k2]?=some y)
  (q:∀h':Heap,ub4 h' z TI TO T true->SIt c h' i1 l1 (k1+1)->SIt d h' i2 l2 (k2+1)->IsPair h' s.heap.objs.size x y->h'.objs.size=s.heap.objs.size+1->(∀e o,e≠z->e≠i1->e≠i2->s.heap.get? e=some o->h'.get? e=some o)->Q (.ref s.heap.objs.size) { s with heap:=h'}) :
  wpAny (model prog w) A (Builtin.«zip.__next__» { pos:=[.ref z]}) (λfin s'=>∃v,fin=Fin.done (Flow.ret v)/\Q v s') E s:=by
 unfold Builtin.«zip.__next__»;refine B4 (C9 ?_);refine B4 (K3 ez rfl rfl ?_);refine B4 (K3 ez rfl rfl ?_);refine B4 (M7 eI rfl ?_);refine B4 ?_;unfold K5;refine B4 (K3 ez rfl rfl ?_);refine B4 (W.kdx_alive (a:=T) (o:=oT) hT ?_);refine thn (Q:=λa s1=>a=false/\∃h1,s1={ s with heap:=h1}/\ub4 h1 z TI TO T true/\Q6 z s.heap h1) ?_ ?_
 ·rw[if_neg (by simp)]
  refine B4 (K3 ez rfl rfl ?_);cases f with
  | true=>exact C9 ⟨rfl,s.heap,rfl,ez,rfl,λ_ _=>rfl⟩
  | false =>
   refine B4 (O7 ez (by simp) λh' e sb=>?_);exact C9 ⟨rfl,h',rfl,e,sb⟩
 ·rintro a s1 ⟨rfl,h,rfl,hz1,sb⟩
  simp only[V7,if_false];simp only[<- B22,Y2,A35];have k1':SIt c h i1 l1 k1:=j1.at λo e=>(sb.2 i1 D.i1z).trans e
  have k2':SIt d h i2 l2 k2:=j2.at λo e=>(sb.2 i2 D.i2z).trans e
  have m1':SOf c h l1 xs:=m1.at λo e=>(sb.2 l1 D.l1z).trans e
  have m2':SOf d h l2 ys:=m2.at λo e=>(sb.2 l2 D.l2z).trans e
  refine B4 (B4 (B4 (O1 ?_)));refine B4 (ug5 k1' m1' hx λh' a1 sa=>?_);refine C9 ?_;refine C9 ?_;have k2'':SIt d h' i2 l2 k2:=k2'.at λo e=>(sa.2 i2 (D6 D.i12)).trans e
  have m2'':SOf d h' l2 ys:=m2'.at λo e=>(sa.2 l2 D.l2i1).trans e
  refine B4 (B4 (O1 ?_));refine B4 (ug5 k2'' m2'' hy λh'' a2 sc=>?_);refine C9 ?_;refine C9 ?_;refine C9 ?_;refine B4 (wpAny_newTuple ?_ (by simp;decide));have hs:h''.objs.size=s.heap.objs.size:=sc.1.trans (sa.1.trans sb.1);refine C9 ⟨_,rfl,?_⟩
  show Q (.ref h''.objs.size) _
  rw[hs];have kp:∀c o,c≠z->c≠i1->c≠i2->s.heap.get? c=some o->h''.get? c=some o:=λc o c1 c2 c3 e=>(sc.2 c c3).trans ((sa.2 c c2).trans ((sb.2 c c1).trans e))
  refine q _ ?_ ?_ ?_ ?_ ?_ λc o c1 c2 c3 e=>B7 _ (kp c o c1 c2 c3 e)
  ·exact B7 _ ((sc.2 z (D6 D.i2z)).trans ((sa.2 z (D6 D.i1z)).trans hz1))
  ·exact a1.at λo e=>B7 _ ((sc.2 i1 D.i12).trans e)
  ·exact a2.at λo e=>B7 _ e
  ·rw[<- hs];exact D8 _ rfl
  ·show(h''.push _).objs.size=_
   rw[<- hs];simp[Heap.push]
theorem vt6{c d:Bool}{z TI TO i1 i2 l1 l2 T:Addr}{f:Bool}{oT:Obj}{k1 k2:Nat}{xs ys:Array Value}{Q:PySem.Fin->Shared->Prop}(hh:A.handled=none)(D:Y1 z TI TO i1 i2 l1 l2)(ez:ub4 s.heap z TI TO T f)(hT:s.heap.get? T=some oT)
  (eI:IsPair s.heap TI (.ref i1) (.ref i2)) (j1:SIt c s.heap i1 l1 k1) (m1:SOf c s.heap l1 xs) (hx:xs[k1]?=none)
  (q:∀(h':Heap) (e:Addr),(∀e o,e≠z->e≠i1->e≠i2->s.heap.get? e=some o->h'.get? e=some o)->(∃o,h'.get? e=some o/\o.cls=.type "StopIteration")->E (.ref e) { s with heap:=h'}) :
  wpAny (model prog w) A (Builtin.«zip.__next__» { pos:=[.ref z]}) Q E s:=by
 unfold Builtin.«zip.__next__»;refine B4 (C9 ?_);refine B4 (K3 ez rfl rfl ?_);refine B4 (K3 ez rfl rfl ?_);refine B4 (M7 eI rfl ?_);refine B4 ?_;unfold K5;refine B4 (K3 ez rfl rfl ?_);refine B4 (W.kdx_alive (a:=T) (o:=oT) hT ?_);refine thn (Q:=λa s1=>a=false/\∃h1,s1={ s with heap:=h1}/\ub4 h1 z TI TO T true/\Q6 z s.heap h1) ?_ ?_
 ·rw[if_neg (by simp)]
  refine B4 (K3 ez rfl rfl ?_);cases f with
  | true=>exact C9 ⟨rfl,s.heap,rfl,ez,rfl,λ_ _=>rfl⟩
  | false =>
   refine B4 (O7 ez (by simp) λh' e sb=>?_);exact C9 ⟨rfl,h',rfl,e,sb⟩
 ·rintro a s1 ⟨rfl,h,rfl,hz1,sb⟩
  simp only[V7,if_false];simp only[<- B22,Y2,A35];refine B4 (B4 (B4 (O1 ?_)));refine B4 (v82 hh (j1.at λo e=>(sb.2 i1 D.i1z).trans e) (m1.at λo e=>(sb.2 l1 D.l1z).trans e) hx λh' e ext he=>?_);exact q h' e (λc o c1 c2 c3 e=>ext c o c2 ((sb.2 c c1).trans e)) he
theorem ve6{c d:Bool}{z TI TO i1 i2 l1 l2 T:Addr}{f:Bool}{oT:Obj}{k1 k2:Nat}{xs ys:Array Value}{x y:Value}{Q:Option Value->Shared->Prop}(D:Y1 z TI TO i1 i2 l1 l2)(ez:ub4 s.heap z TI TO T f)(hT:s.heap.get? T=some oT)
  (eI:IsPair s.heap TI (.ref i1) (.ref i2)) (j1:SIt c s.heap i1 l1 k1) (j2:SIt d s.heap i2 l2 k2) (m1:SOf c s.heap l1 xs) (m2:SOf d s.heap l2 ys) (hx:xs[k1]?=some x) (hy:ys[k2]?=some y)
  (q:∀h':Heap,ub4 h' z TI TO T true->SIt c h' i1 l1 (k1+1)->SIt d h' i2 l2 (k2+1)->IsPair h' s.heap.objs.size x y->h'.objs.size=s.heap.objs.size+1->(∀e o,e≠z->e≠i1->e≠i2->s.heap.get? e=some o->h'.get? e=some o)->Q (some (.ref s.heap.objs.size)) { s with heap:=h'}) :
  wpAny (model prog w) A (pyNext (.ref z)) Q E s:=by
 have ty:s.TypeIs (.ref z) "zip" := ⟨_,ez,rfl⟩;refine B4 (A52 (M6 ty F.slot_zip_next (R4 F.slot_zip_next ty F.entry_zip_next ?_ (F.args_zip_next_1 (.ref z)))));exact ve7 D ez hT eI j1 j2 m1 m2 hx hy λh' a1 a2 a3 a4 a5 a6=>C9 (q h' a1 a2 a3 a4 a5 a6)
theorem ve5{c d:Bool}{z TI TO i1 i2 l1 l2 T:Addr}{f:Bool}{oT:Obj}{k1:Nat}{xs:Array Value}{Q:Option Value->Shared->Prop}(hh:A.handled=none)(D:Y1 z TI TO i1 i2 l1 l2)(ez:ub4 s.heap z TI TO T f)(hT:s.heap.get? T=some oT)
  (eI:IsPair s.heap TI (.ref i1) (.ref i2)) (j1:SIt c s.heap i1 l1 k1) (m1:SOf c s.heap l1 xs) (hx:xs[k1]?=none)
  (q:∀h':Heap,(∀e o,e≠z->e≠i1->e≠i2->s.heap.get? e=some o->h'.get? e=some o)->Q none { s with heap:=h'}):wpAny (model prog w) A (pyNext (.ref z)) Q E s:=by
 have ty:s.TypeIs (.ref z) "zip" := ⟨_,ez,rfl⟩;refine B4 (A52 (M6 ty F.slot_zip_next (R4 F.slot_zip_next ty F.entry_zip_next ?_ (F.args_zip_next_1 (.ref z)))));refine vt6 (d:=d) (k2:=k1) (ys:=xs) hh D ez hT eI j1 m1 hx λh' e hk ⟨o,e1,e2⟩=>?_
 exact B4 (wpAny_isInstance ⟨o,e1,e2⟩ isSubtype_stop (C9 (q h' hk)))
end
structure DzSt(c d:Bool)(l1 l2 z TI TO i1 i2 S:Addr)(xs ys:Array Value)(i:Nat)(h:Heap):Prop where
 zz:IsZip h z TI TO .none\/∃T f oT,ub4 h z TI TO T f/\h.get? T=some oT/\T≠z/\T≠TO/\T≠i1/\T≠i2/\T≠S
 ti:IsPair h TI (.ref i1) (.ref i2)
 to:∃u v,IsPair h TO u v
 h1:SIt c h i1 l1 i
 h2:SIt d h i2 l2 i
 m1:SOf c h l1 xs
 m2:SOf d h l2 ys
def putAll:List Key->List V->List (Key×V)->List (Key×V)
 | k::ks,v::vs,kvs=>putAll ks vs (putK kvs k v)
 | _,_,kvs=>kvs
theorem ur5:entryFor table "dict.update.loop" = some Builtin.«dict.update.loop»:=entryFor_of_tree (by kernel_rfl)
theorem uf7:plainId "dict.update.loop" = true:=by decide
theorem w70{prog:Program}{w:World}{A:Around}{s:Shared}{R:Result->Shared->Prop}{c d:Bool}{l1 l2 z TI TO i1 i2 S:Addr}{xs ys:Array Value}{h1:Heap}(hh:A.in1.handled=none)(D:Y1 z TI TO i1 i2 l1 l2)(hS:S≠z/\S≠TI/\S≠TO/\S≠i1/\S≠i2/\S≠l1/\S≠l2)
  {ks:List Key} {rv:List V} (rk:Vals (ks.map kV) xs.toList) (rr:Vals rv ys.toList) (hn:ks.length=rv.length) (hz:ks.length<=1000)
  (q:∀(h':Heap) (tk:Nat) (vs:List (Key×Value)),(∀b o,b≠S->b≠z->b≠TO->b≠i1->b≠i2->h1.get? b=some o->h'.get? b=some o)->KV (putAll ks rv []) vs->h'.DictOf (u39 prog w) S vs->R (.ok (.ret .none)) { s with heap:=h',toks:=tk}) :
  ∀(k i:Nat) (h:Heap) (tk:Nat) (ii:Int) (kvs:List (Key×V)) (vs:List (Key×Value)),ks.length-i=k->i<=ks.length->DzSt c d l1 l2 z TI TO i1 i2 S xs ys i h->KV kvs vs->h.DictOf (u39 prog w) S vs->kvs.length<=i->putAll (ks.drop i) (rv.drop i) kvs=putAll ks rv [] ->
   (∀b o,b≠S->b≠z->b≠TO->b≠i1->b≠i2->h1.get? b=some o->h.get? b=some o)->A01 (model prog w) A (.builtin "dict.update.loop" { pos:=[.ref S,.ref z,rawInt ii,.none]}) R { s with heap:=h,toks:=tk}:=by
 obtain⟨S1,S2,S3,S4,S5,S6,S7⟩:=hS;have lx:xs.size=ks.length:=by have:=rk.length;simp at this;omega
 have ly:ys.size=ks.length:=by have:=rr.length;simp at this;omega
 intro k
 induction k with
 | zero =>
  intro i h tk ii kvs vs hk hi st rel dd hl he kp;have hi:i=ks.length:=by omega
  subst hi;have hx:xs[ks.length]?=none:=by simp[lx]
  have hfin:putAll ks rv []=kvs:=by rw[<- he,List.drop_length];rfl
  refine codeAny_builtin ur5 ?_;rw[B00 uf7]
  rcases st.zz with zz|⟨T,f,oT,zz,hT,T1,T2,T3,T4,T5⟩
  ·obtain⟨u,v,to⟩:=st.to
   refine B4 (v32 (s:={ s with heap:=h,toks:=tk}) hh D zz st.ti to st.h1 st.h2 st.m1 st.m2 (.inl hx) λh' k2=>?_);refine B4 (C9 (C9 ?_));exact q h' tk vs (λb o b1 b2 b3 b4 b5 e=>k2 b o b2 b3 b4 b5 (kp b o b1 b2 b3 b4 b5 e)) (by rw[hfin];exact rel) (dd.at λo e=>k2 S o S1 S3 S4 S5 e)
  ·refine B4 (ve5 (s:={ s with heap:=h,toks:=tk}) (d:=d) hh D zz hT st.ti st.h1 st.m1 hx λh' k2=>?_)
   refine B4 (C9 (C9 ?_));exact q h' tk vs (λb o b1 b2 b3 b4 b5 e=>k2 b o b2 b4 b5 (kp b o b1 b2 b3 b4 b5 e)) (by rw[hfin];exact rel) (dd.at λo e=>k2 S o S1 S4 S5 e)
 | succ k ih =>
  intro i h tk ii kvs vs hk hi st rel dd hl he kp;have hlt:i<ks.length:=by omega
  have hx:xs[i]?=some (xs[i]'(by omega)):=A41 _;have hy:ys[i]?=some (ys[i]'(by omega)):=A41 _;obtain⟨kk,ek⟩:∃kk,ks[i]?=some kk:=⟨ks[i],B6 hlt⟩;obtain⟨vv,ev⟩:∃vv,rv[i]?=some vv:=⟨rv[i]'(by omega),B6 _⟩;have rkk:RelV (kV kk) (xs[i]'(by omega)):=by
   obtain⟨u,hu,ru⟩:=rk.get (i:=i) (x:=kV kk) (by rw[F6,ek];rfl);have:u=xs[i]'(by omega):=by simp only[W6,hx] at hu;exact(E2 hu).symm
   rw[<- this];exact ru
  have rvv:RelV vv (ys[i]'(by omega)):=by
   obtain⟨u,hu,ru⟩:=rr.get ev;have:u=ys[i]'(by omega):=by simp only[W6,hy] at hu;exact(E2 hu).symm
   rw[<- this];exact ru
  have he2:putAll (ks.drop (i+1)) (rv.drop (i+1)) (putK kvs kk vv)=putAll ks rv []:=by
   rw[<- he];have e1:ks.drop i=kk::ks.drop (i+1):=by rw[S8 hlt];congr 1;exact E2 ((B6 hlt).symm.trans ek)
   have e2:rv.drop i=vv::rv.drop (i+1):=by rw[S8 (by omega)];congr 1;exact E2 ((B6 (by omega)).symm.trans ev)
   rw[e1,e2];rfl
  refine codeAny_builtin ur5 ?_;rw[B00 uf7];have hsz:vs.length<=sizeLine:=by rw[<- rel.length];exact D4 (m:=1000) (by omega) (by decide)
  have go:∀h':Heap,(∃T f oT,ub4 h' z TI TO T f/\h'.get? T=some oT/\T≠z/\T≠TO/\T≠i1/\T≠i2/\T≠S)->(∃u v,IsPair h' TO u v)->SIt c h' i1 l1 (i+1)->SIt d h' i2 l2 (i+1)->IsPair h' h.objs.size (xs[i]'(by omega)) (ys[i]'(by omega))->(∀c o,c≠z->c≠TO->c≠i1->c≠i2->h.get? c=some o->h'.get? c=some o) ->
    wpAny (model prog w) A.in1 (dictSet S (xs[i]'(by omega)) (ys[i]'(by omega))) (λ_ s1=>wpAny (model prog w) A.in1 (again (.builtin "dict.update.loop" { pos:=[.ref S,.ref z,rawInt (ii+1),.none]}))
     (λfin s'=>match fin with|.done f=>R (.ok f) s'|.again c'=>c'.quiet=true/\A01 (model prog w) A c' R s') (λe s'=>R (.error e) s') s1) (λe s'=>R (.error e) s') { s with heap:=h',toks:=tk}:=by
   rintro h' ⟨T,f,oT,zz,hT,T1,T2,T3,T4,T5⟩ ⟨u,v,to⟩ a1 a2 a3 a5;have dd':h'.DictOf (u39 prog w) S vs:=dd.at λo e=>a5 S o S1 S3 S4 S5 e
   refine wpAny_dictSet_pairs (s:={ s with heap:=h',toks:=tk}) (hsz:=hsz) (va0 rkk) dd' λh'' dd2 hs2=>?_
   refine C9 ⟨plainId_quiet uf7 _,?_⟩;have oth:∀b o,b≠S->h'.get? b=some o->h''.get? b=some o:=λb o hb e=>(hs2.2 b hb).trans e
   have hlp:=u76 kvs kk vv;refine ih (i+1) _ _ _ (putK kvs kk vv) _ (by omega) hlt ⟨.inr ⟨T,f,oT,oth _ _ (D6 S1) zz,oth _ _ T5 hT,T1,T2,T3,T4,T5⟩,oth _ _ (D6 S2) (a5 TI _ D.TIz D.TITO D.TIi1 D.TIi2 st.ti),⟨u,v,oth _ _ (D6 S3) to⟩,a1.at λo e=>oth _ _ (D6 S4) e,a2.at λo e=>oth _ _ (D6 S5) e,st.m1.at λo e=>oth _ _ (D6 S6) (a5 l1 _ D.l1z D.l1TO D.l1i1 D.l1i2 e),st.m2.at λo e=>oth _ _ (D6 S7) (a5 l2 _ D.l2z D.l2TO D.l2i1 D.l2i2 e)⟩ (rel.put kk rvv) dd2 (by omega) he2 λb o b1 b2 b3 b4 b5 e=>oth b o b1 (a5 b o b2 b3 b4 b5 (kp b o b1 b2 b3 b4 b5 e))
  rcases st.zz with zz|⟨T,f,oT,zz,hT,T1,T2,T3,T4,T5⟩
  ·obtain⟨u,v,to⟩:=st.to
   have ne:∀{b o},h.get? b=some o->h.objs.size≠b:=λe=>T6 (D5 e)
   refine B4 (v33 (s:={ s with heap:=h,toks:=tk}) D zz st.ti to st.h1 st.h2 st.m1 st.m2 hx hy λh' b1 b2 b3 b4 b5 b6 b7=>?_);have neS:h.objs.size≠S:=by obtain⟨o,_,_,e,_⟩:=dd;exact ne e
   have:=go h' ⟨h.objs.size,false,_,b1,b5,ne zz,ne to,(by obtain⟨o,e,_⟩:=st.h1;exact ne e),(by obtain⟨o,e,_⟩:=st.h2;exact ne e),neS⟩ ⟨_,_,b2⟩ b3 b4 b5 b7;refine B4 (O1 (B4 (wpAny_tryCatch ?_)));unfold A74;refine B4 (A80 ⟨_,b5,rfl⟩ ?_);rw[if_pos (by decide)];refine B4 (M7 b5 rfl (C9 ?_));exact O1 this
  ·refine B4 (ve6 (s:={ s with heap:=h,toks:=tk}) D zz hT st.ti st.h1 st.h2 st.m1 st.m2 hx hy λh' b1 b3 b4 b5 b6 b7=>?_)
   obtain⟨u,v,to⟩:=st.to;have:=go h' ⟨T,true,_,b1,b7 T _ T1 T3 T4 hT,T1,T2,T3,T4,T5⟩ ⟨u,v,b7 TO _ D.TOz D.TOi1 D.TOi2 to⟩ b3 b4 b5 λc o c1 c2 c3 c4 e=>b7 c o c1 c3 c4 e
   refine B4 (O1 (B4 (wpAny_tryCatch ?_)));unfold A74;refine B4 (A80 ⟨_,b5,rfl⟩ ?_);rw[if_pos (by decide)];refine B4 (M7 b5 rfl (C9 ?_));exact O1 this
section
variable{prog:Program}{w:World}{A:Around}{E:Value->Shared->Prop}{s:Shared}
theorem ve8{c d:Bool}{l1 l2:Addr}{xs ys:Array Value}{Q:Value->Shared->Prop}(m1:SOf c s.heap l1 xs)(m2:SOf d s.heap l2 ys)
  (q:∀h',IsZip h' (s.heap.objs.size+4) (s.heap.objs.size+2) (s.heap.objs.size+3) .none->IsPair h' (s.heap.objs.size+2) (.ref s.heap.objs.size) (.ref (s.heap.objs.size+1))->IsPair h' (s.heap.objs.size+3) .none .none ->
   SIt c h' s.heap.objs.size l1 0->SIt d h' (s.heap.objs.size+1) l2 0->h'.objs.size=s.heap.objs.size+5->(∀e o,s.heap.get? e=some o->h'.get? e=some o)->Q (.ref (s.heap.objs.size+4)) { s with heap:=h'}) :
  wpAny (model prog w) A (call (.type "zip") [.ref l1,.ref l2]) Q E s:=by
 refine callType_new F.called_zip (by decide) (F.typeCall_zip_2 _ _) (F.newCall_zip_2 _ _) (λobj=>F.args_object_init_3 obj _ _) F.entry_zip_new (vo3 c d l1 l2 xs ys) ⟨m1,m2,?_⟩;have n1:(zt1 s.heap c l1).objs.size=s.heap.objs.size+1:=L6 ..;have n2:(zt2 s.heap c d l1 l2).objs.size=s.heap.objs.size+2:=by rw[L6,n1]
 have n3:(zt3 s.heap c d l1 l2).objs.size=s.heap.objs.size+3:=by rw[L6,n2]
 have n4:(zt4 s.heap c d l1 l2).objs.size=s.heap.objs.size+4:=by rw[L6,n3]
 have n5:(zt5 s.heap c d l1 l2).objs.size=s.heap.objs.size+5:=by rw[L6,n4]
 have r5:(zt5 s.heap c d l1 l2).get? (zt4 s.heap c d l1 l2).objs.size=some _:=D8 _ rfl;have r4:(zt5 s.heap c d l1 l2).get? (zt3 s.heap c d l1 l2).objs.size=some _:=B7 _ (D8 _ rfl);have r3:(zt5 s.heap c d l1 l2).get? (zt2 s.heap c d l1 l2).objs.size=some _:=B7 _ (B7 _ (D8 _ rfl));have r2:(zt5 s.heap c d l1 l2).get? (zt1 s.heap c l1).objs.size=some _:=B7 _ (B7 _ (B7 _ (D8 _ rfl)));have r1:(zt5 s.heap c d l1 l2).get? s.heap.objs.size=some _:=B7 _ (B7 _ (B7 _ (B7 _ (D8 _ rfl))))
 show _/\_
 rw[n2,n3,n4] at r5;rw[n1,n2] at r3;rw[n3] at r4;rw[n1] at r2;rw[n4];refine⟨⟨_,r5,rfl⟩,q _ r5 r3 r4 ⟨_,r1,rfl,rfl⟩ ⟨_,r2,rfl,rfl⟩ n5 λe o x=>?_⟩;exact B7 _ (B7 _ (B7 _ (B7 _ (B7 _ x))))
end
theorem un9{prog:Program}{w:World}{A:Around}{E:Value->Shared->Prop}{s:Shared}{c d:Bool}{l1 l2 z TI TO i1 i2:Addr}{xs ys:Array Value}{Q:Value->Shared->Prop}(hh:A.in1.in1.handled=none)(D:Y1 z TI TO i1 i2 l1 l2)
  (zz:IsZip s.heap z TI TO .none) (ti:IsPair s.heap TI (.ref i1) (.ref i2)) (to:∃u v,IsPair s.heap TO u v) (h1:SIt c s.heap i1 l1 0) (h2:SIt d s.heap i2 l2 0) (m1:SOf c s.heap l1 xs) (m2:SOf d s.heap l2 ys)
  {ks:List Key} {rv:List V} (rk:Vals (ks.map kV) xs.toList) (rr:Vals rv ys.toList) (hn:ks.length=rv.length) (hz:ks.length<=1000)
  (q:∀(h':Heap) (tk:Nat) (vs:List (Key×Value)),(∀b o,b≠z->b≠TO->b≠i1->b≠i2->s.heap.get? b=some o->h'.get? b=some o)->KV (putAll ks rv []) vs->h'.DictOf (u39 prog w) s.heap.objs.size vs->Q (.ref s.heap.objs.size) { s with heap:=h',toks:=tk}) :
  wpAny (model prog w) A (call (.type "dict") [.ref z]) Q E s:=by
 refine callType_codes (Q₁:=λobj s1=>obj=.ref s.heap.objs.size/\s1={ s with heap:=s.heap.push { cls:=.type "dict",data:=.dict #[]}}) F.kt_called_dict (F.kt_typeCall_dict_1 (.ref z)) F.entry_dict_init (kt_code_dict_new (.ref z) ⟨rfl,rfl⟩) λobj s1 hs1=>?_
 obtain⟨e1,e2⟩:=hs1;subst e1;subst e2;have ed:(s.heap.push { cls:=.type "dict",data:=.dict #[]}).DictOf (u39 prog w) s.heap.objs.size []:=C61 s.heap;have up:∀b o,s.heap.get? b=some o->(s.heap.push { cls:=.type "dict",data:=.dict #[]}).get? b=some o:=λb o e=>B7 _ e
 have ne:∀{b o},s.heap.get? b=some o->s.heap.objs.size≠b:=λe=>T6 (D5 e)
 obtain⟨u,v,to⟩:=to;refine⟨ed.typeIs,F.args_dict_init_2 _ _,?_⟩;unfold Builtin.«dict.__init__» C06;refine B4 (B4 (wpAny_notOrdered_dict ed.typeIs (C9 ?_)))
 show wpAny _ _ (A58 "dict.__init__" s.heap.objs.size (.ref z) [] .none) _ _ { s with heap:=s.heap.push { cls:=.type "dict",data:=.dict #[]}}
 unfold A58;refine B4 (A80 ⟨_,up _ _ zz,rfl⟩ ?_);rw[if_pos (by decide)];refine B4 (w71 (s:={ s with heap:=s.heap.push { cls:=.type "dict",data:=.dict #[]}}) (up _ _ zz) hh λh' tk kp=>?_);simp only[Option.isNone_none,if_true];refine B4 (B31 ?_);have up2:∀b o,s.heap.get? b=some o->h'.get? b=some o:=λb o e=>kp b o (up b o e)
 refine B4 (A64 (s:={ s with heap:=h',toks:=tk}) (up2 _ _ zz) ?_);refine C9 ⟨plainId_quiet uf7 _,?_⟩;have S7:s.heap.objs.size≠z/\s.heap.objs.size≠TI/\s.heap.objs.size≠TO/\s.heap.objs.size≠i1/\s.heap.objs.size≠i2/\s.heap.objs.size≠l1/\s.heap.objs.size≠l2:=by
  refine⟨ne zz,ne ti,ne to,?_,?_,?_,?_⟩
  ·obtain⟨o,e,_⟩:=h1;exact ne e
  ·obtain⟨o,e,_⟩:=h2;exact ne e
  ·obtain⟨o,e,_⟩:=m1;exact ne e
  ·obtain⟨o,e,_⟩:=m2;exact ne e
 refine w70 (s:=s) (h1:=h') (c:=c) (d:=d) hh D S7 rk rr hn hz (λh2 tk2 vs k2 rel dd=>⟨rfl,q h2 tk2 vs (λb o b2 b3 b4 b5 e=>k2 b o (D6 (ne e)) b2 b3 b4 b5 (up2 b o e)) rel dd⟩) ks.length 0 h' tk 0 [] [] rfl (N4 _)
  ⟨.inl (up2 _ _ zz),up2 _ _ ti,⟨u,v,up2 _ _ to⟩,h1.at λo e=>up2 _ _ e,h2.at λo e=>up2 _ _ e,m1.at λo e=>up2 _ _ e,m2.at λo e=>up2 _ _ e⟩ .nil (ed.at λo e=>kp _ _ e) (B9 _) rfl λb o _ _ _ _ _ e=>e
def uw1(K:W.Frag)(ta:TA):TE:=λσ H Q=>ta σ H λvs H1=>∃c d a b ks rv,vs=[.ref a,.ref b]/\Sq c K H1 a (ks.map kV)/\Sq d K H1 b rv/\ks.length=rv.length/\ks.length<=1000/\∀p,H1 p=none->Q (.ref p) (upd H1 p (.dK (putAll ks rv [])))
theorem uk2:∀(ks:List Key) (rv:List V) (kvs:List (Key×V)),(putAll ks rv kvs).length<=ks.length+kvs.length
 | [],_,kvs=>by simp[putAll]
 | _::_,[],kvs=>by simp[putAll]
 | k::ks,v::rv,kvs=>by
  have h1:=uk2 ks rv (putK kvs k v);have h2:=u76 kvs k v
  show(putAll ks rv (putK kvs k v)).length<=(ks.length+1)+kvs.length
  omega
theorem v08{X:Cx}{a b:Expr}{ta:TA}{p p2 pos pos2:Pos}{k:Nat}(hr:Room k X.A)(hg:Gl X "zip")(hm:X.mg "zip" = none)(hg2:Gl X "dict")(hm2:X.mg "dict" = none)(ha:PA X [a,b] ta)
  (hs:C5 [a,b] X.env=(false,eval a X.env)::C5 [b] X.env:=by rfl) (hsb:(backTo pos (C5 [b] X.env)).any (·.1)=false:=by rfl)
  (hs2:C5 [.Call (.Name "zip" p) [a,b] [] pos] X.env=[(false,eval (.Call (.Name "zip" p) [a,b] [] pos) X.env)]:=by rfl) :
  PE X (.Call (.Name "dict" p2) [.Call (.Name "zip" p) [a,b] [] pos] [] pos2) (uw1 X.K ta):=by
 intro pins s σ H Q I h;refine O6 (ub1 I hg2 hm2 (show P3 "dict" = some (.type "dict") by decide) ?_);refine K4 ?_ hs2 rfl;rw[hs2]
 show wpAny _ _ (spliced ((false,eval (.Call (.Name "zip" p) [a,b] [] pos) X.env)::backTo pos2 [])) _ _ s
 refine R6 ?_;refine O6 (ub1 I hg hm boot_zip (K4 (thn (ha pos pins s σ H _ I h) λus s1 ⟨vs,H1,I1,r1,q1⟩=>?_) hs hsb));obtain⟨c,d,l,m,ks,rv,e,hq,hq2,hn,hz,q⟩:=q1;subst e;cases r1 with
 | cons r rr =>
  cases rr with
  | cons r2 rr =>
   cases rr;cases r;cases r2;obtain⟨its,r1,pl⟩:=I1.sq hq;obtain⟨its2,r2,pl2⟩:=I1.sq hq2;have hll:l<s1.heap.objs.size:=by obtain⟨o,e,_⟩:=pl;exact D5 e
   have hlm:m<s1.heap.objs.size:=by obtain⟨o,e,_⟩:=pl2;exact D5 e
   refine ve8 pl pl2 λh0 k1 k2 k3 k4 k5 k6 k7=>?_
   refine W7 ?_;refine un9 hr.hd (zipApart_new hll hlm) k1 k2 ⟨_,_,k3⟩ k4 k5 (pl.at λo e=>k7 _ _ e) (pl2.at λo e=>k7 _ _ e) (ks:=ks) (rv:=rv) (by simpa using r1) (by simpa using r2) hn hz λh' tk vs kp rel dd=>?_
   have kp':∀b o,s1.heap.get? b=some o->h'.get? b=some o:=λb o e=>kp b o (E6 (B8 (D5 e) (K0 _ _))) (E6 (B8 (D5 e) (K0 _ _))) (E6 (D5 e)) (E6 (B8 (D5 e) (K0 _ _))) (k7 b o e)
   have hle:s1.heap.objs.size<=h0.objs.size:=by rw[k6];exact K0 _ _
   have hp:H1 h0.objs.size=none:=I1.hok.fresh hle;have hlen:(putAll ks rv []).length<=sizeLine:=D4 (uk2 ks rv []) (D4 (m:=1000) (by simpa using hz) (by decide));have hsys:(h0.objs.size==U8)=false:=beq_eq_false_iff_ne.mpr (T6 (B8 I1.big hle));have I2:=I1.laid (a:=h0.objs.size) (t':=tk) (o:=.dK (putAll ks rv [])) kp' hle ⟨hlen,hsys,vs,rel,dd⟩;exact⟨.ref h0.objs.size,_,I2,rfl,q _ hp⟩
end L2
namespace L3
open PySem PySem.Spec PyProof.Rows L2
def valK(kvs:List (Key×D))(k:Key):Option D:=(kvs.find? λkv=>decide (kv.1=k)).map (·.2)
def uc7(kvs:List (Key×D))(k:Key)(v:D):List (Key×D) :=
 if(kvs.any λkv=>decide (kv.1=k))=true then kvs.map (λkv=>if kv.1=k then(kv.1,v) else kv) else kvs++[(k,v)]
def ua0:List Key->List D->List (Key×D)->List (Key×D)
 | k::ks,v::vs,kvs=>ua0 ks vs (uc7 kvs k v)
 | _,_,kvs=>kvs
section
variable{X:Cx}{K:W.Frag}{G:Gp}{H:Hp}{p:Addr}
theorem uf4{k:Key}:∀{kvs:List (Key×D)} {ys:List (Key×V)},RelPs K H kvs ys->(valK kvs k=none/\valV ys k=none)\/∃d v,valK kvs k=some d/\valV ys k=some v/\RelD K H d v
 | [],ys,⟨h1,h2⟩=>by
  have:ys=[]:=by cases ys with|nil=>rfl|cons y ys=>simp at h1
  subst this;exact .inl ⟨rfl,rfl⟩
 | (k',d)::kvs,[],⟨h1,h2⟩=>by simp at h1
 | (k',d)::kvs,(k2,v)::ys,⟨h1,h2⟩=>by
  rw[C8,C8] at h1;obtain⟨e1,e2⟩:=A48 h1;have e1:k'=k2:=e1;subst e1;obtain⟨x,xs',e3,q1,q2⟩:=h2.inv_cons;rw[C8] at e3;obtain⟨e4,e5⟩:=A48 e3;have e4:v=x:=e4;subst e4
  by_cases hk:k'=k
  ·right
   exact⟨d,v,by simp[valK,O2,hk],uf2 hk,q1⟩
  ·have ih:=uf4 (k:=k) (kvs:=kvs) (ys:=ys) ⟨e2,by rw[e5];exact q2⟩
   have a1:valK ((k',d)::kvs) k=valK kvs k:=by simp[valK,O2,hk]
   rw[a1,uf3 hk];exact ih
theorem ux5{k:Key}{d:D}{v:V}(q:RelD K H d v):∀{kvs:List (Key×D)} {ys:List (Key×V)},RelPs K H kvs ys->RelPs K H (kvs.map (λkv=>if kv.1=k then(kv.1,d) else kv)) (ys.map (λkv=>if kv.1=k then(kv.1,v) else kv))/\(kvs.any λkv=>decide (kv.1=k))=(ys.any λkv=>decide (kv.1=k))
 | [],ys,⟨h1,h2⟩=>by
  have:ys=[]:=by cases ys with|nil=>rfl|cons y ys=>simp at h1
  subst this;exact⟨⟨rfl,.nil⟩,rfl⟩
 | (k',d')::kvs,[],⟨h1,h2⟩=>by simp at h1
 | (k',d')::kvs,(k2,v')::ys,⟨h1,h2⟩=>by
  rw[C8,C8] at h1;obtain⟨e1,e2⟩:=A48 h1;have e1:k'=k2:=e1;subst e1;obtain⟨x,xs',e3,q1,q2⟩:=h2.inv_cons;rw[C8] at e3;obtain⟨e4,e5⟩:=A48 e3;have e4:v'=x:=e4;subst e4;obtain⟨⟨i1,i2⟩,i3⟩:=ux5 (k:=k) q (kvs:=kvs) (ys:=ys) ⟨e2,by rw[e5];exact q2⟩;refine⟨⟨?_,?_⟩,by rw[O8,O8,i3]⟩
  ·rw[C8,C8,C8,C8,i1]
   by_cases hk:k'=k <;> simp[hk]
  ·rw[C8,C8,C8,C8]
   by_cases hk:k'=k
   ·simp only[hk,if_true];exact .cons q i2
   ·simp only[hk,if_false];exact .cons q1 i2
theorem um7{k:Key}{d:D}{v:V}(q:RelD K H d v){kvs:List (Key×D)}{ys:List (Key×V)}(h:RelPs K H kvs ys):RelPs K H (uc7 kvs k d) (putK ys k v):=by
 obtain⟨i1,i3⟩:=ux5 (k:=k) q h;unfold uc7 putK;rw[i3];split
 ·exact i1
 ·exact⟨by rw[D2,D2,h.1];rfl,by rw[D2,D2];exact h.2.append (.cons q .nil)⟩
theorem uk1:∀{ks:List Key} {ds:List D} {vs:List V} {kvs:List (Key×D)} {ys:List (Key×V)},RelDs K H ds vs->RelPs K H kvs ys->RelPs K H (ua0 ks ds kvs) (putAll ks vs ys)
 | [],_,_,_,_,_,h=>h
 | _::_,[],vs,_,_,r,h=>by rw[r.inv_nil];exact h
 | k::ks,d::ds,vs,kvs,ys,r,h=>by
  obtain⟨x,xs',rfl,q1,q2⟩:=r.inv_cons;exact uk1 (ks:=ks) q2 (um7 q1 h)
theorem uy2{k:Key}{v:V}(r:RelD K H (kD k) v):v=kV k:=by
 cases k with
 | inl i=>exact(show RelD K H (.int i) v from r).int_inv
 | inr x=>exact(show RelD K H (.str x) v from r).str_inv
def ur8(td ti:TE3):TE3:=λσ G q=>td σ G λx G1=>ti σ G1 λy G2=>∃a kvs k d,x=.ref a/\y=kD k/\G2 a=some (.dic kvs)/\valK kvs k=some d/\q d G2
theorem vk2{td ti:TE3}{σ:L2.St}{Q:VK}(h:lowE K (ur8 td ti) σ H Q):vv1 (lowE K td) (lowE K ti) σ H Q:=by
 obtain⟨σd,G,q,rs,c,t,f⟩:=h;refine⟨σd,G,_,rs,c,t,λx G1 v H1 r1 c1 l1 t1=>⟨σd,G1,_,rs.le l1,c1,t1,λy G2 u H2 r2 c2 l2 t2=>?_⟩⟩;obtain⟨a,kvs,k,d,rfl,rfl,hg,hv,t3⟩:=t2;have r1':=RelD.le l2 r1;cases r1'.ref_inv;obtain rfl:=uy2 r2;obtain⟨ys,e,rp⟩:=c2 a _ hg
 rcases uf4 (k:=k) rp with⟨z,_⟩|⟨d',w,z1,z2,z3⟩
 ·rw[hv] at z;cases z
 ·rw[hv] at z1;cases z1
  exact⟨a,w,rfl,by rw[<- z2];exact DGet.k e,f _ _ _ _ z3 c2 (l1.trans l2) t3⟩
theorem uc0{k:Nat}{o i:Expr}{pos:Pos}{to ti:TE3}(hr:Room k X.A)(ho:E3 X o to)(hi:E3 X i ti)(hs:NoSl i:=by exact λ_ _=>rfl):E3 X (.Subscript o i pos) (ur8 to ti) :=
 u51 (v75 (vl4 hr) ho hi hs) λ_ _ _=>vk2
def v27(td ti tv:TE3):TS3:=λDn σ G=>tv σ G λv G1=>td σ G1 λx G2=>ti σ G2 λy G3=>∃(a:Addr) (kvs:List (Key×D)) (k:Key),x=.ref a/\y=kD k/\G3 a=some (.dic kvs)/\kvs.length<sizeLine/\Dn.nx σ (gup G3 a (.dic (uc7 kvs k v)))
theorem ug3{k:Nat}{o i value:Expr}{pos pos':Pos}{to ti tv:TE3}(hr:Room k X.A)(ho:E3 X o to)(hi:E3 X i ti)(hv:E3 X value tv)
  (hs:W5 value (some (.Subscript o i pos')) pos.line X.env=pure false:=by rfl):S3 X (.Assign [.Subscript o i pos'] value pos) (v27 to ti tv) :=
 uc4 (w17 (vl4 hr) ho hi hv hs) λD σ H h=>by
  obtain⟨σd,G,d,rs,c,t,f⟩:=h;refine⟨σd,G,_,rs,c,t,λv G1 w H1 r1 c1 l1 t1=>⟨σd,G1,_,rs.le l1,c1,t1,λx G2 u H2 r2 c2 l2 t2=>⟨σd,G2,_,rs.le (l1.trans l2),c2,t2,λy G3 z H3 r3 c3 l3 t3=>?_⟩⟩⟩;obtain⟨a,kvs,k,rfl,rfl,hg,hl,t4⟩:=t3;have r2':=RelD.le l3 r2;cases r2'.ref_inv;obtain rfl:=uy2 r3;obtain⟨ys,e,rp⟩:=c3 a _ hg;have l5:Le H3 (upd H3 a (.dK (putK ys k w))):=Le.dK e;have lys:ys.length=kvs.length:=by
   have:=congrArg J1 rp.1;rw[B5,B5] at this;exact this.symm
  refine⟨a,_,rfl,DPut.k e (by rw[lys];exact hl),?_⟩;refine f.nx _ _ _ _ (((rs.le l1).le l2).le (l3.trans l5)) ?_ (l1.trans (l2.trans (l3.trans l5))) t4;exact c3.put l5 ⟨_,u30,(um7 (RelD.le (l2.trans l3) r1) rp).le l5⟩
def uf8(t:TA3):TE3:=λσ G q=>t σ G λds G1=>match ds with
 | [x,y]=>∃(ks:List Key) (es:List D),sqD G1 x=some (ks.map kD)/\sqD G1 y=some es/\ks.length=es.length/\ks.length<=1000/\∀p,G1 p=none->q (.ref p) (gup G1 p (.dic (ua0 ks es [])))
 | _=>False
theorem ut7{t:TA3}{σ:L2.St}{Q:VK}(h:lowE K (uf8 t) σ H Q):uw1 K (lowA K t) σ H Q:=by
 obtain⟨σd,G,q,rs,c,t,f⟩:=h;refine⟨σd,G,_,rs,c,t,λds G1 vs H1 r1 c1 l1 t1=>?_⟩;split at t1
 ·rename_i x y
  obtain⟨ks,es,e,e2,hn,hz,t2⟩:=t1;obtain⟨v,vs',rfl,rv,r2⟩:=r1.inv_cons;obtain⟨v2,rfl,rv2⟩:=r2.one;obtain⟨k1,a,rfl,_,q1⟩:=vf7 rv c1 e;obtain⟨k2,b,rfl,_,q2⟩:=vf7 rv2 c1 e2;obtain⟨xs,s1,rx⟩:=q1 G1 H1 (Le.refl _) c1 e;obtain⟨ys,s2,ry⟩:=q2 G1 H1 (Le.refl _) c1 e2;obtain rfl:=um6 rx;refine⟨k1,k2,a,b,ks,ys,rfl,s1,s2,by rw[hn,ry.length],hz,λp hp=>?_⟩;refine f (.ref p) _ (.ref p) _ RelD.refI (c1.put (o:=.dic (ua0 ks es [])) (Le.fresh hp) ⟨_,u30,?_⟩) (l1.trans (Le.fresh hp)) (t2 p (c1.fresh hp));exact(uk1 ry ⟨rfl,.nil⟩).le (Le.fresh hp)
 ·exact t1.elim
theorem ur4{a b:Expr}{ts:TA3}{p p2 pos pos2:Pos}{k:Nat}(hr:Room k X.A)(hg:Gl X "zip")(hm:X.mg "zip" = none)(hg2:Gl X "dict")(hm2:X.mg "dict" = none)(ha:A3 X [a,b] ts)
  (hs:C5 [a,b] X.env=(false,eval a X.env)::C5 [b] X.env:=by rfl) (hsb:(backTo pos (C5 [b] X.env)).any (·.1)=false:=by rfl)
  (hs2:C5 [.Call (.Name "zip" p) [a,b] [] pos] X.env=[(false,eval (.Call (.Name "zip" p) [a,b] [] pos) X.env)]:=by rfl) :
  E3 X (.Call (.Name "dict" p2) [.Call (.Name "zip" p) [a,b] [] pos] [] pos2) (uf8 ts):=u51 (v08 hr hg hm hg2 hm2 ha hs hsb hs2) λ_ _ _=>ut7
end
end L3
namespace L3
open PySem PySem.Spec PyProof.Rows L2 Rw
def ixB:List Str->Str->Nat
 | [],_=>0
 | b::bs,x=>if b=x then 0 else 1+ixB bs x
def gtB(bs:List Str)(vs:List Nat)(x:Str):Nat:=(vs[ixB bs x]?).getD 0
def ptB(bs:List Str)(vs:List Nat)(x:Str)(v:Nat):List Nat:=vs.set (ixB bs x) v
def u09(bs:List Str)(vs:List Nat):List (Key×D):=(bs.zip vs).map λp=>(R7 p.1,D.int (p.2:Int))
theorem va1:∀{bs:List Str} {x:Str},x∈bs->ixB bs x<bs.length
 | b::bs,x,h=>by
  unfold ixB
  by_cases e:b=x
  ·rw[if_pos e];simp
  ·rw[if_neg e]
   have:=va1 (bs:=bs) (x:=x) (by rcases D1.mp h with z|z;exact absurd z.symm e;exact z);simp only[C0];omega
theorem u57:∀{bs:List Str} {vs:List Nat} {x:Str},x∈bs->vs.length=bs.length->valK (u09 bs vs) (.inr x)=some (.int (gtB bs vs x:Int))
 | b::bs,[],x,h,hl=>by simp at hl
 | b::bs,v::vs,x,h,hl=>by
  by_cases e:b=x
  ·subst e
   simp[valK,u09,gtB,ixB,O2]
  ·have hx:x∈bs:=by rcases D1.mp h with z|z;exact absurd z.symm e;exact z
   have ih:=u57 (bs:=bs) (vs:=vs) (x:=x) hx (by simpa using hl);have e2:valK (u09 (b::bs) (v::vs)) (.inr x)=valK (u09 bs vs) (.inr x):=by
    simp[valK,u09,O2,e]
   rw[e2,ih];have:gtB (b::bs) (v::vs) x=gtB bs vs x:=by
    unfold gtB;rw[show ixB (b::bs) x=1+ixB bs x from by rw[ixB,if_neg e],Q0,Q1]
   rw[this]
theorem v69{x:Str}{w:D}:∀{bs:List Str} {vs:List Nat},x∉bs->(u09 bs vs).map (λkv=>if kv.1=R7 x then(kv.1,w) else kv)=u09 bs vs/\((u09 bs vs).any λkv=>decide (kv.1=R7 x))=false
 | [],_,_=>⟨rfl,rfl⟩
 | _::_,[],_=>⟨rfl,rfl⟩
 | b::bs,v::vs,h=>by
  have hb:b≠x:=λe=>h (by rw[e];simp)
  obtain⟨i1,i2⟩:=v69 (x:=x) (w:=w) (bs:=bs) (vs:=vs) λz=>h (C6 _ z)
  unfold u09 at i1 i2⊢;refine⟨?_,?_⟩
  ·rw[O5,C8,C8,i1]
   simp[hb]
  ·rw[O5,C8,O8,i2]
   simp[hb]
theorem u99:∀{bs:List Str} {vs:List Nat} {x:Str} {v:Nat},x∈bs->bs.Nodup->vs.length=bs.length->uc7 (u09 bs vs) (.inr x) (.int (v:Int))=u09 bs (ptB bs vs x v):=by
 intro bs vs x v h hn hl;have key:((u09 bs vs).any λkv=>decide (kv.1=R7 x))=true/\(u09 bs vs).map (λkv=>if kv.1=R7 x then(kv.1,D.int (v:Int)) else kv)=u09 bs (ptB bs vs x v):=by
  induction bs generalizing vs with
  | nil=>cases h
  | cons b bs ih =>
   cases vs with
   | nil=>simp at hl
   | cons u vs =>
    obtain⟨n1,n2⟩:=M8.mp hn
    by_cases e:b=x
    ·subst e
     obtain⟨i1,i2⟩:=v69 (x:=b) (w:=D.int (v:Int)) (vs:=vs) n1;unfold u09 at i1⊢;refine⟨by simp,?_⟩;rw[O5,C8,C8,i1];simp[ptB,ixB]
    ·have hx:x∈bs:=by rcases D1.mp h with z|z;exact absurd z.symm e;exact z
     obtain⟨i1,i2⟩:=ih (vs:=vs) hx n2 (by simpa using hl);have ep:ptB (b::bs) (u::vs) x v=u::ptB bs vs x v:=by
      unfold ptB;rw[show ixB (b::bs) x=ixB bs x+1 from by rw[ixB,if_neg e,Q0],B23]
     rw[ep];unfold u09 at i1 i2⊢;refine⟨?_,?_⟩
     ·rw[O5,C8,O8,i1,R0]
     ·rw[O5,O5,C8,C8,C8,i2]
      simp[e]
 unfold uc7;rw[if_pos key.1];exact key.2
theorem uk4:∀{bs cs:List Str} {vs us:List Nat},vs.length=bs.length->us.length=cs.length->(cs++bs).Nodup->ua0 (bs.map R7) (vs.map nD) (u09 cs us)=u09 (cs++bs) (us++vs)
 | [],cs,[],us,_,_,_=>by simp[ua0]
 | [],cs,_::_,us,h,_,_=>by simp at h
 | _::_,cs,[],us,h,_,_=>by simp at h
 | b::bs,cs,v::vs,us,h,h2,hn=>by
  show ua0 (bs.map R7) (vs.map nD) (uc7 (u09 cs us) (.inr b) (.int (v:Int)))=_
  have hb:b∉cs:=λz=>by
   have:=W8.mp hn;exact this.2.2 b z b (by simp) rfl
  obtain⟨_,i2⟩:=v69 (x:=b) (w:=D.int (v:Int)) (vs:=us) hb;have e1:uc7 (u09 cs us) (.inr b) (.int (v:Int))=u09 (cs++[b]) (us++[v]):=by
   unfold uc7;rw[i2,if_neg (by simp)];unfold u09;rw[List.zip_append h2.symm,D2];rfl
  rw[e1];have hn2:((cs++[b])++bs).Nodup:=by rw[E1];exact hn
  rw[uk4 (bs:=bs) (cs:=cs++[b]) (vs:=vs) (us:=us++[v]) (by simpa using h) (by simp[h2]) hn2,E1,E1];rfl
theorem uk3{bs:List Str}{vs:List Nat}(hl:vs.length=bs.length)(hn:bs.Nodup):ua0 (bs.map R7) (vs.map nD) []=u09 bs vs:=by
 have:=uk4 (bs:=bs) (cs:=[]) (vs:=vs) (us:=[]) hl rfl hn;simpa[u09] using this
theorem w09{bs:List Str}{vs:List Nat}{x:Str}{v:Nat}:(ptB bs vs x v).length=vs.length:=by simp[ptB]
theorem u85(bs:List Str)(vs:List Nat):(u09 bs vs).length<=bs.length:=by
 unfold u09;rw[B5,A86];exact Nat.min_le_left _ _
def StW(W:Nat)(bs:List Str)(vs:List Nat):Prop:=vs.length=bs.length/\∀v∈vs,v<2^W
theorem wq9{W:Nat}{bs:List Str}{vs:List Nat}(h:StW W bs vs)(x:Str):gtB bs vs x<2^W:=by
 unfold gtB;cases e:vs[ixB bs x]? with
 | none=>exact Y4 W
 | some v=>exact h.2 v (J5 e)
theorem StW.put{W:Nat}{bs:List Str}{vs:List Nat}(h:StW W bs vs){x:Str}{v:Nat}(hv:v<2^W):StW W bs (ptB bs vs x v):=by
 refine⟨by rw[w09];exact h.1,λu hu=>?_⟩
 rcases N1 hu with z|z
 ·exact h.2 u z
 ·rw[z];exact hv
def avB(bs:List Str)(vs:List Nat):Atm->Nat
 | .num i=>i
 | .box x=>gtB bs vs x
theorem ue5{W:Nat}{bs:List Str}{vs:List Nat}(h:StW W bs vs){a:Atm}(ha:okA W bs a):avB bs vs a<2^W:=by
 cases a with
 | num i=>exact ha
 | box x=>exact wq9 h x
def rkB(W:Nat)(o:Str)(a b:Nat):Nat :=
 if o = "+" then(a+b)%2^W else if o = "-" then(a+(2^W-b))%2^W else if o = "&" then a &&& b else if o = "|" then a ||| b else if o = "^" then a ^^^ b else if o = "<" then(if a<b then 1 else 0) else(if a=b then 1 else 0)
theorem v09{W:Nat}(h:1<=W):1<2^W:=B8 (by decide:1<2^1) (B01 (by decide) h)
theorem wd9{W a b:Nat}{o:Str}(hW:1<=W)(ha:a<2^W)(hb:b<2^W):rkB W o a b<2^W:=by
 have h1:=v09 hW;unfold rkB;split
 ·exact A75 _ (by omega)
 split
 ·exact A75 _ (by omega)
 split
 ·exact B24 _ hb
 split
 ·exact Nat.or_lt_two_pow ha hb
 split
 ·exact Nat.xor_lt_two_pow ha hb
 split
 ·split <;> omega
 ·split <;> omega
mutual
def doR(W:Nat)(bs:List Str):Rowp->List Nat->List Nat
 | .is x a,vs=>ptB bs vs x (avB bs vs a)
 | .op x o a b,vs=>ptB bs vs x (rkB W o (avB bs vs a) (avB bs vs b))
 | .cho a ys ns,vs=>if avB bs vs a=0 then doL W bs ns vs else doL W bs ys vs
 | .tim k ys,vs=>Nat.repeat (doL W bs ys) k vs
def doL(W:Nat)(bs:List Str):List Rowp->List Nat->List Nat
 | [],vs=>vs
 | r::rs,vs=>doL W bs rs (doR W bs r vs)
end
theorem vb7{W:Nat}{bs:List Str}:∀{a b:List Rowp} {vs:List Nat},doL W bs (a++b) vs=doL W bs b (doL W bs a vs)
 | [],b,vs=>rfl
 | r::a,b,vs=>by
  show doL W bs (a++b) (doR W bs r vs)=doL W bs b (doL W bs a (doR W bs r vs))
  exact vb7
mutual
theorem vb6{W:Nat}{bs:List Str}(hW:1<=W):∀(r:Rowp) {vs:List Nat},okR W bs r->StW W bs vs->StW W bs (doR W bs r vs)
 | .is x a,vs,h,s=>s.put (ue5 s h.2)
 | .op x o a b,vs,h,s=>s.put (wd9 hW (ue5 s h.2.2.1) (ue5 s h.2.2.2))
 | .cho a ys ns,vs,h,s=>by
  show StW W bs (if avB bs vs a=0 then doL W bs ns vs else doL W bs ys vs)
  split
  ·exact ur6 hW ns h.2.2 s
  ·exact ur6 hW ys h.2.1 s
 | .tim k ys,vs,h,s=>by
  show StW W bs (Nat.repeat (doL W bs ys) k vs)
  have:∀k,StW W bs (Nat.repeat (doL W bs ys) k vs):=λk=>by
   induction k with
   | zero=>exact s
   | succ k ih=>exact ur6 hW ys h.2 ih
  exact this k
theorem ur6{W:Nat}{bs:List Str}(hW:1<=W):∀(rs:List Rowp) {vs:List Nat},okL W bs rs->StW W bs vs->StW W bs (doL W bs rs vs)
 | [],_,_,s=>s
 | r::rs,_,h,s=>ur6 hW rs h.2 (vb6 hW r h.1 s)
end
theorem v80{W:Nat}{bs:List Str}:∀{rs:List Rowp} {r:Rowp},okL W bs rs->r∈rs->okR W bs r
 | s::rs,r,h,m=>by
  rcases D1.mp m with e|e
  ·subst e;exact h.1
  ·exact v80 h.2 e
theorem v95:∀(n a b:Nat),a<2^n->b<2^n->a ||| b=(a ^^^ b)+(a &&& b)
 | 0,a,b,ha,hb=>by
  have h1:a=0:=by simpa using ha
  have h2:b=0:=by simpa using hb
  subst h1 h2;rfl
 | n+1,a,b,ha,hb=>by
  rw[A73] at ha hb;have h:=v95 n (a / 2) (b / 2) (by omega) (by omega);have d1:(a ||| b) / 2=(a / 2) ||| (b / 2):=by simpa using(Nat.or_div_two (a:=a) (b:=b))
  have d2:(a &&& b) / 2=(a / 2) &&& (b / 2):=by simpa using(Nat.and_div_two (a:=a) (b:=b))
  have d3:(a ^^^ b) / 2=(a / 2) ^^^ (b / 2):=by simpa using(A90 (a:=a) (b:=b))
  have m1:(a ||| b)%2=(a%2) ||| (b%2):=by simpa using(Nat.or_mod_two_pow (a:=a) (b:=b) (n:=1))
  have m2:(a &&& b)%2=(a%2) &&& (b%2):=by simpa using(Nat.and_mod_two_pow (a:=a) (b:=b) (n:=1))
  have m3:(a ^^^ b)%2=(a%2) ^^^ (b%2):=by simpa using(Nat.xor_mod_two_pow (a:=a) (b:=b) (n:=1))
  have ra:a%2=0\/a%2=1:=by omega
  have rb:b%2=0\/b%2=1:=by omega
  have t1:(0 ||| 0:Nat)=0:=rfl;have t2:(0 ||| 1:Nat)=1:=rfl;have t3:(1 ||| 0:Nat)=1:=rfl;have t4:(1 ||| 1:Nat)=1:=rfl;have t5:(0 &&& 0:Nat)=0:=rfl;have t6:(0 &&& 1:Nat)=0:=rfl;have t7:(1 &&& 0:Nat)=0:=rfl;have t8:(1 &&& 1:Nat)=1:=rfl;have t9:(0 ^^^ 0:Nat)=0:=rfl;have ta:(0 ^^^ 1:Nat)=1:=rfl;have tb:(1 ^^^ 0:Nat)=1:=rfl;have tc:(1 ^^^ 1:Nat)=0:=rfl
  rcases ra with ra|ra <;> rcases rb with rb|rb <;> rw[ra,rb] at m1 m2 m3 <;> first|(rw[t1] at m1;rw[t5] at m2;rw[t9] at m3;omega)|(rw[t2] at m1;rw[t6] at m2;rw[ta] at m3;omega)|(rw[t3] at m1;rw[t7] at m2;rw[tb] at m3;omega)|(rw[t4] at m1;rw[t8] at m2;rw[tc] at m3;omega)
theorem submod{a b P:Nat}(hb:b<P):((a:Int)-(b:Int))%(P:Int)=(((a+(P-b))%P:Nat):Int):=by
 have h:((a+(P-b):Nat):Int)=(a:Int)-b+P:=by omega
 rw[Z8,h,Int.add_emod_right]
theorem pw(W:Nat):(1:Int)*2^W=((2^W:Nat):Int):=by rw[A98,Y5];rfl
theorem v35{a b W:Nat}(ha:a<2^W)(hb:b<2^W):X0 (a:Int) (b:Int)=((a ^^^ b:Nat):Int):=by
 show Z9 (a:Int) (b:Int)-V1 (a:Int) (b:Int)=_
 rw[ux0,ui3,v95 W a b ha hb];omega
theorem vl6{G:Gp}{h:Addr}{o:DO}(e:G h=some o):gup G h o=G:=by
 funext b
 unfold gup;split
 ·rename_i z;rw[z];exact e.symm
 ·rfl
theorem vv6{G:Gp}{h:Addr}{d:D}{o:List (Key×D)}{o':DO}{ds:List D}(hg:G h=some (.dic o))(e:sqD G d=some ds):sqD (gup G h o') d=some ds:=by
 cases d with
 | tup es=>exact e
 | ref a =>
  have ne:a≠h:=λz=>by
   have e':u13 (G a)=some ds:=e;rw[z,hg] at e';cases e'
  show u13 (gup G h o' a)=some ds
  rw[u06 ne];exact e
 | _=>cases e
theorem um8:∀{bs:List Str} {vs:List Nat},bs.Nodup->vs.length=bs.length->bs.map (gtB bs vs)=vs
 | [],[],_,_=>rfl
 | [],_::_,_,h=>by simp at h
 | _::_,[],_,h=>by simp at h
 | b::bs,v::vs,hn,h=>by
  obtain⟨n1,n2⟩:=M8.mp hn;have e1:gtB (b::bs) (v::vs) b=v:=by simp[gtB,ixB]
  have e2:bs.map (gtB (b::bs) (v::vs))=bs.map (gtB bs vs):=by
   refine P6 λx hx=>?_
   have hb:b≠x:=λz=>n1 (z▸hx)
   unfold gtB;rw[show ixB (b::bs) x=ixB bs x+1 from by rw[ixB,if_neg hb,Q0],Q1]
  rw[C8,e1,e2,um8 n2 (by simpa using h)]
theorem abc_at{x:Int}(h1:0<=x)(h2:x<26):atI (C1 "abcdefghijklmnopqrstuvwxyz").cps.toList x=some (97+x.toNat):=by
 obtain⟨n,rfl⟩:=A59 h1;have hn:n<26:=by omega
 have key:∀n:Fin 26,(C1 "abcdefghijklmnopqrstuvwxyz").cps.toList[n.val]?=some (97+n.val):=by decide
 have e:=uv3 (xs:=(C1 "abcdefghijklmnopqrstuvwxyz").cps.toList) (i:=(n:Int)) h1 (by exact h2);rw[e,<- B6];exact key ⟨n,hn⟩
end L3
namespace L3
open PySem PySem.Spec PyProof.Rows L2
section
variable{X:Cx}{e o:Expr}{es:List Expr}{to:TE3}{ts:TA3}{apos cpos:Pos}
@[reducible] def wo4:M3:=λx ds G q=>∃(a:Addr) (k:Nat) (xs:List D) (d:D),x=.ref a/\ds=[.int (k:Int)]/\G a=some (.lst xs)/\xs[k]?=some d/\xs.length<=100000/\q d (gup G a (.lst (xs.eraseIdx k)))
theorem uq3{K:W.Frag}{H:Hp}:∀{ds:List D} {vs:List V} (k:Nat),RelDs K H ds vs->RelDs K H (ds.eraseIdx k) (vs.eraseIdx k)
 | [],vs,k,r=>by rw[r.inv_nil];exact .nil
 | d::ds,vs,k,r=>by
  obtain⟨x,t,rfl,r1,r2⟩:=r.inv_cons;cases k with
  | zero=>exact r2
  | succ k=>exact .cons r1 (uq3 k r2)
theorem wr1(ho:E3 X o to)(ha:A3 X (e::es) ts)(hbase:L9 o "pop" X.env (eval o X.env)=eval o X.env:=by rfl)
  (hfew:((backTo cpos (C5 (e::es) X.env)).all (λx=>!x.1)&&(Q5 cpos (M5 [] X.env)).all (λx=>x.1.isSome)
   && decide ((e::es).length+([]:List Keyword).length+(if([]:List Keyword).isEmpty then 0 else 1)<30))=true:=by rfl)
  (hline:(apos.endLine==cpos.line)=true:=by rfl) (hs:C5 (e::es) X.env=(false,eval e X.env)::C5 es X.env:=by rfl) (hplain:(backTo cpos (C5 es X.env)).any (·.1)=false:=by rfl) :
  E3 X (.Call (.Attribute o "pop" apos) (e::es) [] cpos) (dBM "list" wo4 to ts) :=
 u51 (vi5 V3 PySem.F.slot_list_pop PySem.F.type_list_pop (uo4 (r':=lowM X.K wo4) vi8 <| by
  rintro x xs H Q ⟨d,ds,G,q,r1,r2,c,⟨a,k,ys,d',rfl,rfl,ea,ek,hl,t⟩,f⟩;cases r1.ref_inv;obtain⟨v,rfl,rv⟩:=r2.one;cases rv.int_inv;obtain⟨zs,h1,q1⟩:=c _ _ ea;have hk:k<ys.length:=(J7.mp ek).1;have hln:=q1.length;have hz:zs[k]?=some zs[k]:=B6 (by omega);have hr:RelD X.K H d' zs[k]:=by
   obtain⟨v,hv,rv⟩:=q1.get ek;rw[hz] at hv;cases hv;exact rv
  refine⟨a,zs,(k:Int),k,zs[k],rfl,rfl,h1,by omega,by omega,?_,hz,f _ _ _ _ (RelD.le (Le.lst h1) hr) (c.lstSet h1 (uq3 k q1)) (Le.lst h1) t⟩;exact(ut9 (uy3 (by omega))).1) ho ha hbase hfew hline hs hplain) λ_ _ _=>ux9 (ty_list X.K)
end
end L3
namespace Rw
open PySem PySem.Spec PyProof.Rows L2 L3
def sm:Row->Prop
 | .turn _ _ cs=>cs.length<=2
 | _=>True
theorem ur9{α:Type}{xs:List α}{n:Nat}:L3.cutD xs (some (n:Int)) none=xs.drop n:=by
 unfold L3.cutD;rw[HT.sIx_none,HT.sIx_nat]
 rcases C16 n xs.length with h|h
 ·rw[B64 h]
  exact Z2 (by rw[A57];exact B9 _)
 ·rw[B49 h,Q8 (B9 _),Q8 h,List.take_nil]
end Rw
namespace Rw
theorem map_erase{α β:Type}(f:α->β):∀(l:List α) (k:Nat),(l.map f).eraseIdx k=(l.eraseIdx k).map f
 | [],k=>by simp
 | x::l,0=>rfl
 | x::l,k+1=>by
  show f x::(l.map f).eraseIdx k=f x::(l.eraseIdx k).map f
  rw[map_erase f l k]
end Rw
namespace L2
open PySem PySem.Spec PyProof.Rows
section
variable{X:Cx}{tg:Expr}
theorem wd3:SlR X (λx _ _ H Q=>∃y:Str,x=.str y/\y.length<=sizeLine/\∀z:Str,z.length<=y.length->Q (.str z) H):=by
 intro pins s σ H x v vl vu lo hi sl Q I rx hs pl pu h;obtain⟨y,rfl,hy,q⟩:=h;obtain⟨t,rfl⟩:=rx;refine⟨"str",_,PySem.F.slot_str_getitem.lookup,B30 _ _ _,?_⟩;obtain⟨l,rfl⟩:∃l,vl=partValue l:=by cases pl with
  | none=>exact⟨none,rfl⟩
  | int i t=>exact⟨some (i,t),rfl⟩
 obtain⟨u,rfl⟩:∃l,vu=partValue l:=by cases pu with
  | none=>exact⟨none,rfl⟩
  | int i t=>exact⟨some (i,t),rfl⟩
 refine wpAny_getItem_str_slice (l:=l) (u:=u) (st:=none) hs rfl ?_;unfold sliceMade;split
 ·exact⟨.str y,H,I,⟨t,rfl⟩,q y (B9 _)⟩
 ·have hl:(⟨((slicePicked y l u none).filterMap (y.cps[·]?)).toArray⟩:Str).length<=y.length:=by
   show(List.filterMap _ _).toArray.size<=_
   rw[D3];exact D4 (List.length_filterMap_le _ _) (sliceIndices_le _ _ _)
  exact⟨D4 hl hy,.str _,H,I.tok _,⟨_,rfl⟩,q _ hl⟩
end
end L2
namespace L3
open PySem PySem.Spec PyProof.Rows L2
section
variable{X:Cx}{K:W.Frag}{H:Hp}{o e tg:Expr}{es:List Expr}{te to:TE3}{ts:TA3}{apos cpos pos:Pos}{x:Str}
def xSlS:RS3:=λx _ _ G q=>∃y:Str,x=.str y/\y.length<=sizeLine/\∀z:Str,z.length<=y.length->q (.str z) G
theorem wz1:SlR X (vl0 X.K xSlS):=vo6 wd3 <| by
 rintro x lo hi H Q ⟨d,G,q,r1,c,⟨y,rfl,hy,t⟩,f⟩;exact⟨y,r1.str_inv,hy,λz hz=>f _ _ _ _ (by rw[RelD]) c (Le.refl H) (t z hz)⟩
end
end L3
namespace L2
open PySem PySem.Spec PyProof.Rows
def uo7(ta:TA):TE:=λσ H Q=>ta σ H λvs H1=>∃j:Int,vs=[.int j]/\(-1000000<=j/\j<=1000000)/\∀l,H1 l=none->Q (.ref l) (upd H1 l (.lst ((J6 (j-0).toNat).map λk:Nat=>V.int (0+k))))
theorem ut4{X:Cx}{a:Expr}{ta:TA}{p p2 pos pos2:Pos}{k:Nat}(hr:Room k X.A)(hg:Gl X "range")(hm:X.mg "range" = none)(hg2:Gl X "list")(hm2:X.mg "list" = none)(ha:PA X [a] ta)
  (hs:C5 [a] X.env=[(false,eval a X.env)]:=by rfl)
  (hs2:C5 [.Call (.Name "range" p) [a] [] pos] X.env=[(false,eval (.Call (.Name "range" p) [a] [] pos) X.env)]:=by rfl) :
  PE X (.Call (.Name "list" p2) [.Call (.Name "range" p) [a] [] pos] [] pos2) (uo7 ta):=by
 intro pins s σ H Q I h;refine O6 (ub1 I hg2 hm2 vn1 ?_);refine K4 ?_ hs2 rfl;rw[hs2]
 show wpAny _ _ (spliced ((false,eval (.Call (.Name "range" p) [a] [] pos) X.env)::backTo pos2 [])) _ _ s
 refine R6 ?_;refine O6 (ub1 I hg hm boot_range (K4 (thn (ha pos pins s σ H _ I h) λus s1 ⟨vs,H1,I1,r1,q1⟩=>?_) hs rfl));obtain⟨j,e,⟨b3,b4⟩,q⟩:=q1;subst e;cases r1 with
 | cons r rr =>
   cases rr;obtain⟨t2,rfl⟩:=r;refine call_range_1 ?_;refine W7 ?_;have hn:A53 0 j 1=(((j-0).toNat:Nat):Int):=by rw[rangeSize_one];split <;> omega
   refine call_list_range (hh:=hr.hd) (C22 ..) (small_one (by omega) (by omega) (by omega) (by omega)) hn (by omega) λh' tk acc c kp hnew hit=>?_
   have kp':∀b o,s1.heap.get? b=some o->h'.get? b=some o:=λb o e=>kp b o (B7 _ e)
   have hv:Vals ((J6 (j-0).toNat).map λk:Nat=>V.int (0+k)) acc.toList:=by
    have hz:acc.size=(j-0).toNat:=hit.1;have key:∀(m:Nat) (l:List Value),(∀(y:Nat) v,l[y]?=some v->∃t,v=.int (0+(y:Int)) t)->l.length=m->Vals ((J6 m).map λk:Nat=>V.int (0+k)) l:=by
     intro m
     induction m with
     | zero=>intro l _ hl;have:l=[]:=F4 hl;subst this;exact .nil
     | succ m ih =>
      intro l hl hz
      rcases List.eq_nil_or_concat l with e|⟨l',v,e⟩
      ·subst e;simp at hz
      ·rw[List.concat_eq_append] at e
       subst e;have hz':l'.length=m:=by simpa using hz
       rw[A08,D2];refine(ih l' (λy v e=>hl y v ?_) hz').append (.cons ?_ .nil)
       ·rw[E9 (J7.mp e).1];exact e
       ·obtain⟨t,e⟩:=hl m v (by rw[<- hz'];simp)
        exact⟨t,e⟩
    refine key _ acc.toList (λy v e=>?_) (by simpa using hz);obtain⟨t,e⟩:=hit.2 y v (by simpa using e);exact⟨t,by rw[e,A96]⟩
   have hll:((J6 (j-0).toNat).map λk:Nat=>V.int (0+k)).length<=sizeLine:=by
    rw[B5,N5];exact L5 (C4 (m:=3000000) (by omega) (by decide))
   have I2:=I1.laid (h':=h') (a:=s1.heap.objs.size+1) (o:=.lst ((J6 (j-0).toNat).map λk:Nat=>V.int (0+k))) (t':=tk) kp' (M0 _) ⟨hll,acc.toList,c,hv,by simpa using hnew⟩;exact⟨_,_,I2,by simp;rfl,q _ (I1.hok.fresh (M0 _))⟩
end L2
namespace L3
open PySem PySem.Spec PyProof.Rows L2
def uh8(t:TA3):TE3:=λσ G q=>t σ G λds G1=>match ds with
 | [.int j]=>(-1000000<=j/\j<=1000000)/\∀p,G1 p=none->q (.ref p) (gup G1 p (.lst (rngD 0 (j-0).toNat)))
 | _=>False
theorem uq9{K:W.Frag}{t:TA3}{σ:L2.St}{H:Hp}{Q:VK}(h:lowE K (uh8 t) σ H Q):uo7 (lowA K t) σ H Q:=by
 obtain⟨σd,G,q,rs,c,t,f⟩:=h;refine⟨σd,G,_,rs,c,t,λds G1 vs H1 r1 c1 l1 t1=>?_⟩;split at t1
 ·rename_i j
  obtain⟨x,rfl,x1⟩:=r1.one;cases x1.int_inv;exact⟨j,rfl,t1.1,λp hp=>f _ _ _ _ RelD.refI (c1.lstNew hp (v66 _)) (l1.trans (Le.fresh hp)) (t1.2 p (c1.fresh hp))⟩
 ·exact t1.elim
theorem v25{X:Cx}{a:Expr}{ts:TA3}{p p2 pos pos2:Pos}{k:Nat}(hr:Room k X.A)(hg:Gl X "range")(hm:X.mg "range" = none)(hg2:Gl X "list")(hm2:X.mg "list" = none)(ha:A3 X [a] ts)
  (hs:C5 [a] X.env=[(false,eval a X.env)]:=by rfl)
  (hs2:C5 [.Call (.Name "range" p) [a] [] pos] X.env=[(false,eval (.Call (.Name "range" p) [a] [] pos) X.env)]:=by rfl) :
  E3 X (.Call (.Name "list" p2) [.Call (.Name "range" p) [a] [] pos] [] pos2) (uh8 ts):=u51 (ut4 hr hg hm hg2 hm2 ha hs hs2) λ_ _ _=>uq9
def ur7(td ti tf:TE3):TE3:=λσ G q=>td σ G λx G1=>(∃a kvs,x=.ref a/\G1 a=some (.dic kvs))/\ti σ G1 λy G2=>tf σ G2 λz G3=>∃a kvs k,x=.ref a/\y=kD k/\G3 a=some (.dic kvs)/\q ((valK kvs k).getD z) G3
theorem v92{K:W.Frag}{H:Hp}{td ti tf:TE3}{σ:L2.St}{Q:VK}(h:lowE K (ur7 td ti tf) σ H Q):vp2 (lowE K td) (lowE K ti) (lowE K tf) σ H Q:=by
 obtain⟨σd,G,q,rs,c,t,f⟩:=h;refine⟨σd,G,_,rs,c,t,λx G1 v H1 r1 c1 l1 t1=>?_⟩;obtain⟨⟨a,kvs,rfl,ha⟩,t1⟩:=t1;obtain⟨ys,e,rp⟩:=c1 a _ ha;refine⟨a,r1.ref_inv,.inl ⟨ys,.of e⟩,σd,G1,_,rs.le l1,c1,t1,λy G2 u H2 r2 c2 l2 t2=>⟨σd,G2,_,rs.le (l1.trans l2),c2,t2,λz G3 w H3 r3 c3 l3 t3=>?_⟩⟩;obtain⟨a',kvs3,k,e1,rfl,hg,t4⟩:=t3;cases e1;obtain rfl:=uy2 r2;obtain⟨ys3,e3,rp3⟩:=c3 a _ hg;refine⟨valV ys3 k,DGet.k e3,?_⟩
 rcases uf4 (k:=k) rp3 with⟨z1,z2⟩|⟨d',w',z1,z2,z3⟩
 ·rw[z1] at t4
  rw[z2];exact f _ _ _ _ r3 c3 (l1.trans (l2.trans l3)) t4
 ·rw[z1] at t4
  rw[z2];exact f _ _ _ _ z3 c3 (l1.trans (l2.trans l3)) t4
theorem uy6{X:Cx}{k:Nat}{o e f:Expr}{apos cpos:Pos}{to te tf:TE3}(hr:Room k X.A)(ho:E3 X o to)(he:E3 X e te)(hf:E3 X f tf)(hbase:L9 o "get" X.env (eval o X.env)=eval o X.env:=by rfl)
  (hfew:((backTo cpos (C5 [e,f] X.env)).all (λx=>!x.1)&&(Q5 cpos (M5 [] X.env)).all (λx=>x.1.isSome)
   && decide (([e,f]:List Expr).length+([]:List Keyword).length+(if([]:List Keyword).isEmpty then 0 else 1)<30))=true:=by rfl)
  (hline:(apos.endLine==cpos.line)=true:=by rfl) (htr:C5 [e,f] X.env=[(false,eval e X.env),(false,eval f X.env)]:=by rfl):E3 X (.Call (.Attribute o "get" apos) [e,f] [] cpos) (ur7 to te tf) :=
 u51 (vi2 (vl4 hr) ho he hf ⟨hbase,hfew,hline,by rw[htr];rfl⟩) λ_ _ _=>v92
end L3
namespace Rw
open PySem PySem.Spec PyProof.Rows L2 L3 Law
def rnp(rs:List Row)(bs:List Int):List Int:=rs.foldl (stp 1) bs
theorem ub7{a b:List Row}{bs:List Int}:rnp (a++b) bs=rnp b (rnp a bs):=List.foldl_append
theorem u32{r:Row}{b:List Row}{bs:List Int}:rnp (r::b) bs=rnp b (stp 1 bs r):=rfl
theorem u68{bs:List Int}:rnp [] bs=bs:=rfl
def tg(fr fr':Nat):Row->Prop
 | .add x o=>fr<=x/\x<fr'/\o.ok fr' x
 | .take x o=>fr<=x/\x<fr'/\o.ok fr' x
 | .turn x i cs=>fr<=x/\x<fr'/\i<32/\cs.length<=2/\∀c∈cs,c.1<fr'/\c.1≠x/\c.2<32
 | _=>False
theorem uf6{a b x:Nat}{o:Opd}(h:o.ok a x)(hb:a<=b):o.ok b x:=by
 cases o with
 | num n=>exact h
 | box y=>exact⟨B8 h.1 hb,h.2⟩
theorem ub5{fr0 fr fr1 fr':Nat}{r:Row}(h:tg fr fr1 r)(h0:fr0<=fr)(h1:fr1<=fr'):tg fr0 fr' r:=by
 cases r with
 | add x o=>exact⟨D4 h0 h.1,B8 h.2.1 h1,uf6 h.2.2 h1⟩
 | take x o=>exact⟨D4 h0 h.1,B8 h.2.1 h1,uf6 h.2.2 h1⟩
 | turn x i cs=>exact⟨D4 h0 h.1,B8 h.2.1 h1,h.2.2.1,h.2.2.2.1,λc hc=>⟨B8 (h.2.2.2.2 c hc).1 h1,(h.2.2.2.2 c hc).2⟩⟩
 | _=>exact h.elim
theorem vu8{fr fr' sz:Nat}{r:Row}(h:tg fr fr' r)(hs:fr'<=sz):r.ok sz:=by
 have h:=ub5 h (B9 _) hs;cases r with
 | add x o=>exact⟨h.2.1,h.2.2⟩
 | take x o=>exact⟨h.2.1,h.2.2⟩
 | turn x i cs=>exact⟨h.2.1,h.2.2.1,h.2.2.2.1,h.2.2.2.2⟩
 | _=>exact h.elim
theorem um3{fr fr':Nat}{r:Row}(h:tg fr fr' r):r.plain=true:=by
 cases r with
 | go=>exact h.elim
 | come=>exact h.elim
 | _=>rfl
theorem ub2{bs:List Int}{x i:Nat}{o:Opd}(h:x<bs.length):gt (stp 1 bs (.add x o)) i=if i=x then(gt bs x+val bs o)%4294967296 else gt bs i:=by
 show gt (bs.set x ((gt bs x+1*val bs o)%4294967296)) i=_
 rw[u84 h,A98]
theorem ub8{bs:List Int}{x i:Nat}{o:Opd}(h:x<bs.length):gt (stp 1 bs (.take x o)) i=if i=x then(gt bs x-val bs o)%4294967296 else gt bs i:=by
 show gt (bs.set x ((gt bs x-1*val bs o)%4294967296)) i=_
 rw[u84 h,A98]
theorem u69{bs:List Int}{x i j:Nat}{cs:List (Nat×Nat)}(h:x<bs.length):gt (stp 1 bs (.turn x i cs)) j=if j=x then(if con bs cs=true then flp (gt bs x) i else gt bs x) else gt bs j:=by
 show gt (if con bs cs=true then bs.set x (flp (gt bs x) i) else bs) j=_
 by_cases hc:con bs cs=true
 ·rw[if_pos hc,if_pos hc,u84 h]
 ·rw[if_neg hc,if_neg hc]
  split
  ·rename_i e;rw[e]
  ·rfl
theorem vu9{fr fr':Nat}{r:Row}{bs:List Int}{i:Nat}(h:tg fr fr' r)(hb:fr'<=bs.length)(hi:i<fr\/fr'<=i):gt (stp 1 bs r) i=gt bs i:=by
 cases r with
 | add x o=>have:=h.1;have:=h.2.1;rw[ub2 (by omega),if_neg (by omega)]
 | take x o=>have:=h.1;have:=h.2.1;rw[ub8 (by omega),if_neg (by omega)]
 | turn x j cs=>have:=h.1;have:=h.2.1;rw[u69 (by omega),if_neg (by omega)]
 | _=>exact h.elim
structure Wv(fr fr':Nat)(new:List Row)(F:List Int->List Int->Prop):Prop where
 le:fr<=fr'
 tg:∀r∈new,tg fr fr' r
 ef:∀sz bs,BsOk sz bs->fr'<=sz->(∀i,fr<=i->gt bs i=0)->F bs (rnp new bs)
theorem uw0{fr fr' sz:Nat}:∀{new:List Row} {bs:List Int},(∀r∈new,Rw.tg fr fr' r)->BsOk sz bs->fr'<=sz->BsOk sz (rnp new bs)/\∀i,i<fr\/fr'<=i->gt (rnp new bs) i=gt bs i
 | [],bs,_,hb,_=>⟨hb,λ_ _=>rfl⟩
 | r::new,bs,h,hb,hz=>by
  have h1:=h r D7;have ok1:=v50 (s:=1) hb (vu8 h1 hz);obtain⟨i1,i2⟩:=uw0 (new:=new) (bs:=stp 1 bs r) (λx hx=>h x (C6 _ hx)) ok1 hz;exact⟨i1,λi hi=>by rw[u32,i2 i hi,vu9 h1 (by rw[hb.len];exact hz) hi]⟩
theorem Wv.keep{fr fr' sz:Nat}{new:List Row}{F:List Int->List Int->Prop}{bs:List Int}(h:Wv fr fr' new F)(hb:BsOk sz bs)(hz:fr'<=sz):BsOk sz (rnp new bs)/\∀i,i<fr\/fr'<=i->gt (rnp new bs) i=gt bs i:=uw0 h.tg hb hz
theorem Wv.nil{fr:Nat}{F:List Int->List Int->Prop}(h:∀bs,F bs bs):Wv fr fr [] F:=⟨B9 _,λr hr=>(by cases hr),λ_ bs _ _ _=>h bs⟩
theorem Wv.imp{fr fr':Nat}{new:List Row}{F F':List Int->List Int->Prop}(h:Wv fr fr' new F)(k:∀bs bs',F bs bs'->F' bs bs'):Wv fr fr' new F':=⟨h.le,h.tg,λsz bs a b c=>k _ _ (h.ef sz bs a b c)⟩
theorem Wv.seq{fr fr1 fr2:Nat}{n1 n2:List Row}{F1 F2:List Int->List Int->Prop}(h1:Wv fr fr1 n1 F1)(h2:Wv fr1 fr2 n2 F2) :
  Wv fr fr2 (n1++n2) (λbs bs'=>∃b1,F1 bs b1/\F2 b1 bs'/\(∀i,i<fr->gt b1 i=gt bs i)/\∀i,i<fr1->gt bs' i=gt b1 i):=by
 refine⟨D4 h1.le h2.le,λr hr=>?_,λsz bs hb hz h0=>?_⟩
 ·rcases K2.mp hr with hr|hr
  ·exact ub5 (h1.tg r hr) (B9 _) h2.le
  ·exact ub5 (h2.tg r hr) h1.le (B9 _)
 ·have hz1:fr1<=sz:=D4 h2.le hz
  obtain⟨k1,k2⟩:=h1.keep hb hz1;obtain⟨m1,m2⟩:=h2.keep k1 hz;rw[ub7];exact⟨rnp n1 bs,h1.ef sz bs hb hz1 h0,h2.ef sz _ k1 hz λi hi=>by rw[k2 i (.inr hi)];exact h0 i (D4 h1.le hi),λi hi=>k2 i (.inl hi),λi hi=>m2 i (.inl hi)⟩
def okW(W x y fr:Nat):Prop:=1<=W/\W<=16/\x<fr/\y<fr
def Sg2(W x y b:Nat)(o:Str):List Int->List Int->Prop:=λbs bs'=>∀a c:Nat,gt bs x=(a:Int)->gt bs y=(c:Int)->a<2^W->c<2^W->gt bs' b=((rkB W o a c:Nat):Int)
theorem p16{W:Nat}(h:W<=16):2^W<=65536:=B01 (by decide) h
theorem u67{r:Row}{bs:List Int}:(stp 1 bs r).length=bs.length:=by
 cases r with
 | add=>exact J0
 | take=>exact J0
 | turn x i cs=>show(if con bs cs=true then bs.set x _ else bs).length=_;split;exact J0;rfl
 | swap=>show((bs.set _ _).set _ _).length=_;rw[J0,J0]
 | go=>rfl
 | come=>rfl
theorem flp0(i:Nat):flp 0 i=2^i:=by
 have:bit 0 i=0:=by unfold bit;rw[Int.zero_ediv];rfl
 show(0:Int)+2^i*(1-2*bit 0 i)=_
 rw[this];omega
theorem uv2(a k:Nat):bit (a:Int) k=((a / 2^k%2:Nat):Int):=by
 unfold bit;rw[Z8,Int.natCast_ediv,Y5];rfl
theorem bit31{a c:Nat}(ha:a<65536)(hc:c<65536):bit (((a:Int)-(c:Int))%4294967296) 31=if a<c then 1 else 0:=by
 unfold bit;rw[show(2:Int)^31=2147483648 from rfl];split <;> omega
theorem con1{bs:List Int}{x i:Nat}:con bs [(x,i)]=!decide (bit (gt bs x) i=0):=by
 show([(x,i)].all λc=>!decide (bit (gt bs c.1) c.2=0))=_
 simp
theorem o1{x fr:Nat}(k:Nat)(h:x<fr):x<fr+k:=Nat.lt_add_right k h
theorem o2{x fr:Nat}(k:Nat)(h:x<fr):x≠fr+k:=E6 (o1 k h)
theorem o3{a:Nat}(h:a<65536):((0:Int)+a)%4294967296=a:=by omega
theorem o4{a c:Nat}(h:a<65536)(h':c<65536):((a:Int)+c)%4294967296=((a+c:Nat):Int):=by omega
theorem o5{v k:Nat}(h:v<4294967296)(h':k<=v):((v:Int)-k)%4294967296=((v-k:Nat):Int):=by omega
theorem o6{a c P:Nat}(ha:a<P)(hc:c<P):(a+c) / P=if P<=a+c then 1 else 0:=by
 split
 ·exact Nat.div_eq_of_lt_le (by omega) (by omega)
 ·exact B51 (by omega)
theorem o7{a c P:Nat}(ha:a<P)(hc:c<P)(hp:P<=65536):(((a+c:Nat):Int)-(if P<=a+c then(P:Int) else 0))%4294967296=(((a+c)%P:Nat):Int):=by
 by_cases q:P<=a+c
 ·rw[if_pos q,B25 q,X4 (by omega)];omega
 ·rw[if_neg q,X4 (by omega)];omega
theorem o8{a c P:Nat}(ha:a<P)(hc:c<P)(hp:P<=65536):(((a:Int)-c)%4294967296+(if a<c then(P:Int) else 0))%4294967296=(((a+(P-c))%P:Nat):Int):=by
 by_cases q:a<c
 ·rw[if_pos q,X4 (by omega)];omega
 ·rw[if_neg q,B25 (by omega),X4 (by omega)];omega
theorem tga{fr m j z:Nat}(hj:j<m)(hz:z<fr+m)(hn:z≠fr+j):tg fr (fr+m) (.add (fr+j) (.box z)):=⟨K0 _ _,A21 hj _,hz,hn⟩
theorem tgu{fr m j z i k:Nat}(hj:j<m)(hi:i<32)(hz:z<fr+j)(hk:k<32):tg fr (fr+m) (.turn (fr+j) i [(z,k)]):=⟨K0 _ _,A21 hj _,hi,by simp,λc hc=>by rw[D9.mp hc];exact⟨C13 hz (A21 hj _),E6 hz,hk⟩⟩
theorem vf4{fr x y:Nat}(hx:x<fr)(hy:y<fr):Wv fr (fr+1) [.add fr (.box x),.take fr (.box y)] (λbs bs'=>gt bs' fr=(gt bs x-gt bs y)%4294967296):=by
 refine⟨M0 _,λr hr=>?_,λsz bs hb hz h0=>?_⟩
 ·rcases D1.mp hr with e|hr
  ·rw[e];exact tga (j:=0) (by decide) (o1 1 hx) (o2 0 hx)
  ·rw[D9.mp hr];exact tga (j:=0) (by decide) (o1 1 hy) (o2 0 hy)
 ·have hl:=hb.len
  rw[u32,u32,u68,ub8 (by rw[u67];omega),if_pos rfl]
  show(gt (stp 1 bs (.add fr (.box x))) fr-gt (stp 1 bs (.add fr (.box x))) y)%4294967296=_
  rw[ub2 (by omega),if_pos rfl,ub2 (by omega),if_neg (by omega),h0 fr (B9 _)]
  show((0+gt bs x)%4294967296-gt bs y)%4294967296=_
  omega
theorem wb7{W x y fr:Nat}(h:okW W x y fr):Wv fr (fr+2) [.add fr (.box x),.add fr (.box y),.turn (fr+1) W [(fr,W)],.take fr (.box (fr+1))] (Sg2 W x y fr "+"):=by
 obtain⟨hW,hW2,hx,hy⟩:=h;have w32:W<32:=C4 hW2 (by decide);have l1:=F5 fr;refine⟨K0 _ _,λr hr=>?_,λsz bs hb hz h0 a c ea ec ha hc=>?_⟩
 ·rcases D1.mp hr with e|hr
  ·rw[e];exact tga (j:=0) (by decide) (o1 2 hx) (o2 0 hx)
  rcases D1.mp hr with e|hr
  ·rw[e];exact tga (j:=0) (by decide) (o1 2 hy) (o2 0 hy)
  rcases D1.mp hr with e|hr
  ·rw[e];exact tgu (j:=1) (by decide) w32 l1 w32
  ·rw[D9.mp hr];exact tga (j:=0) (by decide) (F5 _) (T6 l1)
 ·have hl:fr+1<bs.length:=by rw[hb.len];exact hz
  have h1:=B41 hl;have hp:=p16 hW2;obtain⟨P,hP⟩:∃P,P=2^W:=⟨_,rfl⟩;rw[<- hP] at ha hc hp;have ha':=B8 ha hp;have hc':=B8 hc hp;have er:rkB W "+" a c=(a+c)%P:=by unfold rkB;rw[if_pos rfl,hP]
  rw[er,u32,u32,u32,u32,u68];obtain⟨b1,hb1⟩:∃b1,b1=stp 1 bs (.add fr (.box x)):=⟨_,rfl⟩;have l1:b1.length=bs.length:=by rw[hb1,u67]
  have g1:∀i,gt b1 i=if i=fr then(a:Int) else gt bs i:=λi=>by
   rw[hb1,ub2 h1,h0 fr (B9 _)]
   show(if i=fr then(0+gt bs x)%4294967296 else _)=_
   rw[ea,o3 ha']
  rw[<- hb1];obtain⟨b2,hb2⟩:∃b2,b2=stp 1 b1 (.add fr (.box y)):=⟨_,rfl⟩;have l2:b2.length=bs.length:=by rw[hb2,u67,l1]
  have g2:∀i,gt b2 i=if i=fr then((a+c:Nat):Int) else gt bs i:=λi=>by
   rw[hb2,ub2 (by rw[l1];exact h1)]
   show(if i=fr then(gt b1 fr+gt b1 y)%4294967296 else _)=_
   rw[g1 fr,g1 y,g1 i,if_pos rfl,if_neg (E6 hy),ec,o4 ha' hc'];split <;> rfl
  rw[<- hb2];obtain⟨b3,hb3⟩:∃b3,b3=stp 1 b2 (.turn (fr+1) W [(fr,W)]):=⟨_,rfl⟩;have l3:b3.length=bs.length:=by rw[hb3,u67,l2]
  rw[<- l2] at hl;have hcon:con b2 [(fr,W)]=decide (P<=a+c):=by
   rw[con1,g2,if_pos rfl,uv2,<- hP,o6 ha hc]
   by_cases q:P<=a+c
   ·rw[if_pos q,decide_eq_true q];rfl
   ·rw[if_neg q,decide_eq_false q];rfl
  have n1:fr≠fr+1:=E6 (F5 _);have g3':gt b3 (fr+1)=if P<=a+c then(P:Int) else 0:=by
   rw[hb3,u69 hl,if_pos rfl,hcon,g2 (fr+1),if_neg n1.symm,h0 _ (M0 _),flp0]
   by_cases q:P<=a+c
   ·rw[decide_eq_true q,if_pos rfl,if_pos q,hP,Y5];rfl
   ·rw[decide_eq_false q,if_neg (by decide),if_neg q]
  rw[<- hb3,ub8 (by rw[l3];exact h1),if_pos rfl]
  show(gt b3 fr-gt b3 (fr+1))%4294967296=_
  rw[g3',hb3,u69 hl,if_neg n1,g2,if_pos rfl,o7 ha hc hp]
theorem vu6{W x y fr:Nat}(h:okW W x y fr):Wv fr (fr+2) ([.add fr (.box x),.take fr (.box y)]++[.turn (fr+1) W [(fr,31)],.add fr (.box (fr+1))]) (Sg2 W x y fr "-"):=by
 obtain⟨hW,hW2,hx,hy⟩:=h;have hg:=vf4 hx hy;have l1:=F5 fr;have l2:=M0 (fr+1);refine⟨K0 _ _,λr hr=>?_,λsz bs hb hz h0 a c ea ec ha hc=>?_⟩
 ·rcases K2.mp hr with hr|hr
  ·exact ub5 (hg.tg r hr) (B9 _) l2
  rcases D1.mp hr with e|hr
  ·rw[e];exact tgu (j:=1) (by decide) (C4 hW2 (by decide)) l1 (by decide)
  ·rw[D9.mp hr];exact tga (j:=0) (by decide) (F5 _) (T6 l1)
 ·have hp:=p16 hW2
  have z1:=D4 l2 hz;obtain⟨k1,k2⟩:=hg.keep hb z1;have e1:=hg.ef sz bs hb z1 h0;rw[ub7];obtain⟨b2,hb2⟩:∃b2,b2=rnp [.add fr (.box x),.take fr (.box y)] bs:=⟨_,rfl⟩;rw[<- hb2] at k1 k2 e1⊢;rw[ea,ec] at e1;have hl:fr+1<b2.length:=by rw[k1.len];exact hz
  have h1:=B41 hl;obtain⟨P,hP⟩:∃P,P=2^W:=⟨_,rfl⟩;rw[<- hP] at ha hc hp;have er:rkB W "-" a c=(a+(P-c))%P:=by unfold rkB;rw[if_neg (by decide),if_pos rfl,hP]
  rw[er,u32,u32,u68,ub2 (by rw[u67];exact h1),if_pos rfl]
  show(gt (stp 1 b2 (.turn (fr+1) W [(fr,31)])) fr+gt (stp 1 b2 (.turn (fr+1) W [(fr,31)])) (fr+1))%4294967296=_
  rw[u69 hl,if_neg (E6 l1),u69 hl,if_pos rfl,con1,e1,bit31 (B8 ha hp) (B8 hc hp),k2 (fr+1) (.inr (B9 _)),h0 _ (M0 _),flp0];have eP:((2:Int)^W)=(P:Int):=by rw[hP,Y5];rfl
  rw[eP,<- o8 ha hc hp]
  by_cases q:a<c
  ·rw[if_pos q,if_pos (by decide),if_pos q]
  ·rw[if_neg q,if_neg (by decide),if_neg q]
theorem wb8{W x y fr:Nat}(h:okW W x y fr):Wv fr (fr+2) ([.add fr (.box x),.take fr (.box y)]++[.turn (fr+1) 0 [(fr,31)]]) (Sg2 W x y (fr+1) "<"):=by
 obtain⟨hW,hW2,hx,hy⟩:=h;have hg:=vf4 hx hy;have l1:=F5 fr;have l2:=M0 (fr+1);refine⟨K0 _ _,λr hr=>?_,λsz bs hb hz h0 a c ea ec ha hc=>?_⟩
 ·rcases K2.mp hr with hr|hr
  ·exact ub5 (hg.tg r hr) (B9 _) l2
  rw[D9.mp hr];exact tgu (j:=1) (by decide) (by decide) l1 (by decide)
 ·have hp:=p16 hW2
  have z1:=D4 l2 hz;obtain⟨k1,k2⟩:=hg.keep hb z1;have e1:=hg.ef sz bs hb z1 h0;rw[ub7];obtain⟨b2,hb2⟩:∃b2,b2=rnp [.add fr (.box x),.take fr (.box y)] bs:=⟨_,rfl⟩;rw[<- hb2] at k1 k2 e1⊢;rw[ea,ec] at e1;have er:rkB W "<" a c=if a<c then 1 else 0:=by unfold rkB;rw[if_neg (by decide),if_neg (by decide),if_neg (by decide),if_neg (by decide),if_neg (by decide),if_pos rfl]
  rw[er,u32,u68,u69 (by rw[k1.len];exact hz),if_pos rfl,con1,e1,bit31 (B8 ha hp) (B8 hc hp),k2 (fr+1) (.inr (B9 _)),h0 _ (M0 _),flp0]
  by_cases q:a<c
  ·rw[if_pos q,if_pos (by decide),if_pos q];rfl
  ·rw[if_neg q,if_neg (by decide),if_neg q];rfl
theorem wb5{W x y fr:Nat}(h:okW W x y fr):Wv fr (fr+3) (([.add fr (.box x),.take fr (.box y)]++[.add (fr+1) (.box y),.take (fr+1) (.box x)])++[.turn (fr+2) 0 [],.turn (fr+2) 0 [(fr,31)],.turn (fr+2) 0 [(fr+1,31)]]) (Sg2 W x y (fr+2) "="):=by
 obtain⟨hW,hW2,hx,hy⟩:=h;have hg:=(vf4 hx hy).seq (vf4 (fr:=fr+1) (o1 1 hy) (o1 1 hx));have l2:=M0 (fr+2);refine⟨K0 _ _,λr hr=>?_,λsz bs hb hz h0 a c ea ec ha hc=>?_⟩
 ·rcases K2.mp hr with hr|hr
  ·exact ub5 (hg.tg r hr) (B9 _) l2
  rcases D1.mp hr with e|hr
  ·rw[e];exact⟨K0 _ _,F5 _,by decide,by simp,λc hc=>by cases hc⟩
  rcases D1.mp hr with e|hr
  ·rw[e];exact tgu (j:=2) (by decide) (by decide) (o1 1 (F5 _)) (by decide)
  ·rw[D9.mp hr];exact tgu (j:=2) (by decide) (by decide) (F5 _) (by decide)
 ·have hp:=p16 hW2
  have ha':=B8 ha hp;have hc':=B8 hc hp;have z1:=D4 l2 hz;obtain⟨k1,k2⟩:=hg.keep hb z1;obtain⟨b1,e1,e2,f1,f2⟩:=hg.ef sz bs hb z1 h0;rw[ub7];obtain⟨b2,hb2⟩:∃b2,b2=rnp ([.add fr (.box x),.take fr (.box y)]++[.add (fr+1) (.box y),.take (fr+1) (.box x)]) bs:=⟨_,rfl⟩;rw[<- hb2] at k1 k2 e2 f2⊢;rw[ea,ec] at e1;rw[f1 y hy,f1 x hx,ea,ec] at e2;have e1':gt b2 fr=((a:Int)-(c:Int))%4294967296:=by rw[f2 fr (F5 _)];exact e1
  have l2:fr+2<b2.length:=by rw[k1.len];exact hz
  have er:rkB W "=" a c=if a=c then 1 else 0:=by unfold rkB;rw[if_neg (by decide),if_neg (by decide),if_neg (by decide),if_neg (by decide),if_neg (by decide),if_neg (by decide)]
  have z2:gt b2 (fr+2)=0:=by rw[k2 (fr+2) (.inr (B9 _))];exact h0 _ (K0 _ _)
  rw[er,u32,u32,u32,u68];obtain⟨b3,hb3⟩:∃b3,b3=stp 1 b2 (.turn (fr+2) 0 []):=⟨_,rfl⟩;have l3:fr+2<b3.length:=by rw[hb3,u67];exact l2
  have g3:∀i,gt b3 i=if i=fr+2 then 1 else gt b2 i:=λi=>by rw[hb3,u69 l2,if_pos (show con b2 []=true from rfl),z2,flp0];rfl
  rw[<- hb3];obtain⟨b4,hb4⟩:∃b4,b4=stp 1 b3 (.turn (fr+2) 0 [(fr,31)]):=⟨_,rfl⟩;have l4:fr+2<b4.length:=by rw[hb4,u67];exact l3
  have f10:flp 1 0=0:=by decide
  have f00:flp 0 0=1:=by decide
  have g4:∀i,gt b4 i=if i=fr+2 then(if a<c then 0 else 1) else gt b2 i:=λi=>by
   rw[hb4,u69 l3,con1,g3 (fr+2),g3 fr,g3 i,if_pos rfl,if_neg (o2 1 (F5 fr)),e1',bit31 ha' hc',f10]
   by_cases hi:i=fr+2
   ·rw[if_pos hi,if_pos hi]
    by_cases q:a<c
    ·rw[if_pos q,if_pos q];rfl
    ·rw[if_neg q,if_neg q];rfl
   ·rw[if_neg hi,if_neg hi,if_neg hi]
  rw[<- hb4,u69 l4,if_pos rfl,con1,g4 (fr+2),g4 (fr+1),if_pos rfl,if_neg (E6 (F5 _)),e2,bit31 hc' ha']
  by_cases q:a<c
  ·rw[if_pos q,if_neg (Nat.lt_asymm q),if_neg (by decide),if_neg (E6 q)];rfl
  ·by_cases q2:c<a
   ·rw[if_pos q2,if_pos (by decide),if_neg q,f10,if_neg (T6 q2)];rfl
   ·rw[if_neg q2,if_neg (by decide),if_neg q,if_pos (Nat.le_antisymm (B73.mp q2) (B73.mp q))];rfl
def andR(fr x y:Nat)(k:Nat):List Row:=(J6 k).map λi=>.turn fr i [(x,i),(y,i)]
theorem vp0(a k:Nat):(!decide (bit (a:Int) k=0))=a.testBit k:=by
 rw[uv2,Z3]
 rcases A36 (a / 2^k) with h|h <;> rw[h] <;> rfl
theorem vj0(x k:Nat):x%2^(k+1)=x%2^k+2^k*(if x.testBit k=true then 1 else 0):=by
 rw[A73,Nat.mod_mul,Z3]
 rcases A36 (x / 2^k) with h|h <;> rw[h] <;> rfl
theorem con2{bs:List Int}{x y i:Nat}:con bs [(x,i),(y,i)]=((!decide (bit (gt bs x) i=0)) && !decide (bit (gt bs y) i=0)):=by
 show([(x,i),(y,i)].all λc=>!decide (bit (gt bs c.1) c.2=0))=_
 simp
theorem w62{v k:Nat}(h:v<2^k):flp (v:Int) k=((v+2^k:Nat):Int):=by
 have:bit (v:Int) k=0:=by rw[uv2,B51 h];rfl
 show(v:Int)+2^k*(1-2*bit (v:Int) k)=_
 rw[this,A91,Y5]
 show(v:Int)+2^k*1=_
 rw[A96];rfl
theorem vd6{fr x y sz:Nat}(hx:x<fr)(hy:y<fr){bs:List Int}(hb:BsOk sz bs)(hz:fr+1<=sz)(h0:gt bs fr=0){a c:Nat}(ea:gt bs x=(a:Int))(ec:gt bs y=(c:Int)):∀k,k<=32->gt (rnp (andR fr x y k) bs) fr=(((a &&& c)%2^k:Nat):Int)/\(rnp (andR fr x y k) bs).length=bs.length/\∀i,i≠fr->gt (rnp (andR fr x y k) bs) i=gt bs i
 | 0,_=>⟨by rw[show andR fr x y 0=[] from rfl,u68,h0,Nat.pow_zero,Nat.mod_one];rfl,rfl,λ_ _=>rfl⟩
 | k+1,hk=>by
  obtain⟨i1,i2,i3⟩:=vd6 hx hy hb hz h0 ea ec k (by omega);have e:andR fr x y (k+1)=andR fr x y k++[.turn fr k [(x,k),(y,k)]]:=by
   unfold andR;rw[A08,D2];rfl
  rw[e,ub7,u32,u68];have hl:=hb.len;refine⟨?_,by rw[u67,i2],λi hi=>by rw[u69 (by omega),if_neg hi];exact i3 i hi⟩;rw[u69 (by omega),if_pos rfl,con2,i3 x (by omega),i3 y (by omega),ea,ec,vp0,vp0,i1,<- A89,vj0];cases hb2:(a &&& c).testBit k with
  | true=>rw[if_pos rfl,if_pos rfl,w62 (A75 _ (Y4 k)),Nat.mul_one]
  | false=>rw[if_neg (by decide),if_neg (by decide),Nat.mul_zero,A76]
theorem w_and{W x y fr:Nat}(h:okW W x y fr):Wv fr (fr+1) (andR fr x y W) (Sg2 W x y fr "&"):=by
 obtain⟨hW,hW2,hx,hy⟩:=h;refine⟨by omega,λr hr=>?_,λsz bs hb hz h0 a c ea ec ha hc=>?_⟩
 ·obtain⟨i,hi,rfl⟩:=P1.mp hr
  have hi:=O9.mp hi;refine⟨by omega,by omega,by omega,by simp,λc hc=>?_⟩
  rcases D1.mp hc with e|hc
  ·rw[e];exact⟨by show x<_;omega,by show x≠_;omega,by show i<32;omega⟩
  ·rw[D9.mp hc];exact⟨by show y<_;omega,by show y≠_;omega,by show i<32;omega⟩
 ·rw[(vd6 hx hy hb hz (h0 fr (B9 _)) ea ec W (by omega)).1]
  have er:rkB W "&" a c=a &&& c:=by unfold rkB;rw[if_neg (by decide),if_neg (by decide),if_pos rfl]
  rw[er,X4 (B24 _ hc)]
theorem w_sum{W x y fr:Nat}(h:okW W x y fr)(n:Nat)(hn:n<=2):Wv fr (fr+2) (andR fr x y W++([.add (fr+1) (.box x),.add (fr+1) (.box y)]++C2 n (.take (fr+1) (.box fr)))) (λbs bs'=>∀a c:Nat,gt bs x=(a:Int)->gt bs y=(c:Int)->a<2^W->c<2^W->gt bs' (fr+1)=(((a+c-n*(a &&& c):Nat)):Int)):=by
 have ha:=w_and h;obtain⟨hW,hW2,hx,hy⟩:=h;have l1:fr+1<fr+2:=F5 _;have l0:fr<=fr+1:=M0 _;refine⟨K0 _ _,λr hr=>?_,λsz bs hb hz h0 a c ea ec hA hC=>?_⟩
 ·rcases K2.mp hr with hr|hr
  ·exact ub5 (ha.tg r hr) (B9 _) (L5 l1)
  rcases K2.mp hr with hr|hr
  ·rcases D1.mp hr with e|hr
   ·rw[e];exact⟨l0,l1,o1 2 hx,o2 1 hx⟩
   ·rw[D9.mp hr];exact⟨l0,l1,o1 2 hy,o2 1 hy⟩
  ·rw[(A37.mp hr).2];exact⟨l0,l1,o1 1 (F5 _),E6 (F5 _)⟩
 ·have hp:=p16 hW2
  have hA':=B8 hA hp;have hC':=B8 hC hp;have z1:=D4 (L5 l1) hz;obtain⟨k1,k2⟩:=ha.keep hb z1;have e1:=ha.ef sz bs hb z1 h0 a c ea ec hA hC;have er:rkB W "&" a c=a &&& c:=by unfold rkB;rw[if_neg (by decide),if_neg (by decide),if_pos rfl]
  rw[er] at e1;have hle:2*(a &&& c)<=a+c:=by rw[C32];exact B74 A92 B52
  rw[ub7,ub7];obtain⟨b2,hb2⟩:∃b2,b2=rnp (andR fr x y W) bs:=⟨_,rfl⟩;rw[<- hb2] at k1 k2 e1⊢;have l2:fr+1<b2.length:=by rw[k1.len];exact hz
  rw[u32,u32,u68];obtain⟨b3,hb3⟩:∃b3,b3=stp 1 b2 (.add (fr+1) (.box x)):=⟨_,rfl⟩;have l3:fr+1<b3.length:=by rw[hb3,u67];exact l2
  have g3:∀i,gt b3 i=if i=fr+1 then(a:Int) else gt b2 i:=λi=>by
   rw[hb3,ub2 l2,k2 (fr+1) (.inr (B9 _)),h0 _ l0]
   show(if i=fr+1 then(0+gt b2 x)%4294967296 else _)=_
   rw[k2 x (.inl hx),ea,o3 hA']
  rw[<- hb3];obtain⟨b4,hb4⟩:∃b4,b4=stp 1 b3 (.add (fr+1) (.box y)):=⟨_,rfl⟩;have l4:fr+1<b4.length:=by rw[hb4,u67];exact l3
  have g4:∀i,gt b4 i=if i=fr+1 then((a+c:Nat):Int) else gt b2 i:=λi=>by
   rw[hb4,ub2 l3]
   show(if i=fr+1 then(gt b3 (fr+1)+gt b3 y)%4294967296 else _)=_
   rw[g3 (fr+1),g3 y,g3 i,if_pos rfl,if_neg (o2 1 hy),k2 y (.inl hy),ec,o4 hA' hC'];split <;> rfl
  rw[<- hb4];have loop:∀(m:Nat) (b:List Int) (v:Nat),fr+1<b.length->gt b fr=((a &&& c:Nat):Int)->gt b (fr+1)=(v:Int)->v<4294967296->m*(a &&& c)<=v->gt (rnp (C2 m (.take (fr+1) (.box fr))) b) (fr+1)=((v-m*(a &&& c):Nat):Int):=by
   intro m
   induction m with
   | zero=>intro b v _ _ hv _ _;rw[List.replicate_zero,u68,hv,Nat.zero_mul,A29]
   | succ m ih =>
    intro b v hlb hf hv hv2 hm;rw[M4,u32];rw[B37] at hm;rw[ih (stp 1 b (.take (fr+1) (.box fr))) (v-(a &&& c)) (by rw[u67];exact hlb) (by rw[ub8 hlb,if_neg (E6 (F5 _))];exact hf) ?_ (C4 (Nat.sub_le _ _) hv2) (Nat.le_sub_of_add_le hm),B37]
    ·rw[Nat.sub_sub,Q0]
    ·rw[ub8 hlb,if_pos rfl,hv]
     show((v:Int)-gt b fr)%4294967296=_
     rw[hf,o5 hv2 (D4 (Nat.le_add_left _ _) hm)]
  exact loop n b4 (a+c) l4 (by rw[g4,if_neg (E6 (F5 _))];exact e1) (by rw[g4,if_pos rfl]) (B8 (Nat.add_lt_add hA' hC') (by decide)) (D4 (Nat.mul_le_mul_right _ hn) hle)
theorem w_or{W x y fr:Nat}(h:okW W x y fr):Wv fr (fr+2) (andR fr x y W++([.add (fr+1) (.box x),.add (fr+1) (.box y)]++C2 1 (.take (fr+1) (.box fr)))) (Sg2 W x y (fr+1) "|"):=by
 refine(w_sum h 1 (by decide)).imp λbs bs' k a c ea ec ha hc=>?_
 rw[k a c ea ec ha hc];have er:rkB W "|" a c=a ||| c:=by unfold rkB;rw[if_neg (by decide),if_neg (by decide),if_neg (by decide),if_pos rfl]
 have e1:=bitOr_and (a:Int) (c:Int);rw[ux0,ui3] at e1;rw[er,e1,Nat.one_mul,C07 (D4 A92 (K0 a c)),A91]
theorem wz5{W x y fr:Nat}(h:okW W x y fr):Wv fr (fr+2) (andR fr x y W++([.add (fr+1) (.box x),.add (fr+1) (.box y)]++C2 2 (.take (fr+1) (.box fr)))) (Sg2 W x y (fr+1) "^"):=by
 refine(w_sum h 2 (by decide)).imp λbs bs' k a c ea ec ha hc=>?_
 rw[k a c ea ec ha hc];have er:rkB W "^" a c=a ^^^ c:=by unfold rkB;rw[if_neg (by decide),if_neg (by decide),if_neg (by decide),if_neg (by decide),if_pos rfl]
 have e1:=bitXor_and (a:Int) (c:Int);rw[v35 ha hc,ui3] at e1;rw[er,e1,C07 (by rw[C32];exact B74 A92 B52),A91,Int.natCast_mul];rfl
def lfl(rp:Addr)(W fr st:Nat):List (Str×D):=[("wide",.int (W:Int)),("fresh",.int (fr:Int)),("rows",.ref rp),("steps",.int (st:Int))]
theorem lsn:(("fresh" :Str) == "wide")=false/\(("rows" :Str) == "wide")=false/\(("rows" :Str) == "fresh")=false/\(("steps" :Str) == "wide")=false/\(("steps" :Str) == "fresh")=false/\(("steps" :Str) == "rows")=false /\
  (("fresh_box" :Str) == "wide")=false/\(("fresh_box" :Str) == "fresh")=false/\(("fresh_box" :Str) == "rows")=false/\(("fresh_box" :Str) == "steps")=false/\(("put" :Str) == "wide")=false/\(("put" :Str) == "fresh")=false/\(("put" :Str) == "rows")=false/\(("put" :Str) == "steps")=false /\
  (("wide" :Str) = "fresh")=False/\(("wide" :Str) = "rows")=False/\(("wide" :Str) = "steps")=False/\(("fresh" :Str) = "rows")=False/\(("fresh" :Str) = "steps")=False/\(("rows" :Str) = "steps")=False/\(("fresh" :Str) = "wide")=False/\(("rows" :Str) = "wide")=False/\(("rows" :Str) = "fresh")=False/\(("steps" :Str) = "wide")=False/\(("steps" :Str) = "fresh")=False/\(("steps" :Str) = "rows")=False /\
  (("put_unless" :Str) == "wide")=false/\(("put_unless" :Str) == "fresh")=false/\(("put_unless" :Str) == "rows")=false/\(("put_unless" :Str) == "steps")=false/\(("put_by_choice" :Str) == "wide")=false/\(("put_by_choice" :Str) == "fresh")=false/\(("put_by_choice" :Str) == "rows")=false/\(("put_by_choice" :Str) == "steps")=false:=by
 refine⟨?_,?_,?_,?_,?_,?_,?_,?_,?_,?_,?_,?_,?_,?_,?_,?_,?_,?_,?_,?_,?_,?_,?_,?_,?_,?_,?_,?_,?_,?_,?_,?_,?_,?_⟩ <;> first|decide|exact eq_false (by decide)
theorem lm_all{rp:Addr}{W fr st:Nat}:I0 ("wide" :Str) (lfl rp W fr st)=some (.int (W:Int))/\I0 ("fresh" :Str) (lfl rp W fr st)=some (.int (fr:Int))/\I0 ("rows" :Str) (lfl rp W fr st)=some (.ref rp)/\I0 ("steps" :Str) (lfl rp W fr st)=some (.int (st:Int)) /\
  I0 ("fresh_box" :Str) (lfl rp W fr st)=none/\I0 ("put" :Str) (lfl rp W fr st)=none/\I0 ("put_unless" :Str) (lfl rp W fr st)=none/\I0 ("put_by_choice" :Str) (lfl rp W fr st)=none/\(∀v:Nat,putD ("fresh" :Str) (.int (v:Int)) (lfl rp W fr st)=lfl rp W v st)/\(∀v:Nat,putD ("steps" :Str) (.int (v:Int)) (lfl rp W fr st)=lfl rp W fr v):=by
 refine⟨?_,?_,?_,?_,?_,?_,?_,?_,λv=>?_,λv=>?_⟩ <;> simp only[lfl,lsn,beq_self_eq_true,E7,M9,putD,if_false,if_true]
theorem v97{rp:Addr}{W fr st:Nat}:(lfl rp W fr st).length<1000:=show 4<1000 by decide
structure LoomAt(C:Addr)(G:Gp)(p rp:Addr)(W fr:Nat)(rows:List Row)(st:Nat):Prop where
 ob:G p=some (.ins C (lfl rp W fr st))
 ro:G rp=some (.lst (rows.map Row.d))
theorem LoomAt.pr{C:Addr}{G:Gp}{p rp:Addr}{W fr st:Nat}{rows:List Row}(h:LoomAt C G p rp W fr rows st):p≠rp:=λe=>by have:=h.ro;rw[<- e,h.ob] at this;cases this
def LAdv(p rp:Addr)(G G':Gp):Prop:=∀b o,b≠p->b≠rp->G b=some o->G' b=some o
theorem LAdv.refl{p rp:Addr}{G:Gp}:LAdv p rp G G:=λ_ _ _ _ h=>h
theorem LAdv.trans{p rp:Addr}{G G1 G2:Gp}(h:LAdv p rp G G1)(k:LAdv p rp G1 G2):LAdv p rp G G2:=λb o h1 h2 e=>k b o h1 h2 (h b o h1 h2 e)
theorem LAdv.new{p rp q:Addr}{G G1:Gp}{o:DO}(h:LAdv p rp G G1)(hq:G1 q=none):LAdv p rp G (gup G1 q o):=λb o h1 h2 e=>by have:=h b o h1 h2 e;rw[u06 (gne this hq)];exact this
theorem LoomAt.new{C:Addr}{G:Gp}{p rp q:Addr}{W fr st:Nat}{rows:List Row}{o:DO}(h:LoomAt C G p rp W fr rows st)(hq:G q=none):LoomAt C (gup G q o) p rp W fr rows st:=⟨by rw[u06 (gne h.ob hq)];exact h.ob,by rw[u06 (gne h.ro hq)];exact h.ro⟩
def sgR(W x y fr:Nat)(o:Str):List Row :=
 if o = "+" then[.add fr (.box x),.add fr (.box y),.turn (fr+1) W [(fr,W)],.take fr (.box (fr+1))]
 else if o = "-" then[.add fr (.box x),.take fr (.box y)]++[.turn (fr+1) W [(fr,31)],.add fr (.box (fr+1))]
 else if o = "&" then andR fr x y W
 else if o = "|" then andR fr x y W++([.add (fr+1) (.box x),.add (fr+1) (.box y)]++C2 1 (.take (fr+1) (.box fr)))
 else if o = "^" then andR fr x y W++([.add (fr+1) (.box x),.add (fr+1) (.box y)]++C2 2 (.take (fr+1) (.box fr)))
 else if o = "<" then[.add fr (.box x),.take fr (.box y)]++[.turn (fr+1) 0 [(fr,31)]]
 else([.add fr (.box x),.take fr (.box y)]++[.add (fr+1) (.box y),.take (fr+1) (.box x)])++[.turn (fr+2) 0 [],.turn (fr+2) 0 [(fr,31)],.turn (fr+2) 0 [(fr+1,31)]]
def sgB(fr:Nat)(o:Str):Nat:=if o = "+" then fr else if o = "-" then fr else if o = "&" then fr else if o = "|" then fr+1 else if o = "^" then fr+1 else if o = "<" then fr+1 else fr+2
def sgF(fr:Nat)(o:Str):Nat:=if o = "+" then fr+2 else if o = "-" then fr+2 else if o = "&" then fr+1 else if o = "|" then fr+2 else if o = "^" then fr+2 else if o = "<" then fr+2 else fr+3
theorem uf5{o:Str}(h:o∈L3.signs):o = "+" \/ o = "-" \/ o = "&" \/ o = "|" \/ o = "^" \/ o = "<" \/ o = "=" := by simpa[L3.signs] using h
theorem wb4{W x y fr:Nat}{o:Str}(h:okW W x y fr)(ho:o∈L3.signs):Wv fr (sgF fr o) (sgR W x y fr o) (Sg2 W x y (sgB fr o) o):=by
 rcases uf5 ho with rfl|rfl|rfl|rfl|rfl|rfl|rfl
 ·exact wb7 h
 ·exact vu6 h
 ·exact w_and h
 ·exact w_or h
 ·exact wz5 h
 ·exact wb8 h
 ·exact wb5 h
theorem vp5{W x y fr:Nat}{o:Str}(hW:W<=16)(ho:o∈L3.signs):(sgR W x y fr o).length<=20:=by
 have ha:(andR fr x y W).length=W:=by unfold andR;rw[B5,N5]
 rcases uf5 ho with rfl|rfl|rfl|rfl|rfl|rfl|rfl
 ·exact(by decide:4<=20)
 ·exact(by decide:4<=20)
 ·show(andR fr x y W).length<=20;omega
 ·show(andR fr x y W++_).length<=20;rw[B0,ha];show W+3<=20;omega
 ·show(andR fr x y W++_).length<=20;rw[B0,ha];show W+4<=20;omega
 ·exact(by decide:3<=20)
 ·exact(by decide:7<=20)
theorem vp6{fr:Nat}{o:Str}:fr<=sgF fr o/\sgF fr o<=fr+3/\sgB fr o<sgF fr o:=by
 unfold sgF sgB;split
 ·omega
 split
 ·omega
 split
 ·omega
 split
 ·omega
 split
 ·omega
 split <;> omega
def plR(fr:Nat):Atm->List Row
 | .num i=>[.add fr (.num (i:Int))]
 | .box _=>[]
def plF(fr:Nat):Atm->Nat
 | .num _=>fr+1
 | .box _=>fr
def plB(bs:List Str)(pl:List Nat)(fr:Nat):Atm->Nat
 | .num _=>fr
 | .box x=>gtB bs pl x
def Held(pl vs:List Nat)(b:List Int):Prop:=∀(k p v:Nat),pl[k]?=some p->vs[k]?=some v->gt b p=(v:Int)
structure Plc(bs:List Str)(pl vs:List Nat)(fr:Nat):Prop where
 l1:pl.length=bs.length
 l2:vs.length=bs.length
 lt:∀p∈pl,p<fr
theorem un3{bs:List Str}{pl:List Nat}{x:Str}(hx:x∈bs)(hl:pl.length=bs.length):pl[ixB bs x]?=some (gtB bs pl x):=by
 have:ixB bs x<pl.length:=by rw[hl];exact va1 hx
 unfold gtB;rw[B6 this];rfl
theorem uw9{W:Nat}{bs:List Str}{pl vs:List Nat}{fr:Nat}{a:Atm}(h:Plc bs pl vs fr)(ha:okA W bs a):plB bs pl fr a<plF fr a:=by
 cases a with
 | num i=>exact F5 fr
 | box x=>exact h.lt _ (J5 (un3 ha h.l1))
theorem ua1{fr:Nat}(a:Atm):fr<=plF fr a/\plF fr a<=fr+1/\(plR fr a).length<=1:=by
 cases a with
 | num i=>exact⟨M0 _,B9 _,by show 1<=1;omega⟩
 | box x=>exact⟨B9 _,M0 _,by show 0<=1;omega⟩
theorem um1{W:Nat}{bs:List Str}{pl vs:List Nat}{fr:Nat}{a:Atm}(hW:W<=16)(h:Plc bs pl vs fr)(ha:okA W bs a):Wv fr (plF fr a) (plR fr a) (λb b'=>Held pl vs b->gt b' (plB bs pl fr a)=((avB bs vs a:Nat):Int)):=by
 cases a with
 | box x=>exact Wv.nil λb hh=>hh _ _ _ (un3 ha h.l1) (un3 ha h.l2)
 | num i =>
  have hi:i<2^W:=ha;have hp:=p16 hW;refine⟨M0 _,λr hr=>?_,λsz b hb hz h0 _=>?_⟩
  ·rw[D9.mp hr];exact⟨B9 _,F5 _,by show(0:Int)<=(i:Int);omega,by show(i:Int)<4294967296;omega⟩
  ·have hl:=hb.len
   have hz:fr+1<=sz:=hz
   show gt (rnp [.add fr (.num (i:Int))] b) fr=(i:Int)
   rw[u32,u68,ub2 (by omega),if_pos rfl,h0 fr (B9 _)]
   show(0+(i:Int))%4294967296=_
   omega
def wvR(W:Nat)(bs:List Str)(pl:List Nat)(fr:Nat):Rowp->List Row×List Nat×Nat
 | .is x a=>(plR fr a,ptB bs pl x (plB bs pl fr a),plF fr a)
 | .op x o a b=>(plR fr a++plR (plF fr a) b++sgR W (plB bs pl fr a) (plB bs pl (plF fr a) b) (plF (plF fr a) b) o,ptB bs pl x (sgB (plF (plF fr a) b) o),sgF (plF (plF fr a) b) o)
 | _=>([],pl,fr)
def smp:Rowp->Bool
 | .is _ _=>true
 | .op _ _ _ _=>true
 | _=>false
theorem u45{pl vs:List Nat}{fr:Nat}{b b':List Int}(h:Held pl vs b)(hl:∀p∈pl,p<fr)(hk:∀i,i<fr->gt b' i=gt b i):Held pl vs b':=λk p v e1 e2=>by rw[hk p (hl p (J5 e1))];exact h k p v e1 e2
theorem uy4{bs:List Str}{pl vs:List Nat}{x:Str}{p v:Nat}{b:List Int}(hx:x∈bs)(h1:pl.length=bs.length)(h2:vs.length=bs.length)(h:Held pl vs b)(hp:gt b p=(v:Int)):Held (ptB bs pl x p) (ptB bs vs x v) b:=by
 intro k p' v' e1 e2;unfold ptB at e1 e2;rw[Z0] at e1 e2
 by_cases e:ixB bs x=k
 ·have hk:ixB bs x<bs.length:=va1 hx
  rw[if_pos e,if_pos (by omega)] at e1 e2;cases e1;cases e2;exact hp
 ·rw[if_neg e] at e1 e2
  exact h k p' v' e1 e2
theorem v72{bs:List Str}{pl vs:List Nat}{fr fr' p v:Nat}{x:Str}(h:Plc bs pl vs fr)(hf:fr<=fr')(hp:p<fr'):Plc bs (ptB bs pl x p) (ptB bs vs x v) fr':=by
 refine⟨by unfold ptB;rw[J0];exact h.l1,by unfold ptB;rw[J0];exact h.l2,λq hq=>?_⟩
 rcases N1 hq with z|z
 ·exact B8 (h.lt q z) hf
 ·rw[z];exact hp
theorem wb6{W:Nat}{bs:List Str}{pl vs:List Nat}{fr:Nat}{r:Rowp}(hW1:1<=W)(hW:W<=16)(h:Plc bs pl vs fr)(hs:StW W bs vs)(hr:okR W bs r)(hsm:smp r=true) :
  Wv fr (wvR W bs pl fr r).2.2 (wvR W bs pl fr r).1 (λb b'=>Held pl vs b->Held (wvR W bs pl fr r).2.1 (doR W bs r vs) b')/\Plc bs (wvR W bs pl fr r).2.1 (doR W bs r vs) (wvR W bs pl fr r).2.2/\(wvR W bs pl fr r).2.2<=fr+5/\(wvR W bs pl fr r).1.length<=22:=by
 cases r with
 | is x a =>
  have hx:x∈bs:=hr.1;have ha:okA W bs a:=hr.2;have hw:=um1 hW h ha;have hl:=ua1 (fr:=fr) a;refine⟨⟨hw.le,hw.tg,λsz b hb hz h0 hh=>?_⟩,v72 h hl.1 (uw9 h ha),by show plF fr a<=_;omega,by show(plR fr a).length<=_;omega⟩;have k:=hw.keep hb hz;exact uy4 hx h.l1 h.l2 (u45 hh h.lt λi hi=>k.2 i (.inl hi)) (hw.ef sz b hb hz h0 hh)
 | op x o a c =>
  obtain⟨hx,ho,ha,hc⟩:x∈bs/\o∈L3.signs/\okA W bs a/\okA W bs c:=hr;have la:=ua1 (fr:=fr) a;have lc:=ua1 (fr:=plF fr a) c;have h1:Plc bs pl vs (plF fr a):=⟨h.l1,h.l2,λp hp=>B8 (h.lt p hp) la.1⟩;have wa:=um1 hW h ha;have wc:=um1 hW h1 hc;have ba:=uw9 h ha;have bc:=uw9 h1 hc;have wg:=wb4 (W:=W) (x:=plB bs pl fr a) (y:=plB bs pl (plF fr a) c) (fr:=plF (plF fr a) c) ⟨hW1,hW,by omega,by omega⟩ ho;have ws:=(wa.seq wc).seq wg;have sl:=vp6 (fr:=plF (plF fr a) c) (o:=o);refine⟨⟨ws.le,ws.tg,λsz b hb hz h0 hh=>?_⟩,v72 h (D4 la.1 (D4 lc.1 sl.1)) sl.2.2,by show sgF _ o<=_;omega,?_⟩
  ·obtain⟨b2,⟨b1,q1,q2,q3,q4⟩,p2,p3,p4⟩:=ws.ef sz b hb hz h0
   have e1:=q1 hh;have hh1:Held pl vs b1:=u45 hh h.lt q3;have e2:=q2 hh1;have e1':gt b2 (plB bs pl fr a)=((avB bs vs a:Nat):Int):=by rw[q4 _ (by omega)];exact e1
   have hh2:Held pl vs b2:=u45 hh1 h1.lt q4;have e3:=p2 _ _ e1' e2 (ue5 hs ha) (ue5 hs hc);exact uy4 hx h.l1 h.l2 (u45 hh2 (λp hp=>B8 (h1.lt p hp) lc.1) p4) e3
  ·show(plR fr a++plR (plF fr a) c++sgR W _ _ _ o).length<=22
   rw[B0,B0];have:=vp5 (W:=W) (x:=plB bs pl fr a) (y:=plB bs pl (plF fr a) c) (fr:=plF (plF fr a) c) hW ho;omega
 | cho a ys ns=>cases hsm
 | tim k ys=>cases hsm
end Rw
namespace L3
open PySem PySem.Spec PyProof.Rows L2
section
variable{X:Cx}
theorem ve0{w1 w2 w3 w4 w5 w6:Str}{k1 k2 k3 k4 k5 k6:Nat}{p1 p2 p3 p4 p5 p6:Pos}{es:List Expr}{ts:TA3}(hr:A3 X es ts) :
  A3 X (.Constant (.str w1) k1 p1::.Constant (.str w2) k2 p2::.Constant (.str w3) k3 p3::.Constant (.str w4) k4 p4::.Constant (.str w5) k5 p5::.Constant (.str w6) k6 p6::es) (u60 (dC (.str w1)) (u60 (dC (.str w2)) (u60 (dC (.str w3)) (u60 (dC (.str w4)) (u60 (dC (.str w5)) (u60 (dC (.str w6)) ts)))))) :=
 u00 u08 (u00 u08 (u00 u08 (u00 u08 (u00 u08 (u00 u08 hr rfl) rfl) rfl) rfl) rfl) rfl
@[irreducible] def A3'(X:Cx)(es:List Expr)(t:TA3):Prop:=A3 X es t
@[irreducible] def S3'(X:Cx)(st:Stmt)(t:TS3):Prop:=S3 X st t
@[irreducible] def Ss3'(X:Cx)(l:List Stmt)(t:TS3):Prop:=Ss3 X l t
theorem A3'.of{es:List Expr}{t:TA3}(h:A3 X es t):A3' X es t:=by unfold A3';exact h
theorem A3'.to{es:List Expr}{t:TA3}(h:A3' X es t):A3 X es t:=by unfold A3' at h;exact h
theorem S3'.of{st:Stmt}{t:TS3}(h:S3 X st t):S3' X st t:=by unfold S3';exact h
theorem S3'.to{st:Stmt}{t:TS3}(h:S3' X st t):S3 X st t:=by unfold S3' at h;exact h
theorem Ss3'.of{l:List Stmt}{t:TS3}(h:Ss3 X l t):Ss3' X l t:=by unfold Ss3';exact h
theorem Ss3'.to{l:List Stmt}{t:TS3}(h:Ss3' X l t):Ss3 X l t:=by unfold Ss3' at h;exact h
theorem uw3{st:Stmt}{sts:List Stmt}{s1 s2:TS3}(h1:S3' X st s1)(h2:Ss3' X sts s2):Ss3' X (st::sts) (dSeq s1 s2):=.of (u02 h1.to h2.to)
theorem vv5{st:Stmt}{s1:TS3}(h:S3' X st s1):Ss3' X [st] s1:=.of (u07 h.to)
theorem ws8:A3' X [] dNil:=.of u03
theorem vd9{w1 w2 w3 w4 w5 w6:Str}{k1 k2 k3 k4 k5 k6:Nat}{p1 p2 p3 p4 p5 p6:Pos}{es:List Expr}{ts:TA3}(hr:A3' X es ts) :
  A3' X (.Constant (.str w1) k1 p1::.Constant (.str w2) k2 p2::.Constant (.str w3) k3 p3::.Constant (.str w4) k4 p4::.Constant (.str w5) k5 p5::.Constant (.str w6) k6 p6::es) (u60 (dC (.str w1)) (u60 (dC (.str w2)) (u60 (dC (.str w3)) (u60 (dC (.str w4)) (u60 (dC (.str w5)) (u60 (dC (.str w6)) ts)))))):=.of (ve0 hr.to)
theorem wd5(i:Nat){x:Str}{es:List Expr}{ts:TA3}{pos pos' lpos:Pos}(hN:X.N.Nodup)(he:A3' X es ts)(hi:X.N[i]?=some x:=by rfl)(hx:Loc X.env.scope x:=by first|exact B48 rfl|exact B19 rfl)(hs:W5 (.List es lpos) (some (.Name x pos')) pos.line X.env=pure false:=by rfl)
  (hf:X.fn x=true\/X.env.scope.names.lookup x=some .local:=by first|exact .inl rfl|exact .inr rfl|assumption):S3' X (.Assign [.Name x pos'] (.List es lpos) pos) (dAsg (dLst ts) (uh3 i)):=.of (u20 i hN (u46 he.to) hi hx hs hf)
end
end L3
namespace Rw
open PySem PySem.Spec PyProof.Rows L2 L3 Law
def At(rs:List Row)(a:Nat)(new:List Row):Prop:=∀(j:Nat) (r:Row),new[j]?=some r->rs[a+j]?=some r
theorem At.left{rs n1 n2:List Row}{a:Nat}(h:At rs a (n1++n2)):At rs a n1:=λj r e=>h j r (by rw[E9 (un0 e)];exact e)
theorem At.right{rs n1 n2:List Row}{a:Nat}(h:At rs a (n1++n2)):At rs (a+n1.length) n2:=λj r e=>by
 rw[O0];exact h _ r (by rw[F0 (K0 _ _),Nat.add_sub_cancel_left];exact e)
theorem At.head{rs t:List Row}{r:Row}{a:Nat}(h:At rs a (r::t)):rs[a]?=some r:=h 0 r rfl
theorem At.tail{rs t:List Row}{r:Row}{a:Nat}(h:At rs a (r::t)):At rs (a+1) t:=λj x e=>by rw[O0,Q0 1 j];exact h (j+1) x e
def Rch(rs:List Row)(n s:Nat)(b:List Int)(s':Nat)(b':List Int):Prop:=∀m,rn true rs (n+m) s b=(n+(rn true rs m s' b').1,(rn true rs m s' b').2)
theorem Rch.refl{rs:List Row}{s:Nat}{b:List Int}:Rch rs 0 s b s b:=λm=>by rw[Q9,Q9]
theorem Rch.trans{rs:List Row}{n1 n2 s s1 s2:Nat}{b b1 b2:List Int}(h1:Rch rs n1 s b s1 b1)(h2:Rch rs n2 s1 b1 s2 b2):Rch rs (n1+n2) s b s2 b2:=λm=>by
 rw[O0,h1 (n2+m),h2 m]
 show(n1+(n2+_),_)=_
 rw[O0]
theorem Rch.step{rs:List Row}{s s':Nat}{b b':List Int}(h:mayF rs b s=true)(e:nxF rs b s=(s',b')):Rch rs 1 s b s' b':=λm=>by
 rw[Q0 1 m,wd8 (fw:=true) h]
 show((rn true rs m (nxF rs b s).1 (nxF rs b s).2).1+1,(rn true rs m (nxF rs b s).1 (nxF rs b s).2).2)=_
 rw[e,Q0]
theorem Rch.cast{rs:List Row}{n n' s s' t:Nat}{b b':List Int}(h:Rch rs n s b s' b')(e:n=n')(e2:s'=t):Rch rs n' s b t b':=by subst e e2;exact h
theorem Rch.plain{rs:List Row}{s:Nat}{b:List Int}{r:Row}(e:rs[s]?=some r)(hp:r.plain=true):Rch rs 1 s b (s+1) (stp 1 b r):=by
 have hl:=un0 e;have er:rs[s]=r:=by rw[B6 hl] at e;exact E2 e
 have h:=v73 (bs:=b) hl (by rw[er];exact hp);rw[er] at h;exact Rch.step h.1 h.2
theorem Rch.plains{rs:List Row}:∀{t:List Row} {s:Nat} {b:List Int},At rs s t->(∀r∈t,r.plain=true)->Rch rs t.length s b (s+t.length) (rnp t b)
 | [],s,b,_,_=>Rch.refl
 | r::t,s,b,h,hp=>by
  have ih:=Rch.plains (t:=t) (s:=s+1) (b:=stp 1 b r) h.tail λx hx=>hp x (C6 _ hx)
  exact((Rch.plain h.head (hp r D7)).trans ih).cast (by rw[C0];omega) (by rw[C0];omega)
theorem Rch.goT{rs:List Row}{s x k:Nat}{n:Int}{b:List Int}(e:rs[s]?=some (.go x n k))(h:gt b x=n):Rch rs 1 s b (k+1) b :=
 Rch.step (by unfold mayF;rw[e]) (by unfold nxF;rw[e];exact if_pos h)
theorem Rch.goF{rs:List Row}{s x k:Nat}{n:Int}{b:List Int}(e:rs[s]?=some (.go x n k))(h:gt b x≠n):Rch rs 1 s b (s+1) b :=
 Rch.step (by unfold mayF;rw[e]) (by unfold nxF;rw[e];exact if_neg h)
theorem Rch.come{rs:List Row}{s x k:Nat}{n:Int}{b:List Int}(e:rs[s]?=some (.come x n k))(h:gt b x≠n):Rch rs 1 s b (s+1) b :=
 Rch.step (by unfold mayF;rw[e];show(!decide (gt b x=n))=true;rw[decide_eq_false h];rfl) (by unfold nxF;rw[e];rfl)
theorem vg8{a b:Nat}{r:Row}(h:r.ok a)(hb:a<=b):r.ok b:=by
 cases r with
 | add x o=>exact⟨B8 h.1 hb,uf6 h.2 hb⟩
 | take x o=>exact⟨B8 h.1 hb,uf6 h.2 hb⟩
 | turn x i cs=>exact⟨B8 h.1 hb,h.2.1,h.2.2.1,λc hc=>⟨B8 (h.2.2.2 c hc).1 hb,(h.2.2.2 c hc).2⟩⟩
 | swap x y=>exact⟨B8 h.1 hb,B8 h.2.1 hb,h.2.2⟩
 | go x n k=>exact⟨B8 h.1 hb,h.2⟩
 | come x n k=>exact⟨B8 h.1 hb,h.2⟩
structure PairAt(a:Nat)(new:List Row):Prop where
 go:∀(j x:Nat) (n:Int) (k:Nat),new[j]?=some (Row.go x n k)->a<=k/\new[k-a]?=some (.come x n (a+j))
 co:∀(j x:Nat) (n:Int) (k:Nat),new[j]?=some (Row.come x n k)->a<=k/\new[k-a]?=some (.go x n (a+j))
theorem PairAt.plain{a:Nat}{new:List Row}(h:∀r∈new,r.plain=true):PairAt a new:=by
 refine⟨λj x n k e=>?_,λj x n k e=>?_⟩
 ·have:=h _ (J5 e);cases this
 ·have:=h _ (J5 e);cases this
theorem PairAt.pairs{new:List Row}(h:PairAt 0 new):Pairs new :=
 ⟨λj x n k e=>by have:=(h.go j x n k e).2;rw[A29,Q9] at this;exact this,λj x n k e=>by have:=(h.co j x n k e).2;rw[A29,Q9] at this;exact this⟩
theorem PairAt.app{a:Nat}{n1 n2:List Row}(h1:PairAt a n1)(h2:PairAt (a+n1.length) n2):PairAt a (n1++n2):=by
 refine⟨λj x n k e=>?_,λj x n k e=>?_⟩
 ·rcases A77 j n1.length with q|q
  ·rw[E9 q] at e
   obtain⟨u,v⟩:=h1.go j x n k e;exact⟨u,by rw[E9 (un0 v)];exact v⟩
  ·rw[F0 q] at e
   obtain⟨u,v⟩:=h2.go _ x n k e;refine⟨by omega,?_⟩;rw[F0 (by omega),show k-a-n1.length=k-(a+n1.length) by omega,v]
   congr 2;omega
 ·rcases A77 j n1.length with q|q
  ·rw[E9 q] at e
   obtain⟨u,v⟩:=h1.co j x n k e;exact⟨u,by rw[E9 (un0 v)];exact v⟩
  ·rw[F0 q] at e
   obtain⟨u,v⟩:=h2.co _ x n k e;refine⟨by omega,?_⟩;rw[F0 (by omega),show k-a-n1.length=k-(a+n1.length) by omega,v]
   congr 2;omega
theorem PairAt.fence{a x:Nat}{n:Int}{t:List Row}(h:∀r∈t,r.plain=true):PairAt a (.go x n (a+t.length+1)::(t++[.come x n a])):=by
 have key:∀(j:Nat) (r:Row),(Row.go x n (a+t.length+1)::(t++[.come x n a]))[j]?=some r->(j=0/\r=.go x n (a+t.length+1))\/(j=t.length+1/\r=.come x n a)\/r.plain=true:=by
  intro j r e;cases j with
  | zero=>exact .inl ⟨rfl,(E2 e).symm⟩
  | succ j =>
   rw[Q1] at e
   rcases A77 j t.length with q|q
   ·rw[E9 q] at e
    exact .inr (.inr (h r (J5 e)))
   ·rw[F0 q] at e
    have hj:j-t.length<1:=by simpa using un0 e
    rw[show j-t.length=0 by omega] at e;exact .inr (.inl ⟨by omega,(E2 e).symm⟩)
 refine⟨λj x' n' k e=>?_,λj x' n' k e=>?_⟩
 ·rcases key j _ e with⟨rfl,q⟩|⟨rfl,q⟩|q
  ·cases q
   refine⟨by omega,?_⟩;rw[show a+t.length+1-a=t.length+1 by omega,Q1,F0 (B9 _),V9];rfl
  ·cases q
  ·cases q
 ·rcases key j _ e with⟨rfl,q⟩|⟨rfl,q⟩|q
  ·cases q
  ·cases q
   refine⟨B9 _,?_⟩;rw[V9]
   show some (Row.go x n (a+t.length+1))=some (Row.go x n (a+(t.length+1)))
   rw[O0]
  ·cases q
structure Wk(a fr fr':Nat)(new:List Row)(st:Nat)(P:List Int->Prop)(F:List Int->List Int->Prop):Prop where
 le:fr<=fr'
 ok:∀r∈new,r.ok fr'
 pr:PairAt a new
 run:∀sz rs bs,At rs a new->BsOk sz bs->fr'<=sz->(∀i,fr<=i->gt bs i=0)->P bs->∃bs',BsOk sz bs'/\(∀i,i<fr\/fr'<=i->gt bs' i=gt bs i)/\F bs bs'/\Rch rs st a bs (a+new.length) bs'
theorem Wk.of{a fr fr':Nat}{new:List Row}{P:List Int->Prop}{F:List Int->List Int->Prop}(h:Wv fr fr' new F):Wk a fr fr' new new.length P F:=by
 have hp:∀r∈new,r.plain=true:=λr hr=>um3 (h.tg r hr)
 refine⟨h.le,λr hr=>vu8 (h.tg r hr) (B9 _),PairAt.plain hp,λsz rs bs ha hb hz h0 _=>?_⟩;have k:=h.keep hb hz;exact⟨rnp new bs,k.1,k.2,h.ef sz bs hb hz h0,Rch.plains ha hp⟩
theorem Wk.imp{a fr fr' st:Nat}{new:List Row}{P P':List Int->Prop}{F F':List Int->List Int->Prop}(h:Wk a fr fr' new st P F)(hp:∀b,P' b->P b)(hf:∀b b',P' b->(∀i,i<fr->gt b' i=gt b i)->F b b'->F' b b'):Wk a fr fr' new st P' F' :=
 ⟨h.le,h.ok,h.pr,λsz rs bs ha hb hz h0 p=>by
  obtain⟨b',q1,q2,q3,q4⟩:=h.run sz rs bs ha hb hz h0 (hp _ p);exact⟨b',q1,q2,hf _ _ p (λi hi=>q2 i (.inl hi)) q3,q4⟩⟩
theorem Wk.seq{a fr fr1 fr2 s1 s2:Nat}{n1 n2:List Row}{P P2:List Int->Prop}{F1 F2:List Int->List Int->Prop}(h1:Wk a fr fr1 n1 s1 P F1)(h2:Wk (a+n1.length) fr1 fr2 n2 s2 P2 F2)(hp:∀b b1,P b->F1 b b1->(∀i,i<fr->gt b1 i=gt b i)->P2 b1) :
  Wk a fr fr2 (n1++n2) (s1+s2) P (λb b'=>∃b1,F1 b b1/\F2 b1 b'/\(∀i,i<fr->gt b1 i=gt b i)/\∀i,i<fr1->gt b' i=gt b1 i):=by
 refine⟨D4 h1.le h2.le,λr hr=>?_,h1.pr.app h2.pr,λsz rs bs ha hb hz h0 p=>?_⟩
 ·rcases K2.mp hr with hr|hr
  ·exact vg8 (h1.ok r hr) h2.le
  ·exact h2.ok r hr
 ·have l1:=h1.le
  have l2:=h2.le;obtain⟨b1,q1,q2,q3,q4⟩:=h1.run sz rs bs ha.left hb (by omega) h0 p;obtain⟨b2,r1,r2,r3,r4⟩:=h2.run sz rs b1 ha.right q1 hz (λi hi=>by rw[q2 i (.inr hi)];exact h0 i (by omega)) (hp _ _ p q3 λi hi=>q2 i (.inl hi));refine⟨b2,r1,λi hi=>?_,⟨b1,q3,r3,λi hi=>q2 i (.inl hi),λi hi=>r2 i (.inl hi)⟩,(q4.trans r4).cast rfl (by rw[B0];omega)⟩;rw[r2 i (by omega),q2 i (by omega)]
def chR(a ch:Nat)(ys ns:List Row):List Row:=(.go ch 0 (a+ys.length+1)::(ys++[.come ch 0 a]))++(.go ch 1 (a+(ys.length+2)+ns.length+1)::(ns++[.come ch 1 (a+(ys.length+2))]))
theorem Wk.choice{a fr fr' ch:Nat}{ys ns:List Row}{Fy Fn:List Int->List Int->Prop}(hy:Wv fr fr' ys Fy)(hn:Wv fr fr' ns Fn)(hl:ys.length=ns.length)(hc:ch<fr) :
  Wk a fr fr' (chR a ch ys ns) (ys.length+3) (λb=>gt b ch=0\/gt b ch=1) (λb b'=>(gt b ch=1->Fy b b')/\(gt b ch=0->Fn b b')):=by
 have py:∀r∈ys,r.plain=true:=λr hr=>um3 (hy.tg r hr)
 have pn:∀r∈ns,r.plain=true:=λr hr=>um3 (hn.tg r hr)
 have le:=hy.le;have l1:(Row.go ch 0 (a+ys.length+1)::(ys++[.come ch 0 a])).length=ys.length+2:=by rw[C0,B0];rfl
 have fok:∀(n:Int) (k:Nat) (t:List Row) (k2:Nat) (F:List Int->List Int->Prop),0<=n->n<4294967296->Wv fr fr' t F->∀r∈(Row.go ch n k::(t++[.come ch n k2])),r.ok fr':=by
  intro n k t k2 F h1 h2 hw r hr
  rcases D1.mp hr with e|hr
  ·rw[e];exact⟨by omega,h1,h2⟩
  rcases K2.mp hr with hr|hr
  ·exact vu8 (hw.tg r hr) (B9 _)
  ·rw[D9.mp hr];exact⟨by omega,h1,h2⟩
 refine⟨le,λr hr=>?_,?_,λsz rs bs ha hb hz h0 p=>?_⟩
 ·rcases K2.mp hr with hr|hr
  ·exact fok 0 _ ys _ Fy (by decide) (by decide) hy r hr
  ·exact fok 1 _ ns _ Fn (by decide) (by decide) hn r hr
 ·refine PairAt.app (PairAt.fence py) ?_
  rw[l1];exact PairAt.fence pn
 ·have a1:=At.left ha
  have a2:=At.right ha;rw[l1] at a2;have g1:=a1.head;have y1:=(At.left a1.tail);have c1:=(At.right a1.tail).head;have g2:=a2.head;have y2:=(At.left a2.tail);have c2:=(At.right a2.tail).head;have hlen:(chR a ch ys ns).length=ys.length+2+(ns.length+2):=by
   unfold chR;rw[B0,l1,C0,B0];rfl
  rw[hlen]
  rcases p with p|p
  ·have k:=hn.keep hb hz
   refine⟨rnp ns bs,k.1,k.2,⟨λq=>(by rw[p] at q;cases q),λ_=>hn.ef sz bs hb hz h0⟩,?_⟩;have e1:=Rch.goT (b:=bs) g1 p;have e2:=(Rch.goF (b:=bs) g2 (by rw[p];decide));have e3:=Rch.plains (b:=bs) y2 pn;have e4:=Rch.come (b:=rnp ns bs) c2 (by rw[k.2 ch (.inl hc),p];decide);exact(((e1.cast rfl (show a+ys.length+1+1=a+(ys.length+2) by omega)).trans e2).trans e3 |>.trans e4).cast (by omega) (by omega)
  ·have k:=hy.keep hb hz
   refine⟨rnp ys bs,k.1,k.2,⟨λ_=>hy.ef sz bs hb hz h0,λq=>(by rw[p] at q;cases q)⟩,?_⟩;have e1:=Rch.goF (b:=bs) g1 (by rw[p];decide);have e2:=Rch.plains (b:=bs) y1 py;have e3:=Rch.come (b:=rnp ys bs) c1 (by rw[k.2 ch (.inl hc),p];decide);have e4:=Rch.goT (b:=rnp ys bs) g2 (by rw[k.2 ch (.inl hc),p]);exact((e1.trans e2).trans e3 |>.cast rfl (show a+1+ys.length+1=a+(ys.length+2) by omega) |>.trans e4).cast (by omega) (by omega)
def tkR(fr:Nat):List Nat->List Row
 | []=>[]
 | p::ps=>.add fr (.box p)::tkR (fr+1) ps
theorem u87:∀{ps:List Nat} {fr:Nat},(tkR fr ps).length=ps.length
 | [],_=>rfl
 | p::ps,fr=>by show(tkR (fr+1) ps).length+1=_;rw[u87];rfl
theorem wb9{fr p:Nat}(hp:p<fr):Wv fr (fr+1) [.add fr (.box p)] (λb b'=>gt b' fr=gt b p):=by
 refine⟨by omega,λr hr=>?_,λsz bs hb hz h0=>?_⟩
 ·rw[D9.mp hr];exact⟨by omega,by omega,by show p<_;omega,by omega⟩
 ·have hl:=hb.len
  have hr:=ul1 hb (show p<sz by omega);rw[u32,u68,ub2 (by omega),if_pos rfl,h0 fr (B9 _)]
  show(0+gt bs p)%4294967296=_
  omega
theorem w_tk:∀{ps:List Nat} {fr f0:Nat},f0<=fr->(∀p∈ps,p<f0)->Wv fr (fr+ps.length) (tkR fr ps) (λb b'=>∀(k p:Nat),ps[k]?=some p->gt b' (fr+k)=gt b p)
 | [],fr,f0,_,_=>Wv.nil λb k p e=>by cases e
 | p::ps,fr,f0,hf,h=>by
  have hp:=h p D7;have ih:=w_tk (ps:=ps) (fr:=fr+1) (f0:=f0) (by omega) λx hx=>h x (C6 _ hx)
  have w:=(wb9 (fr:=fr) (p:=p) (by omega)).seq ih;rw[show fr+1+ps.length=fr+(p::ps).length by rw[C0];omega] at w;refine w.imp λb b' ⟨b1,q1,q2,q3,q4⟩ k x e=>?_
  cases k with
  | zero =>
   cases e;rw[A76,q4 fr (F5 _)];exact q1
  | succ k =>
   have e:ps[k]?=some x:=e;have hx:=h x (C6 _ (J5 e));rw[show fr+(k+1)=fr+1+k by omega,q2 k x e,q3 x (by omega)]
theorem vu5{fr x:Nat}(hx:x<fr):Wv fr (fr+2) [.take fr (.box x),.turn (fr+1) 0 [(fr,31)]] (λb b'=>∀v:Nat,gt b x=(v:Int)->v<65536->gt b' (fr+1)=if v=0 then 0 else 1):=by
 refine⟨by omega,λr hr=>?_,λsz bs hb hz h0 v e hv=>?_⟩
 ·rcases D1.mp hr with e|hr
  ·rw[e];exact⟨by omega,by omega,by show x<_;omega,by omega⟩
  ·rw[D9.mp hr];exact⟨by omega,by omega,by omega,by simp,λc hc=>by rw[D9.mp hc];exact⟨by show fr<_;omega,by show fr≠_;omega,by show 31<32;omega⟩⟩
 ·have hl:=hb.len
  have e1:gt (stp 1 bs (.take fr (.box x))) fr=(((0:Nat):Int)-(v:Int))%4294967296:=by
   rw[ub8 (by omega),if_pos rfl,h0 fr (B9 _)]
   show(0-gt bs x)%4294967296=_
   rw[e];rfl
  have e2:gt (stp 1 bs (.take fr (.box x))) (fr+1)=0:=by rw[ub8 (by omega),if_neg (by omega),h0 (fr+1) (by omega)]
  rw[u32,u32,u68,u69 (by rw[u67];omega),if_pos rfl,con1,e1,e2,flp0,bit31 (by decide) hv]
  by_cases q:v=0
  ·rw[if_pos q,if_neg (by omega:¬ 0<v)];rfl
  ·rw[if_neg q,if_pos (by omega:0<v)];rfl
def mrg(fr:Nat):List Nat->List Nat->List Nat
 | p::ps,q::qs=>if p=q then p::mrg fr ps qs else fr::mrg (fr+1) ps qs
 | _,_=>[]
def uY:List Nat->List Nat->List Nat
 | p::ps,q::qs=>if p=q then uY ps qs else p::uY ps qs
 | _,_=>[]
def uN:List Nat->List Nat->List Nat
 | p::ps,q::qs=>if p=q then uN ps qs else q::uN ps qs
 | _,_=>[]
theorem uz5:∀{ps qs:List Nat},(uY ps qs).length=(uN ps qs).length
 | [],_=>by cases ‹List Nat› <;> rfl
 | _::_,[]=>rfl
 | p::ps,q::qs=>by
  unfold uY uN;split
  ·exact uz5
  ·rw[C0,C0,uz5]
theorem v44:∀{ps qs:List Nat} {x:Nat},x∈uY ps qs->x∈ps
 | [],qs,x,h=>by cases qs <;> exact h
 | _::_,[],x,h=>by cases h
 | p::ps,q::qs,x,h=>by
  unfold uY at h;split at h
  ·exact C6 _ (v44 h)
  ·rcases D1.mp h with e|h
   ·rw[e];exact D7
   ·exact C6 _ (v44 h)
theorem v45:∀{ps qs:List Nat} {x:Nat},x∈uN ps qs->x∈qs
 | [],qs,x,h=>by cases qs <;> cases h
 | _::_,[],x,h=>by cases h
 | p::ps,q::qs,x,h=>by
  unfold uN at h;split at h
  ·exact C6 _ (v45 h)
  ·rcases D1.mp h with e|h
   ·rw[e];exact D7
   ·exact C6 _ (v45 h)
theorem ug6:∀{ps qs:List Nat} {fr:Nat},ps.length=qs.length->(mrg fr ps qs).length=ps.length
 | [],qs,fr,h=>by cases qs <;> rfl
 | p::ps,[],fr,h=>by cases h
 | p::ps,q::qs,fr,h=>by
  have h:ps.length=qs.length:=O4 h;unfold mrg;split
  ·rw[C0,ug6 h,C0]
  ·rw[C0,ug6 h,C0]
theorem v84:∀{ps qs:List Nat} {fr f0:Nat},f0<=fr->(∀p∈ps,p<f0)->∀x∈mrg fr ps qs,x<fr+(uY ps qs).length
 | [],qs,fr,f0,_,_,x,hx=>by cases qs <;> cases hx
 | p::ps,[],fr,f0,_,_,x,hx=>by cases hx
 | p::ps,q::qs,fr,f0,hf,h,x,hx=>by
  have hp:=h p D7;have ht:=λy hy=>h y (C6 _ hy)
  unfold mrg at hx;unfold uY;split at hx
  ·rename_i e
   rw[if_pos e]
   rcases D1.mp hx with z|hx
   ·omega
   ·exact v84 hf ht x hx
  ·rename_i e
   rw[if_neg e,C0]
   rcases D1.mp hx with z|hx
   ·omega
   ·have:=v84 (fr:=fr+1) (f0:=f0) (by omega) ht x hx
    omega
theorem held_cons{p v:Nat}{pl vs:List Nat}{b:List Int}:Held (p::pl) (v::vs) b↔gt b p=(v:Int)/\Held pl vs b:=by
 refine⟨λh=>⟨h 0 p v rfl rfl,λk x y e1 e2=>h (k+1) x y e1 e2⟩,λ⟨h1,h2⟩ k x y e1 e2=>?_⟩;cases k with
 | zero=>cases e1;cases e2;exact h1
 | succ k=>exact h2 k x y e1 e2
theorem uu2{b b':List Int}{f0:Nat}(hk:∀i,i<f0->gt b' i=gt b i):∀{ps qs vs:List Nat} {fr:Nat},(∀p∈ps,p<f0)->Held ps vs b->(∀(k p:Nat),(uY ps qs)[k]?=some p->gt b' (fr+k)=gt b p)->Held (mrg fr ps qs) vs b'
 | [],qs,vs,fr,_,_,_=>by cases qs <;> exact λk x y e=>by cases e
 | p::ps,[],vs,fr,_,_,_=>λk x y e=>by cases e
 | p::ps,q::qs,[],fr,_,_,_=>λk x y e e2=>by cases e2
 | p::ps,q::qs,v::vs,fr,h,hh,hu=>by
  have hp:=h p D7;have ht:=λy hy=>h y (C6 _ hy)
  obtain⟨h1,h2⟩:=held_cons.mp hh;unfold mrg;unfold uY at hu;split
  ·rename_i e
   rw[if_pos e] at hu;exact held_cons.mpr ⟨by rw[hk p hp];exact h1,uu2 hk ht h2 hu⟩
  ·rename_i e
   rw[if_neg e] at hu;refine held_cons.mpr ⟨by rw[<- h1];exact hu 0 p rfl,uu2 hk ht h2 λk x e2=>?_⟩;rw[show fr+1+k=fr+(k+1) by omega];exact hu (k+1) x e2
theorem uu3{b b':List Int}{f0:Nat}(hk:∀i,i<f0->gt b' i=gt b i):∀{ps qs vs:List Nat} {fr:Nat},(∀p∈qs,p<f0)->Held qs vs b->(∀(k p:Nat),(uN ps qs)[k]?=some p->gt b' (fr+k)=gt b p)->Held (mrg fr ps qs) vs b'
 | [],qs,vs,fr,_,_,_=>by cases qs <;> exact λk x y e=>by cases e
 | p::ps,[],vs,fr,_,_,_=>λk x y e=>by cases e
 | p::ps,q::qs,[],fr,_,_,_=>λk x y e e2=>by cases e2
 | p::ps,q::qs,v::vs,fr,h,hh,hu=>by
  have hp:=h q D7;have ht:=λy hy=>h y (C6 _ hy)
  obtain⟨h1,h2⟩:=held_cons.mp hh;unfold mrg;unfold uN at hu;split
  ·rename_i e
   rw[if_pos e] at hu;exact held_cons.mpr ⟨by rw[e,hk q hp];exact h1,uu3 hk ht h2 hu⟩
  ·rename_i e
   rw[if_neg e] at hu;refine held_cons.mpr ⟨by rw[<- h1];exact hu 0 q rfl,uu3 hk ht h2 λk x e2=>?_⟩;rw[show fr+1+k=fr+(k+1) by omega];exact hu (k+1) x e2
mutual
def wcR(W:Nat)(bs:List Str):Rowp->Nat->List Nat->Nat->List Row×List Nat×Nat×Nat
 | .is x c,_,pl,fr=>((wvR W bs pl fr (.is x c)).1,(wvR W bs pl fr (.is x c)).2.1,(wvR W bs pl fr (.is x c)).2.2,(wvR W bs pl fr (.is x c)).1.length)
 | .op x o c d,_,pl,fr=>((wvR W bs pl fr (.op x o c d)).1,(wvR W bs pl fr (.op x o c d)).2.1,(wvR W bs pl fr (.op x o c d)).2.2,(wvR W bs pl fr (.op x o c d)).1.length)
 | .cho c ys ns,a,pl,fr =>
  let y:=wcL W bs ys a pl fr
  let n:=wcL W bs ns (a+y.1.length) pl y.2.2.1
  let f:=plF n.2.2.1 c
  let pre:=y.1++n.1++plR n.2.2.1 c++[.take f (.box (plB bs pl n.2.2.1 c)),.turn (f+1) 0 [(f,31)]]
  (pre++chR (a+pre.length) (f+1) (tkR (f+2) (uY y.2.1 n.2.1)) (tkR (f+2) (uN y.2.1 n.2.1)),mrg (f+2) y.2.1 n.2.1,f+2+(uY y.2.1 n.2.1).length,y.2.2.2+n.2.2.2+(plR n.2.2.1 c).length+2+((uY y.2.1 n.2.1).length+3))
 | .tim _ _,_,pl,fr=>([],pl,fr,0)
def wcL(W:Nat)(bs:List Str):List Rowp->Nat->List Nat->Nat->List Row×List Nat×Nat×Nat
 | [],_,pl,fr=>([],pl,fr,0)
 | r::rs,a,pl,fr =>
  let x:=wcR W bs r a pl fr
  let t:=wcL W bs rs (a+x.1.length) x.2.1 x.2.2.1
  (x.1++t.1,t.2.1,t.2.2.1,x.2.2.2+t.2.2.2)
end
theorem Plc.mono{bs:List Str}{pl vs:List Nat}{fr fr':Nat}(h:Plc bs pl vs fr)(hf:fr<=fr'):Plc bs pl vs fr':=⟨h.l1,h.l2,λp hp=>B8 (h.lt p hp) hf⟩
def WkP(W:Nat)(bs:List Str)(a:Nat)(pl vs:List Nat)(fr:Nat)(x:List Row×List Nat×Nat×Nat)(vs':List Nat):Prop :=
 Wk a fr x.2.2.1 x.1 x.2.2.2 (Held pl vs) (λ_ b'=>Held x.2.1 vs' b')/\Plc bs x.2.1 vs' x.2.2.1
mutual
theorem w_pc{W:Nat}{bs:List Str}(hW1:1<=W)(hW:W<=16):∀(r:Rowp) {a:Nat} {pl vs:List Nat} {fr:Nat},okR W bs r->ntR r->Plc bs pl vs fr->StW W bs vs->WkP W bs a pl vs fr (wcR W bs r a pl fr) (doR W bs r vs)
 | .is x c,a,pl,vs,fr,hr,_,h,hs=>by
  obtain⟨w1,w2,_⟩:=wb6 hW1 hW h hs hr rfl;exact⟨(Wk.of w1).imp (λ_ p=>p) λb b' p _ f=>f p,w2⟩
 | .op x o c d,a,pl,vs,fr,hr,_,h,hs=>by
  obtain⟨w1,w2,_⟩:=wb6 hW1 hW h hs hr rfl;exact⟨(Wk.of w1).imp (λ_ p=>p) λb b' p _ f=>f p,w2⟩
 | .cho c ys ns,a,pl,vs,fr,hr,hn,h,hs=>by
  obtain⟨hc,hry,hrn⟩:okA W bs c/\okL W bs ys/\okL W bs ns:=hr;obtain⟨hny,hnn⟩:ntL ys/\ntL ns:=hn;have hy:=w_ps hW1 hW ys (a:=a) hry hny h hs;unfold WkP at hy
  show WkP W bs a pl vs fr
   ((wcL W bs ys a pl fr).1++(wcL W bs ns (a+(wcL W bs ys a pl fr).1.length) pl (wcL W bs ys a pl fr).2.2.1).1++_++_++_,_,_,_) (if avB bs vs c=0 then doL W bs ns vs else doL W bs ys vs)
  generalize wcL W bs ys a pl fr=y at hy⊢;obtain⟨yr,yp,yf,yst⟩:=y;obtain⟨wy,py⟩:=hy;have wy:Wk a fr yf yr yst (Held pl vs) (λ_ b'=>Held yp (doL W bs ys vs) b'):=wy;have py:Plc bs yp (doL W bs ys vs) yf:=py;have h2:=h.mono wy.le;have hn2:=w_ps hW1 hW ns (a:=a+yr.length) hrn hnn h2 hs;unfold WkP at hn2
  show WkP W bs a pl vs fr
   (yr++(wcL W bs ns (a+yr.length) pl yf).1++_++_++_,_,_,_) (if avB bs vs c=0 then doL W bs ns vs else doL W bs ys vs)
  generalize wcL W bs ns (a+yr.length) pl yf=n at hn2⊢;obtain⟨nr,np,nf,nst⟩:=n;obtain⟨wn,pn⟩:=hn2;have wn:Wk (a+yr.length) yf nf nr nst (Held pl vs) (λ_ b'=>Held np (doL W bs ns vs) b'):=wn;have pn:Plc bs np (doL W bs ns vs) nf:=pn;have h3:=h2.mono wn.le;have hp:=ua1 (fr:=nf) c;have hb:=uw9 h3 hc
  show WkP W bs a pl vs fr (yr++nr++plR nf c++[Row.take (plF nf c) (.box (plB bs pl nf c)),Row.turn (plF nf c+1) 0 [(plF nf c,31)]]++chR (a+(yr++nr++plR nf c++[Row.take (plF nf c) (.box (plB bs pl nf c)),Row.turn (plF nf c+1) 0 [(plF nf c,31)]]).length) (plF nf c+1) (tkR (plF nf c+2) (uY yp np)) (tkR (plF nf c+2) (uN yp np)),mrg (plF nf c+2) yp np,plF nf c+2+(uY yp np).length,yst+nst+(plR nf c).length+2+((uY yp np).length+3)) (if avB bs vs c=0 then doL W bs ns vs else doL W bs ys vs)
  have wl:=wn.le;have s1:=wy.seq wn λb b1 p _ k=>u45 p h.lt k
  have s2:=s1.seq (P2:=Held pl vs) (Wk.of (um1 hW h3 hc)) λb b1 p ⟨b0,q1,q2,q3,q4⟩ k=>u45 p h.lt k
  have s3:=s2.seq (P2:=λ_=>True) (Wk.of (vu5 hb)) λ_ _ _ _ _=>trivial
  have ly:∀p∈uY yp np,p<nf:=λp q=>B8 (py.lt p (v44 q)) wl
  have ln:∀p∈uN yp np,p<nf:=λp q=>pn.lt p (v45 q)
  have ty:=w_tk (fr:=plF nf c+2) (by omega) ly;have tn:=w_tk (fr:=plF nf c+2) (by omega) ln;rw[<- uz5] at tn;have va:avB bs vs c<65536:=B8 (ue5 hs hc) (p16 hW);have key:∀b b4,Held pl vs b->(∃b3,(∃b2,(∃b1,Held yp (doL W bs ys vs) b1/\Held np (doL W bs ns vs) b2/\(∀i,i<fr->gt b1 i=gt b i)/\∀i,i<yf->gt b2 i=gt b1 i)/\(Held pl vs b2->gt b3 (plB bs pl nf c)=((avB bs vs c:Nat):Int))/\(∀i,i<fr->gt b2 i=gt b i)/\∀i,i<nf->gt b3 i=gt b2 i)/\(∀v:Nat,gt b3 (plB bs pl nf c)=(v:Int)->v<65536->gt b4 (plF nf c+1)=if v=0 then 0 else 1)/\(∀i,i<fr->gt b3 i=gt b i)/\∀i,i<plF nf c->gt b4 i=gt b3 i) ->
    gt b4 (plF nf c+1)=(if avB bs vs c=0 then 0 else 1)/\Held yp (doL W bs ys vs) b4/\Held np (doL W bs ns vs) b4:=by
   rintro b b4 p ⟨b3,⟨b2,⟨b1,q1,q2,q3,q4⟩,q5,q6,q7⟩,q8,q9,q10⟩;have p2:Held pl vs b2:=u45 p h.lt q6;refine⟨q8 _ (q5 p2) va,?_,?_⟩
   ·exact u45 (u45 (u45 q1 py.lt q4) (λx hx=>B8 (py.lt x hx) wl) q7) (λx hx=>B8 (py.lt x hx) (D4 wl hp.1)) q10
   ·exact u45 (u45 q2 pn.lt q7) (λx hx=>B8 (pn.lt x hx) hp.1) q10
  have s4:=s3.seq (Wk.choice (ch:=plF nf c+1) ty tn (by rw[u87,u87,uz5]) (by omega)) λb b4 p f _=>by
   have:=(key b b4 p f).1;rw[this]
   by_cases q:avB bs vs c=0
   ·rw[if_pos q];exact .inl rfl
   ·rw[if_neg q];exact .inr rfl
  refine⟨?_,?_⟩
  ·have s5:=s4.imp (P':=Held pl vs) (F':=λ_ b'=>Held (mrg (plF nf c+2) yp np) (if avB bs vs c=0 then doL W bs ns vs else doL W bs ys vs) b') (λ_ p=>p) λb b5 p _ ⟨b4,f,⟨c1,c2⟩,_,k4⟩=>by
    obtain⟨e,hY,hN⟩:=key b b4 p f
    by_cases q:avB bs vs c=0
    ·rw[if_pos q] at e⊢
     exact uu3 (f0:=nf) (λi hi=>k4 i (by omega)) pn.lt hN (c2 e)
    ·rw[if_neg q] at e⊢
     exact uu2 (f0:=nf) (λi hi=>k4 i (by omega)) (λx hx=>B8 (py.lt x hx) wl) hY (c1 e)
   rw[u87] at s5;exact s5
  ·have hl:yp.length=np.length:=by rw[py.l1,pn.l1]
   refine⟨by show(mrg _ _ _).length=_;rw[ug6 hl];exact py.l1,?_,λx hx=>v84 (f0:=nf) (by omega) (λx hx=>B8 (py.lt x hx) wl) x hx⟩;split
   ·exact pn.l2
   ·exact py.l2
 | .tim k ys,a,pl,vs,fr,_,hn,_,_=>hn.elim
theorem w_ps{W:Nat}{bs:List Str}(hW1:1<=W)(hW:W<=16):∀(rs:List Rowp) {a:Nat} {pl vs:List Nat} {fr:Nat},okL W bs rs->ntL rs->Plc bs pl vs fr->StW W bs vs->WkP W bs a pl vs fr (wcL W bs rs a pl fr) (doL W bs rs vs)
 | [],a,pl,vs,fr,_,_,h,hs=>⟨Wk.of (Wv.nil (F:=λb b'=>Held pl vs b->Held pl vs b') λb p=>p) |>.imp (λ_ p=>p) λb b' p _ f=>f p,h⟩
 | r::rs,a,pl,vs,fr,hr,hn,h,hs=>by
  obtain⟨hr1,hr2⟩:okR W bs r/\okL W bs rs:=hr;obtain⟨hn1,hn2⟩:ntR r/\ntL rs:=hn;have h1:=w_pc hW1 hW r (a:=a) hr1 hn1 h hs
  show WkP W bs a pl vs fr ((wcR W bs r a pl fr).1++_,_,_,_) (doL W bs rs (doR W bs r vs))
  unfold WkP at h1;generalize wcR W bs r a pl fr=y at h1⊢;obtain⟨yr,yp,yf,yst⟩:=y;obtain⟨wy,py⟩:=h1;have wy:Wk a fr yf yr yst (Held pl vs) (λ_ b'=>Held yp (doR W bs r vs) b'):=wy;have py:Plc bs yp (doR W bs r vs) yf:=py;have h2:=w_ps hW1 hW rs (a:=a+yr.length) hr2 hn2 py (vb6 hW1 r hr1 hs)
  show WkP W bs a pl vs fr (yr++(wcL W bs rs (a+yr.length) yp yf).1,_,_,_) (doL W bs rs (doR W bs r vs))
  unfold WkP at h2;generalize wcL W bs rs (a+yr.length) yp yf=n at h2⊢;obtain⟨nr,np,nf,nst⟩:=n;obtain⟨wn,pn⟩:=h2;exact⟨(wy.seq wn λb b1 _ f _=>f).imp (λ_ p=>p) λb b' _ _ ⟨b1,_,f,_⟩=>f,pn⟩
end
theorem u_le:∀{ps qs:List Nat},(uY ps qs).length<=ps.length
 | [],qs=>by cases qs <;> exact B9 _
 | _::_,[]=>N4 _
 | p::ps,q::qs=>by
  have:=u_le (ps:=ps) (qs:=qs);unfold uY;split
  ·rw[C0];omega
  ·rw[C0,C0];omega
theorem w80{a ch:Nat}{ys ns:List Row}:(chR a ch ys ns).length=ys.length+ns.length+4:=by
 unfold chR;rw[B0,C0,C0,B0,B0]
 show ys.length+1+1+(ns.length+1+1)=_
 omega
def WkL(bs:List Str)(fr sz:Nat)(x:List Row×List Nat×Nat×Nat):Prop:=x.1.length<=22*sz/\x.2.2.1<=fr+9*sz/\fr<=x.2.2.1/\x.2.1.length=bs.length/\x.2.2.2<=22*sz
mutual
theorem vu4{W:Nat}{bs:List Str}(hW:W<=16)(hb:bs.length<=6):∀(r:Rowp) {a:Nat} {pl:List Nat} {fr:Nat},okR W bs r->ntR r->pl.length=bs.length->WkL bs fr (szR r) (wcR W bs r a pl fr)
 | .is x c,a,pl,fr,hr,_,hl=>by
  have la:=ua1 (fr:=fr) c;exact⟨by show(plR fr c).length<=22*1;omega,by show plF fr c<=fr+9*1;omega,la.1,by show(ptB bs pl x _).length=_;unfold ptB;rw[J0];exact hl,by show(plR fr c).length<=22*1;omega⟩
 | .op x o c d,a,pl,fr,hr,_,hl=>by
  obtain⟨hx,ho,_,_⟩:x∈bs/\o∈L3.signs/\okA W bs c/\okA W bs d:=hr;have la:=ua1 (fr:=fr) c;have lc:=ua1 (fr:=plF fr c) d;have sl:=vp6 (fr:=plF (plF fr c) d) (o:=o);have lg:=vp5 (W:=W) (x:=plB bs pl fr c) (y:=plB bs pl (plF fr c) d) (fr:=plF (plF fr c) d) hW ho;have hrl:(plR fr c++plR (plF fr c) d++sgR W (plB bs pl fr c) (plB bs pl (plF fr c) d) (plF (plF fr c) d) o).length<=22*1:=by rw[B0,B0];omega
  exact⟨hrl,by show sgF _ o<=fr+9*1;omega,by show fr<=sgF _ o;omega,by show(ptB bs pl x _).length=_;unfold ptB;rw[J0];exact hl,hrl⟩
 | .cho c ys ns,a,pl,fr,hr,hn,hl=>by
  obtain⟨_,hry,hrn⟩:okA W bs c/\okL W bs ys/\okL W bs ns:=hr;obtain⟨hny,hnn⟩:ntL ys/\ntL ns:=hn;have hy:=u81 hW hb ys (a:=a) (fr:=fr) hry hny hl
  show WkL bs fr (1+szL ys+szL ns) ((wcL W bs ys a pl fr).1++(wcL W bs ns (a+(wcL W bs ys a pl fr).1.length) pl (wcL W bs ys a pl fr).2.2.1).1++_++_++_,_,_,_)
  generalize wcL W bs ys a pl fr=y at hy⊢;obtain⟨yr,yp,yf,yst⟩:=y;obtain⟨y1,y2,y3,y4,y5⟩:yr.length<=22*szL ys/\yf<=fr+9*szL ys/\fr<=yf/\yp.length=bs.length/\yst<=22*szL ys:=hy;have hn2:=u81 hW hb ns (a:=a+yr.length) (fr:=yf) hrn hnn hl
  show WkL bs fr (1+szL ys+szL ns) (yr++(wcL W bs ns (a+yr.length) pl yf).1++_++_++_,_,_,_)
  generalize wcL W bs ns (a+yr.length) pl yf=n at hn2⊢;obtain⟨nr,np,nf,nst⟩:=n;obtain⟨n1,n2,n3,n4,n5⟩:nr.length<=22*szL ns/\nf<=yf+9*szL ns/\yf<=nf/\np.length=bs.length/\nst<=22*szL ns:=hn2;have hp:=ua1 (fr:=nf) c;have hu:=u_le (ps:=yp) (qs:=np);have hul:=uz5 (ps:=yp) (qs:=np);refine⟨?_,?_,?_,?_,?_⟩
  ·show(yr++nr++plR nf c++[_,_]++chR _ _ (tkR _ (uY yp np)) (tkR _ (uN yp np))).length<=_
   rw[B0,B0,B0,B0,w80,u87,u87]
   show yr.length+nr.length+(plR nf c).length+2+_<=_
   omega
  ·show plF nf c+2+(uY yp np).length<=_
   omega
  ·show fr<=plF nf c+2+(uY yp np).length
   omega
  ·show(mrg _ yp np).length=_
   rw[ug6 (by omega)];exact y4
  ·show yst+nst+(plR nf c).length+2+((uY yp np).length+3)<=_
   omega
 | .tim k ys,a,pl,fr,_,hn,_=>hn.elim
theorem u81{W:Nat}{bs:List Str}(hW:W<=16)(hb:bs.length<=6):∀(rs:List Rowp) {a:Nat} {pl:List Nat} {fr:Nat},okL W bs rs->ntL rs->pl.length=bs.length->WkL bs fr (szL rs) (wcL W bs rs a pl fr)
 | [],a,pl,fr,_,_,hl=>⟨N4 _,K0 _ _,B9 _,hl,N4 _⟩
 | r::rs,a,pl,fr,hr,hn,hl=>by
  obtain⟨hr1,hr2⟩:okR W bs r/\okL W bs rs:=hr;obtain⟨hn1,hn2⟩:ntR r/\ntL rs:=hn;have h1:=vu4 hW hb r (a:=a) (fr:=fr) hr1 hn1 hl
  show WkL bs fr (szR r+szL rs) ((wcR W bs r a pl fr).1++_,_,_,_)
  generalize wcR W bs r a pl fr=y at h1⊢;obtain⟨yr,yp,yf,yst⟩:=y;obtain⟨y1,y2,y3,y4,y5⟩:yr.length<=22*szR r/\yf<=fr+9*szR r/\fr<=yf/\yp.length=bs.length/\yst<=22*szR r:=h1;have h2:=u81 hW hb rs (a:=a+yr.length) (fr:=yf) hr2 hn2 y4
  show WkL bs fr (szR r+szL rs) (yr++(wcL W bs rs (a+yr.length) yp yf).1,_,_,_)
  generalize wcL W bs rs (a+yr.length) yp yf=n at h2⊢;obtain⟨nr,np,nf,nst⟩:=n;obtain⟨n1,n2,n3,n4,n5⟩:nr.length<=22*szL rs/\nf<=yf+9*szL rs/\yf<=nf/\np.length=bs.length/\nst<=22*szL rs:=h2;exact⟨by show(yr++nr).length<=_;rw[B0];omega,by show nf<=_;omega,by show fr<=nf;omega,n4,by show yst+nst<=_;omega⟩
end
end Rw
namespace L2
open PySem PySem.Spec PyProof.Rows
section
variable{X:Cx}{tg:Expr}
theorem us3:CallR X (.type "dict") (λxs H Q=>∃a kvs,xs=[.ref a]/\H a=some (.dK kvs)/\∀p,H p=none->Q (.ref p) (upd H p (.dK kvs))):=by
 intro pins s σ H xs us Q I r h;obtain⟨a,kvs,rfl,ha,q⟩:=h;obtain⟨u,rfl,rx⟩:=vals1 r;cases rx;exact vm3 I (.of ha) λp s' hp I'=>⟨.ref p,_,I',rfl,q p hp⟩
def wc8(td ty:TE):TE:=λσ H Q=>td σ H λx H1=>∃a,x=.ref a/\IsD H1 a/\ty σ H1 λy H2=>∃b k1 k2,y=.ref b/\a≠b/\H2 a=some (.dK k1)/\H2 b=some (.dK k2)/\k1.length+k2.length<=sizeLine/\Q .non (upd H2 a (.dK (uk7 k1 k2)))
theorem w27{o e:Expr}{apos cpos:Pos}{td ty:TE}(ho:PE X o td)(he:PE X e ty)(m:M1 X o "update" apos e cpos):PE X (.Call (.Attribute o "update" apos) [e] [] cpos) (wc8 td ty):=by
 intro pins s σ H Q I h
 (refine wpAny_Call_method m.base m.few m.line A55 A49 PySem.F.type_dict_update (thn (ho pins s σ H _ I h) ?_);rintro u s1 ⟨x,H1,I1,rx,a,ex,d,q1⟩)
 subst ex;obtain rfl:u=J4 a:=rx;obtain⟨t1,t2,_⟩:=vs8 I1 d;refine⟨t1,t2,?_⟩;rw[m.trees]
 (refine V6 rfl (A04 (R6 (thn (he pins s1 σ H1 _ I1 q1) ?_)));rintro iv s2 ⟨y,H2,I2,ry,b,k1,k2,ey,hab,ha,hb,hz,q2⟩;refine W7 ?_)
 subst ey;obtain rfl:iv=J4 b:=ry;obtain⟨z1,hd1,vs1,rel1,dd1⟩:=vm2 I2.hok ha;obtain⟨z2,hd2,vs2,rel2,dd2⟩:=vm2 I2.hok hb;refine B43 A49 dd1.typeIs PySem.F.entry_dict_update (PySem.F.args_dict_update_2 _ _) (meets_dict_update (u39 X.prog X.w) a b hab hd2) ⟨vs1,vs2,dd1,dd2,by rw[<- rel1.length,<- rel2.length];exact hz,λh' d1 d2 sb=>?_⟩;have he:∃q,h'.get? a=some q:=let ⟨q,_,_,hq,_⟩:=d1;⟨q,hq⟩;have hl:=uc9 k2 k1;exact⟨.non,_,un6 (t':=s2.toks) I2 (by rw[ha];exact Q3) sb he (vb8 (D4 hl hz) hd1 (rel2.merge rel1) d1),rfl,q2⟩
def Itd(a:Addr)(o:Obj)(kvs:List (Key×V)):It:=⟨λi H=>(∃ys,H a=some (.frz o (.dK ys))/\ys.map (·.1)=kvs.map (·.1))/\i<kvs.length,λi H v H'=>H'=H/\∃p,kvs[i]?=some p/\v=kV p.1,λi H=>(∃ys,H a=some (.frz o (.dK ys))/\ys.map (·.1)=kvs.map (·.1))/\kvs.length<=i⟩
theorem x24{P:Program}{w:World}{k:Key}{u:Value}(h:(u39 P w).is k u=true):RelV (kV k) u:=by
 rcases u42 h with⟨i,t,rfl,rfl⟩|⟨x,t,rfl,rfl⟩
 ·exact⟨t,rfl⟩
 ·exact⟨t,rfl⟩
theorem vs9{P:Program}{w:World}{H:Hp}{h:Heap}{a:Addr}{o:Obj}{kvs:List (Key×V)}{es:Array B54}{ep:Nat}(ok:HOk P w H h)(e:H a=some (.frz o (.dK kvs)))(hd:o.data=.dict es ep):(a==U8)=false/\∃vs,KV kvs vs/\h.DictAt (u39 P w) a vs ep:=by
 obtain⟨ho,z,hs,vs,rel,o',es',ep',ho',hc,hd',hk,hp,hn⟩:=(show ObjOk P w H h a (.frz o (.dK kvs)) from ok a _ e);rw[ho] at ho';cases ho';rw[hd] at hd';cases hd';exact⟨hs,vs,rel,o,es,ho,hc,hd,hk,hp,hn⟩
theorem v48{P:Program}{w:World}{K:W.Frag}(it a:Addr)(o:Obj)(kvs:List (Key×V)){es:Array B54}{ep:Nat}(hd:o.data=.dict es ep):Turn P w K tg (Itd a o kvs) [it] it (λi h=>h.IsKeyIter it a i kvs.length ep) where
 mem:=by simp
 obj:=λi h st b hb=>by
  have e:b=it:=by simpa using hb
  subst e;obtain⟨o,e,c,d⟩:=st;exact⟨o,e,λv z=>by rw[d] at z;cases z⟩
 keep:=λi h h' st k=>let ⟨o,e,r⟩:=st;⟨o,k it (by simp) o e,r⟩
 item:=by
  intro X hP hw hK hc i pins s σ H E I hf st hg;subst hP hw hK;obtain⟨f0,f1,f2,f3,f4,f5⟩:=hf it (by simp);obtain⟨⟨ys,hg1,hgk⟩,hg2⟩:(∃ys,H a=some (.frz o (.dK ys))/\ys.map (·.1)=kvs.map (·.1))/\i<kvs.length:=hg;obtain⟨_,vs,rel,at_⟩:=vs9 I.hok hg1 hd;have hlv:kvs.length=vs.length:=by
   have:=congrArg J1 hgk;rw[B5,B5] at this;rw[<- rel.length,this]
  have hk:=hgk.symm.trans rel.keys;obtain⟨p,hp⟩:∃p,vs[i]?=some p:=⟨_,B6 (by omega)⟩;have hkey:kvs[i]?.map (·.1)=some p.1:=by rw[<- F6,hk,F6,hp];rfl
  obtain⟨q,hq,hq2⟩:=E4.mp hkey;rw[hlv] at st;refine wpAny_pyNext_dict_item (k:=p.1) (v:=p.2) st at_ hp λkey h' hkk st' sb=>?_
  have I1:Inv X pins σ H { s with heap:=h'}:=I.turned (t':=s.toks) (λb o hb e=>(sb.2 b hb).trans e) f0 f1 f3 f4 f5
  obtain⟨o2,e,cc,d⟩:=id st';exact⟨_,rfl,vl7 (s:={ s with heap:=h'}) e cc d (by decide) ⟨kV p.1,H,I1,x24 hkk,⟨rfl,q,hq,by rw[hq2]⟩,by rw[hlv];exact st',λb hb=>(hf b hb).1⟩⟩
 done:=by
  intro X hP hw hK hc i pins s σ H E I hf st hg;subst hP hw hK;obtain⟨f0,f1,f2,f3,f4,f5⟩:=hf it (by simp);obtain⟨⟨ys,hg1,hgk⟩,hg2⟩:(∃ys,H a=some (.frz o (.dK ys))/\ys.map (·.1)=kvs.map (·.1))/\kvs.length<=i:=hg;obtain⟨_,vs,rel,at_⟩:=vs9 I.hok hg1 hd;have hlv:kvs.length=vs.length:=by
   have:=congrArg J1 hgk;rw[B5,B5] at this;rw[<- rel.length,this]
  rw[hlv] at st;exact wpAny_pyNext_dict_end (I.ok.hd hc) st at_ (K9 (by omega)) λh' eb=>⟨rfl,I.turned (t':=s.toks) (λb o hb e=>eb b o hb e) f0 f1 f3 f4 f5⟩
 self:=λ_ _ _ _ _ st h=>wpAny_pyIter_keyiter st h
def wq8(tl:TE):TI:=λσ H R=>tl σ H λv H1=>∃a kvs,v=.ref a/\H1 a=some (.dK kvs)/\∀o,R (Itd a o kvs) (upd H1 a (.frz o (.dK kvs)))
theorem vh7{l:Expr}{tl:TE}(hl:PE X l tl):PI X tg l (wq8 tl):=by
 intro pins s σ H R I h
 (refine thn (hl pins s σ H _ I h) ?_;rintro v s1 ⟨y,H1,I1,r1,q1⟩)
 obtain⟨a,kvs,rfl,ha,q⟩:=q1;obtain rfl:v=J4 a:=r1;obtain⟨z,hd,vs,rel,dd⟩:=vm2 I1.hok ha;obtain⟨o,es,ep,ho,hc,hdat,hk,hp,hn⟩:=id dd;have I2:Inv X pins σ (upd H1 a (.frz o (.dK kvs))) { s1 with heap:=s1.heap,toks:=s1.toks}:=un6 I1 (by rw[ha];exact Q3) (C55 _ _) ⟨o,ho⟩ ⟨ho,z,hd,vs,rel,dd⟩
 have fp:∀b∈[s1.heap.objs.size],FpOk X pins (upd H1 a (.frz o (.dK kvs))) b:=λb hb=>by
  have e:b=s1.heap.objs.size:=by simpa using hb
  subst e;exact I2.fpOk (B9 _) (I2.hok.fresh (B9 _))
 refine wpAny_pyIter_dict hd (kvs:=vs) (ep:=ep) ⟨o,es,ho,hc,hdat,hk,hp,hn⟩ ?_;refine⟨s1.heap.objs.size,[s1.heap.objs.size],_,_,_,rfl,I2.kept (t':=s1.toks) λb o e=>B7 _ e,v48 (s1.heap.objs.size) a o kvs hdat,?_,fp,q o⟩;rw[rel.length];exact⟨_,D8 _ rfl,rfl,rfl⟩
end
end L2
namespace L3
open PySem PySem.Spec PyProof.Rows L2
section
variable{X:Cx}{K:W.Frag}{G:Gp}{H:Hp}{tg e:Expr}{te:TE3}
@[reducible] def vt9:C3:=λds G q=>∃a kvs,ds=[.ref a]/\G a=some (.dic kvs)/\∀p,G p=none->q (.ref p) (gup G p (.dic kvs))
theorem uv6:Call3 X (.type "dict") vt9:=u56 us3 <| by
 rintro xs H Q ⟨ds,G,q,r,c,⟨a,kvs,rfl,ha,t⟩,f⟩;obtain⟨v,rfl,rv⟩:=r.one;cases rv.ref_inv;obtain⟨ys,e,rp⟩:=c a _ ha;exact⟨a,ys,rfl,e,λp hp=>f (.ref p) _ (.ref p) _ RelD.refI (c.put (o:=.dic kvs) (Le.fresh hp) ⟨_,u30,rp.le (Le.fresh hp)⟩) (Le.fresh hp) (t p (c.fresh hp))⟩
def uk8(kvs more:List (Key×D)):List (Key×D):=more.foldl (λacc kv=>uc7 acc kv.1 kv.2) kvs
theorem uq8:∀{more:List (Key×D)} {ms:List (Key×V)} {kvs:List (Key×D)} {ys:List (Key×V)},RelPs K H more ms->RelPs K H kvs ys->RelPs K H (uk8 kvs more) (uk7 ys ms)
 | [],ms,kvs,ys,h,k=>by
  have:ms=[]:=by have:=congrArg J1 h.1;simpa using this.symm
  subst this;exact k
 | p::more,[],kvs,ys,h,k=>by have:=congrArg J1 h.1;simp at this
 | p::more,m::ms,kvs,ys,h,k=>by
  obtain⟨h1,h2⟩:=h;rw[C8,C8] at h1 h2;obtain⟨v,vs,e,r1,r2⟩:=h2.inv_cons;injection e with e1 e2
  injection h1 with h3 h4
  have kk:RelPs K H (uc7 kvs p.1 p.2) (putK ys m.1 m.2):=by rw[<- h3];exact um7 (by rw[e1];exact r1) k
  exact uq8 (more:=more) (ms:=ms) ⟨h4,by rw[e2];exact r2⟩ kk
def dUpd(td ty:TE3):TE3:=λσ G q=>td σ G λx G1=>(∃a kvs,x=.ref a/\G1 a=some (.dic kvs))/\ty σ G1 λy G2=>∃a b k1 k2,x=.ref a/\y=.ref b/\a≠b/\G2 a=some (.dic k1)/\G2 b=some (.dic k2)/\k1.length+k2.length<=sizeLine/\q .non (gup G2 a (.dic (uk8 k1 k2)))
theorem v67{κ:Type}{kvs:List (κ×D)}{ys:List (κ×V)}(rp:RelPs K H kvs ys):ys.length=kvs.length:=by
 have:=congrArg J1 rp.1;rw[B5,B5] at this;exact this.symm
theorem w40{td ty:TE3}{σ:L2.St}{Q:VK}(h:lowE K (dUpd td ty) σ H Q):wc8 (lowE K td) (lowE K ty) σ H Q:=by
 obtain⟨σd,G,q,rs,c,t,f⟩:=h;refine⟨σd,G,_,rs,c,t,λx G1 v H1 r1 c1 l1 t1=>?_⟩;obtain⟨⟨a,kvs,rfl,ha⟩,t1⟩:=t1;obtain⟨ys,e,rp⟩:=c1 a _ ha;refine⟨a,r1.ref_inv,.inl ⟨ys,.of e⟩,σd,G1,_,rs.le l1,c1,t1,λy G2 u H2 r2 c2 l2 t2=>?_⟩;obtain⟨a',b,k1,k2,e1,rfl,hab,h1,h2,hz,t3⟩:=t2;cases e1;cases r2.ref_inv;obtain⟨y1,e1,p1⟩:=c2 a _ h1;obtain⟨y2,e2,p2⟩:=c2 b _ h2;have l3:Le H2 (upd H2 a (.dK (uk7 y1 y2))):=Le.dK e1;exact⟨b,y1,y2,rfl,hab,e1,e2,by rw[v67 p1,v67 p2];exact hz,f _ _ _ _ RelD.nonI (c2.put (o:=.dic (uk8 k1 k2)) l3 ⟨_,u30,(uq8 p2 p1).le l3⟩) (l1.trans (l2.trans l3)) t3⟩
theorem x27{o:Expr}{apos cpos:Pos}{to:TE3}(ho:E3 X o to)(he:E3 X e te)(hbase:L9 o "update" X.env (eval o X.env)=eval o X.env:=by rfl)
  (hfew:((backTo cpos (C5 [e] X.env)).all (λx=>!x.1)&&(Q5 cpos (M5 [] X.env)).all (λx=>x.1.isSome)
   && decide (([e]:List Expr).length+([]:List Keyword).length+(if([]:List Keyword).isEmpty then 0 else 1)<30))=true:=by rfl)
  (hline:(apos.endLine==cpos.line)=true:=by rfl) (htr:C5 [e] X.env=[(false,eval e X.env)]:=by rfl):E3 X (.Call (.Attribute o "update" apos) [e] [] cpos) (dUpd to te) :=
 u51 (w27 ho he ⟨hbase,hfew,hline,by rw[htr];rfl⟩) λ_ _ _=>w40
theorem Le.frz{a:Addr}{o:Obj}{ys:List (Key×V)}(h:H a=some (.dK ys)):Le H (upd H a (.frz o (.dK ys))) :=
 ⟨λb zs q=>by
  by_cases e:b=a
  ·subst e;rw[h] at q;cases q
  ·rw[u22 e];exact q,λb o u q=>by
  by_cases e:b=a
  ·subst e;rw[h] at q;cases q
  ·rw[u22 e];exact q⟩
theorem v22{H0:Hp}{a:Addr}{o:Obj}{kvs:List (Key×D)}{ys:List (Key×V)}(hk:kvs.map (·.1)=ys.map (·.1)):ItRel K H0 ⟨kvs.map λkv=>kD kv.1,λG=>G a=some (.frd o kvs)⟩ (Itd a o ys) where
 go:=λi G H l c hG hi=>by
  obtain⟨zs,z1,z2⟩:=c a _ hG;have hi:i<(kvs.map λkv=>kD kv.1).length:=hi;have hl:=congrArg J1 hk;rw[B5,B5] at hl;rw[B5] at hi;exact⟨⟨zs,z1,z2.1.symm.trans hk⟩,by omega⟩
 stop:=λi G H l c hG hi=>by
  obtain⟨zs,z1,z2⟩:=c a _ hG;have hi:(kvs.map λkv=>kD kv.1).length<=i:=hi;have hl:=congrArg J1 hk;rw[B5,B5] at hl;rw[B5] at hi;exact⟨⟨zs,z1,z2.1.symm.trans hk⟩,by omega⟩
 yld:=λi G H v H' l c _ hi y=>by
  obtain⟨rfl,p,hp,rfl⟩:=y;refine⟨c,Le.refl _,kD p.1,?_,?_⟩
  ·show(kvs.map λkv=>kD kv.1)[i]?=_
   have e:(kvs.map (·.1))[i]?=some p.1:=by rw[hk,F6,hp];rfl
   rw[F6] at e⊢;obtain⟨w,hw,hw2⟩:=E4.mp e;rw[hw];show some (kD w.1)=_;rw[hw2]
  ·cases p.1 with
   | inl i=>show RelD K _ (.int i) (.int i);rw[RelD]
   | inr x=>show RelD K _ (.str x) (.str x);rw[RelD]
def vo8(te:TE3):TI3:=λσ G r=>te σ G λd G1=>∃a kvs,d=.ref a/\G1 a=some (.dic kvs)/\∀o,r ⟨kvs.map λkv=>kD kv.1,λG=>G a=some (.frd o kvs)⟩ (gup G1 a (.frd o kvs))
theorem w58(h:E3 X e te):I3 X tg e (vo8 te):=v41 (vh7 h) λσ H R hh=>by
 obtain⟨σd,G,q,rs,c,t,f⟩:=hh;refine⟨σd,G,_,rs,c,t,λd G1 v H1 r1 c1 l1 t1=>?_⟩;obtain⟨a,kvs,rfl,ha,t2⟩:=t1;obtain⟨ys,e,rp⟩:=c1 a _ ha;refine⟨a,ys,r1.ref_inv,e,λo=>f _ _ _ _ (v22 rp.1) (c1.put (o:=.frd o kvs) (Le.frz e) ⟨ys,u30,rp.le (Le.frz e)⟩) (l1.trans (Le.frz e)) (t2 o)⟩
def vm4(td ti:TE3):TE3:=λσ G q=>td σ G λx G1=>ti σ G1 λy G2=>∃a o kvs k d,x=.ref a/\y=kD k/\G2 a=some (.frd o kvs)/\valK kvs k=some d/\q d G2
theorem vk3{td ti:TE3}{σ:L2.St}{Q:VK}(h:lowE K (vm4 td ti) σ H Q):vv1 (lowE K td) (lowE K ti) σ H Q:=by
 obtain⟨σd,G,q,rs,c,t,f⟩:=h;refine⟨σd,G,_,rs,c,t,λx G1 v H1 r1 c1 l1 t1=>⟨σd,G1,_,rs.le l1,c1,t1,λy G2 u H2 r2 c2 l2 t2=>?_⟩⟩;obtain⟨a,o,kvs,k,d,rfl,rfl,hg,hv,t3⟩:=t2;have r1':=RelD.le l2 r1;cases r1'.ref_inv;obtain rfl:=uy2 r2;obtain⟨ys,e,rp⟩:=c2 a _ hg
 rcases uf4 (k:=k) rp with⟨z,_⟩|⟨d',w,z1,z2,z3⟩
 ·rw[hv] at z;cases z
 ·rw[hv] at z1;cases z1
  exact⟨a,w,rfl,.inl ⟨ys,k,.inr ⟨o,e⟩,rfl,z2.symm⟩,f _ _ _ _ z3 c2 (l1.trans l2) t3⟩
theorem vb3{k:Nat}{o i:Expr}{pos:Pos}{to ti:TE3}(hr:Room k X.A)(ho:E3 X o to)(hi:E3 X i ti)(hs:NoSl i:=by exact λ_ _=>rfl):E3 X (.Subscript o i pos) (vm4 to ti) :=
 u51 (v75 (vl4 hr) ho hi hs) λ_ _ _=>vk3
end
end L3
namespace Law
open PySem L2 L3
def top(i:Nat):Stmt:=A09.main.body.getD i (.Pass ⟨0,0,0,0⟩)
abbrev w02:Stmt:=inClass (top 3) 0
abbrev w03:Stmt:=inClass (top 3) 1
abbrev w01:Stmt:=inClass (top 3) 2
abbrev w00:Stmt:=inClass (top 3) 3
abbrev vz9:Stmt:=inClass (top 3) 4
abbrev vf8:Stmt:=top 4
abbrev vw4:Stmt:=top 5
abbrev v04:Stmt:=top 6
abbrev vx1:Stmt:=top 7
abbrev vw3:Stmt:=top 8
abbrev vw7:Stmt:=top 9
abbrev vy8:Stmt:=top 10
abbrev w04:Stmt:=top 11
abbrev vg5:Stmt:=top 12
abbrev vz2:Stmt:=top 13
abbrev vz1:Stmt:=top 14
abbrev vw8:Stmt:=top 15
abbrev vw9:Stmt:=top 16
abbrev vz3:Stmt:=top 17
abbrev vw6:Stmt:=top 18
abbrev vy9:Stmt:=top 25
abbrev vg4:Stmt:=top 26
abbrev vg6:Stmt:=top 27
abbrev vx3:Stmt:=top 28
abbrev v05:Stmt:=top 29
abbrev vy5:Stmt:=top 30
abbrev vy7:Stmt:=top 31
abbrev v06:Stmt:=inClass (top 33) 0
abbrev vz4:Stmt:=inClass (top 33) 1
abbrev vz7:Stmt:=inClass (top 33) 2
abbrev vz6:Stmt:=inClass (top 33) 3
abbrev vz8:Stmt:=inClass (top 33) 5
abbrev vz5:Stmt:=inClass (top 33) 7
abbrev vy6:Stmt:=top 34
abbrev vz0:Stmt:=top 35
abbrev vx2:Stmt:=top 36
abbrev vw5:Stmt:=top 37
abbrev vx0:Stmt:=top 38
abbrev vw2:Stmt:=top 39
abbrev vy2:Stmt:=top 41
abbrev v58:Stmt:=top 42
abbrev vx9:Stmt:=top 43
abbrev vy4:Stmt:=top 44
abbrev vx7:Stmt:=top 45
abbrev vx5:Stmt:=top 46
abbrev vx6:Stmt:=top 47
abbrev vg1:Stmt:=top 48
abbrev vy3:Stmt:=top 49
abbrev vg2:Stmt:=top 50
abbrev vf9:Stmt:=top 51
abbrev vx4:Stmt:=top 52
abbrev vx8:Stmt:=top 53
abbrev vy1:Stmt:=top 54
abbrev vg3:Stmt:=top 55
abbrev vg0:Stmt:=top 56
abbrev v60:Stmt:=top 57
abbrev v59:Stmt:=top 58
abbrev vy0:Stmt:=top 59
abbrev vw1:Stmt:=top 60
local macro_rules | `(tactic| ac_nf)=>`(tactic| exact ⟨rfl,rfl,rfl,by decide,rfl,by decide,by decide⟩)
theorem vr7:FnScope ["self", "wide", "fresh"] ["self", "wide", "fresh"] (u04 w02):=by ac_nf
theorem vr8:FnScope ["self"] ["self"] (u04 w03):=by ac_nf
theorem vr6:FnScope ["self", "rows"] ["self", "rows"] (u04 w01):=by ac_nf
theorem vr5:FnScope ["self", "chosen", "yes", "no"] ["self", "chosen", "yes", "no"] (u04 w00):=by ac_nf
theorem sc_jae:FnScope ["self", "box", "number", "rows", "start"] ["self", "box", "number", "rows"] (u04 vz9):=by ac_nf
theorem sc_jch:FnScope ["pieces", "boxes", "wide", "places", "fresh", "loom", "where"] ["pieces", "boxes", "wide", "places", "fresh"] (u04 vf8):=by ac_nf
theorem sc_jck:FnScope ["rows", "where", "loom", "row", "first", "second"] ["rows", "where", "loom"] (u04 vw4):=by ac_nf
theorem sc_jci:FnScope ["row", "where", "loom", "yes", "no", "chosen", "unlike", "name"] ["row", "where", "loom"] (u04 v04):=by ac_nf
theorem sc_jby:FnScope ["atom", "where", "loom", "box"] ["atom", "where", "loom"] (u04 vx1):=by ac_nf
theorem vp8:FnScope ["sign", "first", "second", "loom"] ["sign", "first", "second", "loom"] (u04 vw3):=by ac_nf
theorem sc_jce:FnScope ["first", "second", "loom", "box", "over"] ["first", "second", "loom"] (u04 vw7):=by ac_nf
theorem sc_jat:FnScope ["first", "second", "loom", "box", "over"] ["first", "second", "loom"] (u04 vy8):=by ac_nf
theorem sc_gap:FnScope ["first", "second", "loom", "box"] ["first", "second", "loom"] (u04 w04):=by ac_nf
theorem sc_jao:FnScope ["first", "second", "loom", "box"] ["first", "second", "loom"] (u04 vg5):=by ac_nf
theorem vr0:FnScope ["first", "second", "loom"] ["first", "second", "loom"] (u04 vz2):=by ac_nf
theorem vq9:FnScope ["first", "second", "loom"] ["first", "second", "loom"] (u04 vz1):=by ac_nf
theorem sc_jcd:FnScope ["first", "second", "count", "loom", "both", "box"] ["first", "second", "count", "loom"] (u04 vw8):=by ac_nf
theorem sc_jcc:FnScope ["first", "second", "loom", "apart", "box"] ["first", "second", "loom"] (u04 vw9):=by ac_nf
theorem sc_jal:FnScope ["first", "second", "loom", "apart", "other_way", "box"] ["first", "second", "loom"] (u04 vz3):=by ac_nf
theorem sc_jcf:FnScope ["asked", "loom", "below", "box"] ["asked", "loom"] (u04 vw6):=by ac_nf
theorem sc_jas:FnScope ["code", "at", "row"] ["code"] (u04 vy9):=by ac_nf
theorem vq8:FnScope ["row"] ["row"] (u04 vg4):=by ac_nf
theorem vr1:FnScope ["row"] ["row"] (u04 vg6):=by ac_nf
theorem vq0:FnScope ["row"] ["row"] (u04 vx3):=by ac_nf
theorem vq5:FnScope ["row", "size"] ["row", "size"] (u04 v05):=by ac_nf
theorem vq6:FnScope ["row"] ["row"] (u04 vy5):=by ac_nf
theorem sc_jav:FnScope ["row", "at", "rows", "fellow"] ["row", "at", "rows"] (u04 vy7):=by ac_nf
theorem wd4:FnScope ["self", "code", "boxes", "place"] ["self", "code", "boxes", "place"] (u04 v06):=by ac_nf
theorem vr2:FnScope ["self"] ["self"] (u04 vz4):=by ac_nf
theorem vr3:FnScope ["self"] ["self"] (u04 vz7):=by ac_nf
theorem sc_jah:FnScope ["self", "row"] ["self"] (u04 vz6):=by ac_nf
theorem vr4:FnScope ["self"] ["self"] (u04 vz8):=by ac_nf
theorem sc_jaj:FnScope ["self", "row"] ["self"] (u04 vz5):=by ac_nf
theorem vq7:FnScope ["row", "held"] ["row", "held"] (u04 vy6):=by ac_nf
theorem sc_jar:FnScope ["row", "held", "way", "first"] ["row", "held", "way"] (u04 vz0):=by ac_nf
theorem vp9:FnScope ["operand", "held"] ["operand", "held"] (u04 vx2):=by ac_nf
theorem sc_jcg:FnScope ["row", "held", "cond"] ["row", "held"] (u04 vw5):=by ac_nf
theorem sc_jcb:FnScope ["code", "boxes", "most", "ride", "steps", "word"] ["code", "boxes", "most"] (u04 vx0):=by ac_nf
theorem vp7:FnScope ["there", "there_word", "may_go_on"] ["there", "there_word", "may_go_on"] (u04 vw2):=by ac_nf
theorem sc_jbd:FnScope ["_law_state", "_law_many", "_law_script", "_law_k", "_law_rest", "_law_cell", "_law_number_here", "_law_digit"] ["_law_state", "_law_many"] (u04 vy2):=by ac_nf
theorem sc_jbj:FnScope ["_law_state", "_law_many", "_law_letters", "_law_names_here", "_law_k", "_law_name", "_law_begin", "_law_j", "_law_words", "_law_first"] ["_law_state", "_law_many"] (u04 v58):=by ac_nf
theorem sc_jbk:FnScope ["_law_state", "_law_wide", "_law_form"] ["_law_state", "_law_wide"] (u04 vx9):=by ac_nf
theorem vq4:FnScope ["_law_state", "_law_names_here", "_law_wide"] ["_law_state", "_law_names_here", "_law_wide"] (u04 vy4):=by ac_nf
theorem sc_jbm:FnScope ["_law_state", "_law_names_here", "_law_wide", "_law_deep", "_law_room", "_law_form", "_law_x", "_law_one", "_law_sign", "_law_left", "_law_much", "_law_yes"] ["_law_state", "_law_names_here", "_law_wide", "_law_deep", "_law_room"] (u04 vx7):=by ac_nf
theorem sc_jbt:FnScope ["_law_rows", "_law_total", "_law_row"] ["_law_rows"] (u04 vx5):=by ac_nf
theorem sc_jbo:FnScope ["_law_state", "_law_names_here", "_law_wide", "_law_deep", "_law_room", "_law_rows", "_law_k", "_law_left"] ["_law_state", "_law_names_here", "_law_wide", "_law_deep", "_law_room"] (u04 vx6):=by ac_nf
theorem sc_jbq:FnScope ["_law_state", "_law_many", "_law_fresh", "_law_left"] ["_law_state", "_law_many"] (u04 vg1):=by ac_nf
theorem vq3:FnScope ["_law_state"] ["_law_state"] (u04 vy3):=by ac_nf
theorem sc_jbc:FnScope ["_law_state", "_law_places_here", "_law_values_here", "_law_fresh", "_law_boxes_here", "_law_spot", "_law_value"] ["_law_state", "_law_places_here", "_law_values_here", "_law_fresh"] (u04 vg2):=by ac_nf
theorem vq2:FnScope ["_law_state", "_law_names_here", "_law_wide"] ["_law_state", "_law_names_here", "_law_wide"] (u04 vf9):=by ac_nf
theorem vq1:FnScope ["_law_number_here"] ["_law_number_here"] (u04 vx4):=by ac_nf
theorem sc_jbl:FnScope ["_law_sign", "_law_one", "_law_other", "_law_wide", "_law_top"] ["_law_sign", "_law_one", "_law_other", "_law_wide"] (u04 vx8):=by ac_nf
theorem sc_jbe:FnScope ["_law_rows", "_law_held", "_law_wide", "_law_row", "_law_k"] ["_law_rows", "_law_held", "_law_wide"] (u04 vy1):=by ac_nf
theorem sc_jba:FnScope ["_law_rows", "_law_names_here", "_law_wide", "_law_values_here", "_law_held"] ["_law_rows", "_law_names_here", "_law_wide", "_law_values_here"] (u04 vg3):=by ac_nf
theorem sc_jbr:FnScope ["_law_told", "_law_boxes_here", "_law_places_here", "_law_fresh", "_law_due", "_law_rows", "_law_spots", "_law_after", "_law_wanted", "_law_word", "_law_place", "_law_found", "_law_many"] ["_law_told", "_law_boxes_here", "_law_places_here", "_law_fresh", "_law_due"] (u04 vg0):=by ac_nf
theorem sc_jbg:FnScope ["_law_row", "_law_parts", "_law_cond"] ["_law_row"] (u04 v60):=by ac_nf
theorem sc_jbh:FnScope ["_law_told", "_law_fresh", "_law_heavy", "_law_many", "_law_rows", "_law_spots", "_law_after", "_law_wanted"] ["_law_told", "_law_fresh", "_law_heavy", "_law_many"] (u04 v59):=by ac_nf
theorem sc_jbi:FnScope ["_law_state", "_law_names_here", "_law_wide", "_law_some", "_law_k", "_law_x", "_law_one"] ["_law_state", "_law_names_here", "_law_wide"] (u04 vy0):=by ac_nf
theorem sc_law:FnScope ["_law_script", "_law_state", "_law_wide", "_law_names_here", "_law_room", "_law_some", "_law_places_here", "_law_fresh", "_law_alike", "_law_handed", "_law_told", "_law_k", "_law_values_here", "_law_boxes_here", "_law_again"] ["_law_script"] (u04 vw1):=by ac_nf
abbrev u17:Addr:=66
set_option genInjectivity false in
set_option genSizeOf false in
structure C_Loom(K:W.Frag)(mg:Str->Option Value) where
 cl:Cls K u17
 m:mg "Loom" = some (.ref u17)
 n_wide:NoAttr K u17 "wide"
 n_fresh:NoAttr K u17 "fresh"
 n_rows:NoAttr K u17 "rows"
 n_steps:NoAttr K u17 "steps"
abbrev u35:Addr:=318
set_option genInjectivity false in
set_option genSizeOf false in
structure C_Ride(K:W.Frag)(mg:Str->Option Value) where
 cl:Cls K u35
 m:mg "Ride" = some (.ref u35)
 n_rows:NoAttr K u35 "rows"
 n_held:NoAttr K u35 "held"
 n_spot:NoAttr K u35 "spot"
set_option genInjectivity false in
set_option genSizeOf false in
structure Txt(K:W.Frag)(mg:Str->Option Value) where
 f_jab:FnAt K "__init__" "Loom.__init__" w02 ["self", "wide", "fresh"]
 f_jaa:FnAt K "fresh_box" "Loom.fresh_box" w03 ["self"]
 f_jac:FnAt K "put" "Loom.put" w01 ["self", "rows"]
 f_jad:FnAt K "put_by_choice" "Loom.put_by_choice" w00 ["self", "chosen", "yes", "no"]
 f_jae:FnAt K "put_unless" "Loom.put_unless" vz9 ["self", "box", "number", "rows"]
 f_jch:FnAt K "weave" "weave" vf8 ["pieces", "boxes", "wide", "places", "fresh"]
 g_weave:mg "weave" = some (.ref f_jch.a)
 f_jck:FnAt K "weave_rows" "weave_rows" vw4 ["rows", "where", "loom"]
 g_weave_rows:mg "weave_rows" = some (.ref f_jck.a)
 f_jci:FnAt K "weave_choose" "weave_choose" v04 ["row", "where", "loom"]
 g_weave_choose:mg "weave_choose" = some (.ref f_jci.a)
 f_jby:FnAt K "place_of" "place_of" vx1 ["atom", "where", "loom"]
 g_place_of:mg "place_of" = some (.ref f_jby.a)
 f_jcm:FnAt K "weave_sign" "weave_sign" vw3 ["sign", "first", "second", "loom"]
 g_weave_sign:mg "weave_sign" = some (.ref f_jcm.a)
 f_jce:FnAt K "total" "total" vw7 ["first", "second", "loom"]
 g_total:mg "total" = some (.ref f_jce.a)
 f_jat:FnAt K "difference" "difference" vy8 ["first", "second", "loom"]
 g_difference:mg "difference" = some (.ref f_jat.a)
 f_gap:FnAt K "gap" "gap" w04 ["first", "second", "loom"]
 g_gap:mg "gap" = some (.ref f_gap.a)
 f_jao:FnAt K "bits_of_both" "bits_of_both" vg5 ["first", "second", "loom"]
 g_bits_of_both:mg "bits_of_both" = some (.ref f_jao.a)
 f_jan:FnAt K "bits_of_any" "bits_of_any" vz2 ["first", "second", "loom"]
 g_bits_of_any:mg "bits_of_any" = some (.ref f_jan.a)
 f_jap:FnAt K "bits_of_one" "bits_of_one" vz1 ["first", "second", "loom"]
 g_bits_of_one:mg "bits_of_one" = some (.ref f_jap.a)
 f_jcd:FnAt K "sum_without_both" "sum_without_both" vw8 ["first", "second", "count", "loom"]
 g_sum_without_both:mg "sum_without_both" = some (.ref f_jcd.a)
 f_jcc:FnAt K "smaller" "smaller" vw9 ["first", "second", "loom"]
 g_smaller:mg "smaller" = some (.ref f_jcc.a)
 f_jal:FnAt K "alike" "alike" vz3 ["first", "second", "loom"]
 g_alike:mg "alike" = some (.ref f_jal.a)
 f_jcf:FnAt K "truth" "truth" vw6 ["asked", "loom"]
 g_truth:mg "truth" = some (.ref f_jcf.a)
 f_jas:FnAt K "check_code" "check_code" vy9 ["code"]
 g_check_code:mg "check_code" = some (.ref f_jas.a)
 f_jaq:FnAt K "boxes_read" "boxes_read" vg4 ["row"]
 g_boxes_read:mg "boxes_read" = some (.ref f_jaq.a)
 f_jam:FnAt K "bits_of" "bits_of" vg6 ["row"]
 g_bits_of:mg "bits_of" = some (.ref f_jam.a)
 f_jbw:FnAt K "numbers_of" "numbers_of" vx3 ["row"]
 g_numbers_of:mg "numbers_of" = some (.ref f_jbw.a)
 f_jay:FnAt K "is_within" "is_within" v05 ["row", "size"]
 g_is_within:mg "is_within" = some (.ref f_jay.a)
 f_jax:FnAt K "is_apart" "is_apart" vy5 ["row"]
 g_is_apart:mg "is_apart" = some (.ref f_jax.a)
 f_jav:FnAt K "has_fellow" "has_fellow" vy7 ["row", "at", "rows"]
 g_has_fellow:mg "has_fellow" = some (.ref f_jav.a)
 f_jai:FnAt K "__init__" "Ride.__init__" v06 ["self", "code", "boxes", "place"]
 f_jak:FnAt K "place" "Ride.place" vz4 ["self"]
 f_jag:FnAt K "boxes" "Ride.boxes" vz7 ["self"]
 f_jah:FnAt K "forth" "Ride.forth" vz6 ["self"]
 f_jaf:FnAt K "at_end" "Ride.at_end" vz8 ["self"]
 f_jaj:FnAt K "may_forth" "Ride.may_forth" vz5 ["self"]
 f_jaw:FnAt K "holds" "holds" vy6 ["row", "held"]
 g_holds:mg "holds" = some (.ref f_jaw.a)
 f_jar:FnAt K "change" "change" vz0 ["row", "held", "way"]
 g_change:mg "change" = some (.ref f_jar.a)
 f_jbx:FnAt K "operand_value" "operand_value" vx2 ["operand", "held"]
 g_operand_value:mg "operand_value" = some (.ref f_jbx.a)
 f_jcg:FnAt K "turn_bit" "turn_bit" vw5 ["row", "held"]
 g_turn_bit:mg "turn_bit" = some (.ref f_jcg.a)
 f_jcb:FnAt K "run_forth" "run_forth" vx0 ["code", "boxes", "most"]
 g_run_forth:mg "run_forth" = some (.ref f_jcb.a)
 f_jcn:FnAt K "word_of" "word_of" vw2 ["there", "there_word", "may_go_on"]
 g_word_of:mg "word_of" = some (.ref f_jcn.a)
 f_jbd:FnAt K "_law_draw" "_law_draw" vy2 ["_law_state", "_law_many"]
 g_law_draw:mg "_law_draw" = some (.ref f_jbd.a)
 f_jbj:FnAt K "_law_names" "_law_names" v58 ["_law_state", "_law_many"]
 g_law_names:mg "_law_names" = some (.ref f_jbj.a)
 f_jbk:FnAt K "_law_number" "_law_number" vx9 ["_law_state", "_law_wide"]
 g_law_number:mg "_law_number" = some (.ref f_jbk.a)
 f_jaz:FnAt K "_law_atom" "_law_atom" vy4 ["_law_state", "_law_names_here", "_law_wide"]
 g_law_atom:mg "_law_atom" = some (.ref f_jaz.a)
 f_jbm:FnAt K "_law_piece" "_law_piece" vx7 ["_law_state", "_law_names_here", "_law_wide", "_law_deep", "_law_room"]
 g_law_piece:mg "_law_piece" = some (.ref f_jbm.a)
 f_jbt:FnAt K "_law_weight" "_law_weight" vx5 ["_law_rows"]
 g_law_weight:mg "_law_weight" = some (.ref f_jbt.a)
 f_jbo:FnAt K "_law_pieces" "_law_pieces" vx6 ["_law_state", "_law_names_here", "_law_wide", "_law_deep", "_law_room"]
 g_law_pieces:mg "_law_pieces" = some (.ref f_jbo.a)
 f_jbq:FnAt K "_law_places" "_law_places" vg1 ["_law_state", "_law_many"]
 g_law_places:mg "_law_places" = some (.ref f_jbq.a)
 f_jbb:FnAt K "_law_big" "_law_big" vy3 ["_law_state"]
 g_law_big:mg "_law_big" = some (.ref f_jbb.a)
 f_jbc:FnAt K "_law_boxes" "_law_boxes" vg2 ["_law_state", "_law_places_here", "_law_values_here", "_law_fresh"]
 g_law_boxes:mg "_law_boxes" = some (.ref f_jbc.a)
 f_jbs:FnAt K "_law_values" "_law_values" vf9 ["_law_state", "_law_names_here", "_law_wide"]
 g_law_values:mg "_law_values" = some (.ref f_jbs.a)
 f_jbv:FnAt K "_law_whole" "_law_whole" vx4 ["_law_number_here"]
 g_law_whole:mg "_law_whole" = some (.ref f_jbv.a)
 f_jbl:FnAt K "_law_op" "_law_op" vx8 ["_law_sign", "_law_one", "_law_other", "_law_wide"]
 g_law_op:mg "_law_op" = some (.ref f_jbl.a)
 f_jbe:FnAt K "_law_go" "_law_go" vy1 ["_law_rows", "_law_held", "_law_wide"]
 g_law_go:mg "_law_go" = some (.ref f_jbe.a)
 f_jba:FnAt K "_law_behind" "_law_behind" vg3 ["_law_rows", "_law_names_here", "_law_wide", "_law_values_here"]
 g_law_behind:mg "_law_behind" = some (.ref f_jba.a)
 f_jbr:FnAt K "_law_run" "_law_run" vg0 ["_law_told", "_law_boxes_here", "_law_places_here", "_law_fresh", "_law_due"]
 g_law_run:mg "_law_run" = some (.ref f_jbr.a)
 f_jbg:FnAt K "_law_is_row" "_law_is_row" v60 ["_law_row"]
 g_law_is_row:mg "_law_is_row" = some (.ref f_jbg.a)
 f_jbh:FnAt K "_law_is_told" "_law_is_told" v59 ["_law_told", "_law_fresh", "_law_heavy", "_law_many"]
 g_law_is_told:mg "_law_is_told" = some (.ref f_jbh.a)
 f_jbi:FnAt K "_law_many_pieces" "_law_many_pieces" vy0 ["_law_state", "_law_names_here", "_law_wide"]
 g_law_many_pieces:mg "_law_many_pieces" = some (.ref f_jbi.a)
 f_law:FnAt K "law" "law" vw1 ["_law_script"]
 g_law:mg "law" = some (.ref f_law.a)
 c_Loom:C_Loom K mg
 c_Ride:C_Ride K mg
 mk_Loom:Mk K u17 f_jab.a
 m_jaa:Meth K u17 "fresh_box" f_jaa.a
 m_jac:Meth K u17 "put" f_jac.a
 m_jad:Meth K u17 "put_by_choice" f_jad.a
 m_jae:Meth K u17 "put_unless" f_jae.a
 mk_Ride:Mk K u35 f_jai.a
 d_jai:∃t,Binds K f_jai.fd ["self", "code", "boxes", "place"] [.int 0 t]
 m_jak:Meth K u35 "place" f_jak.a
 m_jag:Meth K u35 "boxes" f_jag.a
 m_jah:Meth K u35 "forth" f_jah.a
 m_jaf:Meth K u35 "at_end" f_jaf.a
 m_jaj:Meth K u35 "may_forth" f_jaj.a
 k_BELOW_NOUGHT:∃t,mg "BELOW_NOUGHT" = some (.int 31 t)
 k_NUMBERS:∃t,mg "NUMBERS" = some (.int 4294967296 t)
 k_BITS:∃t,mg "BITS" = some (.int 32 t)
 b_abs:mg "abs" = none
 b_all:mg "all" = none
 b_bool:mg "bool" = none
 b_dict:mg "dict" = none
 b_divmod:mg "divmod" = none
 b_enumerate:mg "enumerate" = none
 b_int:mg "int" = none
 b_isinstance:mg "isinstance" = none
 b_len:mg "len" = none
 b_list:mg "list" = none
 b_min:mg "min" = none
 b_range:mg "range" = none
 b_str:mg "str" = none
 b_tuple:mg "tuple" = none
 b_zip:mg "zip" = none
end Law
namespace Law
open PySem L2 L3 Rw
section
variable{P:Program}{w:World}{K:W.Frag}{mg:Str->Option Value}{base:Heap}(T:Txt K mg)
def ue8:Sp3:=spec (λds G=>∃(st:Addr) (m:Int),ds=[.ref st,.int m]/\StAt G st/\0<m/\m<1073741824)
 (λds G d G'=>∃(st:Addr) (m v:Int),ds=[.ref st,.int m]/\Adv st G G'/\d=.int v/\0<=v/\v<m)
def w95:Sp3:=λds G R=>∃(row:Row) (a x:Nat) (bs:List Int) (n:Int) (k:Nat),ds=[row.d,.ref a]/\(row=.go x n k\/row=.come x n k)/\G a=some (.lst (bs.map .int))/\x<bs.length/\R (.bl (decide (gt bs x=n))) G
def wt7:Sp3:=λds G R=>∃(o:Opd) (a:Nat) (bs:List Int),ds=[o.d,.ref a]/\G a=some (.lst (bs.map .int))/\(∀y,o=.box y->y<bs.length)/\R (.int (val bs o)) G
def wt3:Sp3:=λds G R=>∃(x i:Nat) (cs:List (Nat×Nat)) (a sz:Nat) (bs:List Int),ds=[(Row.turn x i cs).d,.ref a]/\(Row.turn x i cs).ok sz/\BsOk sz bs/\G a=some (.lst (bs.map .int))/\∀G',Upd1 a (stp 1 bs (.turn x i cs)) G G'->R .non G'
def ve3:Sp3:=λds G R=>∃(row:Row) (a sz:Nat) (s:Int) (bs:List Int),ds=[row.d,.ref a,.int s]/\(s=1\/s=-1)/\row.ok sz/\BsOk sz bs/\G a=some (.lst (bs.map .int))/\∀G',Upd1 a (stp s bs row) G G'->R .non G'
def vo0:Sp3:=λds G R=>∃(p ra ha:Addr) (rs:List Row) (bs:List Int) (s:Nat),ds=[.ref p]/\RideAt u35 G p ra ha rs bs s/\R (.bl (decide (s=rs.length))) G
def w98:Sp3:=λds G R=>∃(p ra ha:Addr) (rs:List Row) (bs:List Int) (s:Nat),ds=[.ref p]/\RideAt u35 G p ra ha rs bs s/\R (.int (s:Int)) G
def wa0:Sp3:=λds G R=>∃(p ra ha:Addr) (rs:List Row) (bs:List Int) (s:Nat),ds=[.ref p]/\RideAt u35 G p ra ha rs bs s/\∀q,G q=none->R (.ref q) (gup G q (.lst (bs.map .int)))
def vn9:Sp3:=λds G R=>∃(p ra ha:Addr) (rs:List Row) (bs:List Int) (s sz:Nat),ds=[.ref p]/\RideAt u35 G p ra ha rs bs s/\Cde sz rs bs s/\R (.bl (mayF rs bs s)) G
def ww0:Sp3:=λds G R=>∃(p ra ha:Addr) (rs:List Row) (bs:List Int) (s sz:Nat),ds=[.ref p]/\RideAt u35 G p ra ha rs bs s/\Cde sz rs bs s /\
 ∀G',(mayF rs bs s=false->G'=G)->(mayF rs bs s=true->RideAt u35 G' p ra ha rs (nxF rs bs s).2 (nxF rs bs s).1/\∀b,b≠p->b≠ha->G' b=G b)->R (.bl (mayF rs bs s)) G'
def w99:Sp3:=λds G R=>∃(p:Addr) (c0:D) (cr bx:Addr) (rs:List Row) (bs:List Int) (s:Nat),ds=[.ref p,.tup [c0,.ref cr],.ref bx,.int (s:Int)]/\G p=some (.ins u35 [])/\G cr=some (.lst (rs.map Row.d))/\G bx=some (.lst (bs.map .int)) /\
 ∀ra ha G',G ra=none->G ha=none->RideAt u35 G' p ra ha rs bs s->(∀b o,b≠p->G b=some o->G' b=some o)->R .non G'
theorem u12{G:Gp}{st:Addr}{m:Int}{q:DK}(h:StAt G st)(h0:0<m)(h1:m<1073741824)(k:∀(v:Int) (G':Gp),Adv st G G'->0<=v->v<m->q (.int v) G') :
  ∃R,ue8 [.ref st,.int m] G R/\∀d G',R d G'->q d G' :=
 v52 ⟨st,m,rfl,h,h0,h1⟩ λd G' ⟨st',m',v,e,a,ed,v0,v1⟩=>by
  cases e;subst ed;exact k v G' a v0 v1
theorem ws4{G:Gp}{p cr bx:Addr}{rs:List Row}{bs:List Int}{s:Nat}{c0:D}{q:Gp->Prop}(hp:G p=none)(hcr:G cr=some (.lst (rs.map Row.d)))(hbx:G bx=some (.lst (bs.map .int)))
  (k:∀ra ha G',G ra=none->G ha=none->RideAt u35 G' p ra ha rs bs s->Grow G G'->q G'):∃R,w99 [.ref p,.tup [c0,.ref cr],.ref bx,.int (s:Int)] (gup G p (.ins u35 [])) R/\∀d G',R d G'->d=.non/\q G':=by
 have g9:Grow G (gup G p (.ins u35 [])):=Grow.refl.new hp;exact u48 (post:=λd G'=>d=.non/\∃ra ha,G ra=none/\G ha=none/\RideAt u35 G' p ra ha rs bs s/\Grow G G')
   (λR h=>⟨p,c0,cr,bx,rs,bs,s,rfl,u01,g9.kp _ _ hcr,g9.kp _ _ hbx,λra ha G' x1 x2 x3 x4=>h _ _ ⟨rfl,ra,ha,g9.none x1,g9.none x2,x3,⟨λb o e=>x4 b o (gne e hp) (g9.kp _ _ e)⟩⟩⟩) λd G' ⟨e,ra,ha,x1,x2,x3,x4⟩=>⟨e,k ra ha G' x1 x2 x3 x4⟩
def vn8:Sp3:=λds G R=>∃(row:Row) (sz:Nat),ds=[row.d]/\row.ok sz/\∀q G',G q=none->G' q=some (.lst ((rb row).map .int))->Grow G G'->R (.ref q) G'
def w97:Sp3:=λds G R=>∃(row:Row) (sz:Nat),ds=[row.d]/\row.ok sz/\∀q G',G q=none->G' q=some (.lst ((rbits row).map .int))->Grow G G'->R (.ref q) G'
def w91:Sp3:=λds G R=>∃(row:Row) (sz:Nat),ds=[row.d]/\row.ok sz/\∀q G',G q=none->G' q=some (.lst ((rnums row).map .int))->Grow G G'->R (.ref q) G'
def wv1:Sp3:=λds G R=>∃(row:Row) (sz:Nat),ds=[row.d,.int (sz:Int)]/\row.ok sz/\∀G',Grow G G'->R (.bl true) G'
def wv3:Sp3:=λds G R=>∃(row:Row) (sz:Nat),ds=[row.d]/\row.ok sz/\∀G',Grow G G'->R (.bl true) G'
def wv4:Sp3:=λds G R=>∃(row:Row) (at0:Nat) (ra:Addr) (rs:List Row),ds=[row.d,.int (at0:Int),.ref ra]/\G ra=some (.lst (rs.map Row.d))/\Pairs rs/\rs[at0]?=some row/\R (.bl true) G
def wv6:Sp3:=λds G R=>∃(ra:Addr) (rs:List Row) (sz:Nat),ds=[.tup [.int (sz:Int),.ref ra]]/\G ra=some (.lst (rs.map Row.d))/\(∀r∈rs,r.ok sz)/\Pairs rs/\∀G',Grow G G'->R .non G'
theorem u49{S:Sp3}{ds:List D}{G:Gp}{q:DK}(h:S ds G q):∃R,S ds G R/\∀d G',R d G'->q d G':=⟨q,h,λ_ _ z=>z⟩
def w88:Sp3:=λds G R=>∃(a c:Bool) (w:Str),ds=[.bl a,.str w,.bl c]/\R (.str (if a=true then w else if c=true then "tired" else "torn")) G
def w90:Sp3:=λds G R=>∃(c0:D) (rc bx:Addr) (rs:List Row) (bs:List Int) (most sz:Nat),ds=[.tup [c0,.ref rc],.ref bx,.int (most:Int)]/\G rc=some (.lst (rs.map Row.d))/\G bx=some (.lst (bs.map .int))/\Cde sz rs bs 0/\Pairs rs /\
 ∀q G',G q=none->G' q=some (.lst ((rn true rs most 0 bs).2.2.map .int))->Grow G G'->R (outD true rs (rn true rs most 0 bs) q) G'
theorem ws2{G:Gp}{rc bx:Addr}{rs:List Row}{bs:List Int}{most sz:Nat}{c0:D}{q:DK}(h1:G rc=some (.lst (rs.map Row.d)))(h2:G bx=some (.lst (bs.map .int)))(c:Cde sz rs bs 0)(hp:Pairs rs)
  (k:∀q' G',G q'=none->G' q'=some (.lst ((rn true rs most 0 bs).2.2.map .int))->Grow G G'->q (outD true rs (rn true rs most 0 bs) q') G'):∃R1,w90 [.tup [c0,.ref rc],.ref bx,.int (most:Int)] G R1/\∀d G',R1 d G'->q d G' :=
 u49 ⟨c0,rc,bx,rs,bs,most,sz,rfl,h1,h2,c,hp,k⟩
def Cns(pl vs:List Nat):Prop:=∀(i j x u v:Nat),pl[i]?=some x->pl[j]?=some x->vs[i]?=some u->vs[j]?=some v->u=v
def ww2:Sp3:=λds G R=>∃(p:Addr) (W fr:Nat),ds=[.ref p,.int (W:Int),.int (fr:Int)]/\G p=some (.ins u17 [])/\∀rp G',G rp=none->LoomAt u17 G' p rp W fr [] 0->(∀b o,b≠p->G b=some o->G' b=some o)->R .non G'
def uf0:Sp3:=λds G R=>∃(p rp:Addr) (W fr:Nat) (rows:List Row) (st:Nat),ds=[.ref p]/\LoomAt u17 G p rp W fr rows st/\∀G',LoomAt u17 G' p rp W (fr+1) rows st->LAdv p rp G G'->R (.int (fr:Int)) G'
def ue9:Sp3:=λds G R=>∃(p rp q:Addr) (W fr:Nat) (rows new:List Row) (st:Nat),ds=[.ref p,.ref q]/\LoomAt u17 G p rp W fr rows st/\G q=some (.lst (new.map Row.d))/\q≠rp/\rows.length<=9000/\new.length<=1000/\∀G',LoomAt u17 G' p rp W fr (rows++new) (st+new.length)->LAdv p rp G G'->R .non G'
def ui4(mx:Nat)(xs:Nat->Nat->List D)(bx:Nat->Nat)(fn:Nat->Nat)(nw:Nat->Nat->Nat->Nat->List Row):Sp3:=λds G R=>∃(p rp:Addr) (W fr x y:Nat) (rows:List Row) (st:Nat),ds=xs x y++[.ref p]/\LoomAt u17 G p rp W fr rows st/\W<=16/\rows.length+2*mx<=4100/\∀G',LoomAt u17 G' p rp W (fn fr) (rows++nw W x y fr) (st+(nw W x y fr).length)->LAdv p rp G G'->R (.int (bx fr:Int)) G'
def xy(x y:Nat):List D:=[.int (x:Int),.int (y:Int)]
def wt5:Sp3:=ui4 20 xy (λfr=>fr) (λfr=>fr+2) λW x y fr=>sgR W x y fr "+"
def wv5:Sp3:=ui4 20 xy (λfr=>fr) (λfr=>fr+2) λW x y fr=>sgR W x y fr "-"
def vo1:Sp3:=ui4 0 xy (λfr=>fr) (λfr=>fr+1) λ_ x y fr=>[.add fr (.box x),.take fr (.box y)]
def w96:Sp3:=ui4 0 xy (λfr=>fr) (λfr=>fr+1) λW x y fr=>andR fr x y W
def wv8:Sp3:=ui4 20 xy (λfr=>fr+1) (λfr=>fr+2) λW x y fr=>sgR W x y fr "|"
def wv7:Sp3:=ui4 20 xy (λfr=>fr+1) (λfr=>fr+2) λW x y fr=>sgR W x y fr "^"
def w89:Sp3:=λds G R=>∃n:Nat,n<=2/\ui4 19 (λx y=>[.int (x:Int),.int (y:Int),.int (n:Int)]) (λfr=>fr+1) (λfr=>fr+2) (λW x y fr=>andR fr x y W++([.add (fr+1) (.box x),.add (fr+1) (.box y)]++C2 n (.take (fr+1) (.box fr)))) ds G R
def wt6:Sp3:=ui4 20 xy (λfr=>fr+1) (λfr=>fr+2) λW x y fr=>sgR W x y fr "<"
def wv9:Sp3:=ui4 20 xy (λfr=>fr+2) (λfr=>fr+3) λW x y fr=>sgR W x y fr "="
def wt0:Sp3:=λds G R=>∃o:Str,o∈L3.signs/\ui4 21 (λx y=>[.str o,.int (x:Int),.int (y:Int)]) (λfr=>sgB fr o) (λfr=>sgF fr o) (λW x y fr=>sgR W x y fr o) ds G R
def vn5:Sp3:=λds G R=>∃(p rp wa:Addr) (W fr:Nat) (rows:List Row) (st:Nat) (bs:List Str) (pl:List Nat) (a:Atm),ds=[aD a,.ref wa,.ref p]/\LoomAt u17 G p rp W fr rows st/\G wa=some (.dic (u09 bs pl))/\pl.length=bs.length/\okA W bs a/\rows.length<=4100/\∀G',LoomAt u17 G' p rp W (plF fr a) (rows++plR fr a) (st+(plR fr a).length)->LAdv p rp G G'->R (.int (plB bs pl fr a:Int)) G'
def wa1:Sp3:=λds G R=>∃(p rp q:Addr) (W fr x:Nat) (n:Int) (rows new:List Row) (st:Nat),ds=[.ref p,.int (x:Int),.int n,.ref q]/\LoomAt u17 G p rp W fr rows st/\G q=some (.lst (new.map Row.d))/\q≠rp/\rows.length<=9000/\new.length<=1000/\∀G',LoomAt u17 G' p rp W fr (rows++(.go x n (rows.length+new.length+1)::(new++[.come x n rows.length]))) st->LAdv p rp G G'->R .non G'
def ww1:Sp3:=λds G R=>∃(p rp q1 q2:Addr) (W fr ch:Nat) (rows ys ns:List Row) (st:Nat),ds=[.ref p,.int (ch:Int),.ref q1,.ref q2]/\LoomAt u17 G p rp W fr rows st/\G q1=some (.lst (ys.map Row.d))/\G q2=some (.lst (ns.map Row.d))/\q1≠rp/\q2≠rp/\rows.length<=4100/\ys.length<=10/\ns.length<=10/\∀G',LoomAt u17 G' p rp W fr (rows++chR rows.length ch ys ns) (st+(ys.length+3))->LAdv p rp G G'->R .non G'
def wt4:Sp3:=λds G R=>∃(p rp:Addr) (W fr x:Nat) (rows:List Row) (st:Nat),ds=[.int (x:Int),.ref p]/\LoomAt u17 G p rp W fr rows st/\rows.length<=4100/\∀G',LoomAt u17 G' p rp W (fr+2) (rows++[.take fr (.box x),.turn (fr+1) 0 [(fr,31)]]) (st+2)->LAdv p rp G G'->R (.int ((fr+1:Nat):Int)) G'
def ve1(dp:Nat):Sp3:=λds G R=>∃(d:D) (p rp wa:Addr) (W fr:Nat) (bs:List Str) (pl:List Nat) (rows:List Row) (st:Nat) (rs:List Rowp),ds=[d,.ref wa,.ref p]/\LoomAt u17 G p rp W fr rows st/\G wa=some (.dic (u09 bs pl))/\sqD G d=some (u25 rs)/\d≠.ref rp/\pl.length=bs.length/\bs.length<=6/\bs.Nodup/\okL W bs rs/\ntL rs/\depL rs<dp/\rows.length+22*szL rs<=3960/\W<=16 /\
 ∀G',LoomAt u17 G' p rp W (wcL W bs rs rows.length pl fr).2.2.1 (rows++(wcL W bs rs rows.length pl fr).1) (st+(wcL W bs rs rows.length pl fr).2.2.2)->G' wa=some (.dic (u09 bs (wcL W bs rs rows.length pl fr).2.1))->(∀b o,b≠p->b≠rp->b≠wa->G b=some o->G' b=some o)->R .non G'
def wt1:Sp3:=ve1 8
theorem ww3{n:Nat}:Ok P w mg base n T.f_jck (ve1 0):=ux1 (by rintro ds G R ⟨_,_,_,_,_,_,_,_,_,_,_,_,_,_,_,_,_,_,_,_,_,h,_⟩;omega)
def wt2(dp:Nat):Sp3:=λds G R=>∃(p rp wa:Addr) (W fr:Nat) (bs:List Str) (pl:List Nat) (rows:List Row) (st:Nat) (c:Atm) (ys ns:List Rowp),ds=[rowD (.cho c ys ns),.ref wa,.ref p]/\LoomAt u17 G p rp W fr rows st/\G wa=some (.dic (u09 bs pl))/\pl.length=bs.length/\bs.length<=6/\bs.Nodup/\okR W bs (.cho c ys ns)/\ntR (.cho c ys ns)/\depL ys<dp/\depL ns<dp/\rows.length+22*szR (.cho c ys ns)<=3960/\W<=16 /\
 ∀G',LoomAt u17 G' p rp W (wcR W bs (.cho c ys ns) rows.length pl fr).2.2.1 (rows++(wcR W bs (.cho c ys ns) rows.length pl fr).1) (st+(wcR W bs (.cho c ys ns) rows.length pl fr).2.2.2)->G' wa=some (.dic (u09 bs (wcR W bs (.cho c ys ns) rows.length pl fr).2.1))->(∀b o,b≠p->b≠rp->b≠wa->G b=some o->G' b=some o)->R .non G'
def vn4:Sp3:=λds G R=>∃(pc pa:Addr) (W fr:Nat) (bs:List Str) (pl:List Nat) (rs:List Rowp),ds=[.ref pc,.tup (bs.map .str),.int (W:Int),.ref pa,.int (fr:Int)]/\G pc=some (.lst (u25 rs))/\G pa=some (.lst (pl.map nD))/\pl.length=bs.length/\bs.length<=6/\bs.Nodup/\okL W bs rs/\ntL rs/\depL rs<=6/\22*szL rs<=3960/\W<=16 /\
 ∀(q1 q2:Addr) (G':Gp),G q1=none->G q2=none->q1≠q2->G' q1=some (.lst ((wcL W bs rs 0 pl fr).1.map Row.d))->G' q2=some (.lst ((wcL W bs rs 0 pl fr).2.1.map nD))->Grow G G'->R (.tup [.ref q1,.ref q2,.int ((wcL W bs rs 0 pl fr).2.2.1:Int),.int ((wcL W bs rs 0 pl fr).2.2.2:Int)]) G'
def wu3:Sp3:=λds G R=>∃(st:Addr) (m:Nat),ds=[.ref st,.int (m:Int)]/\StAt G st/\1<=m/\m<=6/\∀(bs:List Str) (G':Gp),bs.length=m->(∀b∈bs,b.length<=20)->bs.Nodup->Adv st G G'->R (.tup (bs.map .str)) G'
def vn6:Sp3:=λds G R=>∃(st:Addr) (W:Nat),ds=[.ref st,.int (W:Int)]/\StAt G st/\W<=16/\∀(i:Nat) (G':Gp),i<2^W->Adv st G G'->R (.int (i:Int)) G'
def vn7:Sp3:=λds G R=>∃(st:Addr) (W:Nat) (bs:List Str),ds=[.ref st,.tup (bs.map .str),.int (W:Int)]/\StAt G st/\W<=16/\1<=bs.length/\bs.length<=6/\∀(a:Atm) (G':Gp),okA W bs a->Adv st G G'->R (aD a) G'
def wu0:Sp3:=λds G R=>∃(st:Addr) (m:Nat),ds=[.ref st,.int (m:Int)]/\StAt G st/\m<=6/\∀(q q1:Addr) (fr:Nat) (pl:List Nat) (G':Gp),Adv st G G'->q≠st->q1≠st->G q1=none->G' q=some (.lst [.ref q1,.int (fr:Int)])->G' q1=some (.lst (pl.map nD))->pl.length=m->pl.Nodup->(∀x∈pl,x<fr)->fr<=100->R (.ref q) G'
def wu9:Sp3:=λds G R=>∃(st:Addr),ds=[.ref st]/\StAt G st/\∀(v:Int) (G':Gp),Adv st G G'->0<=v->v<4294967296->R (.int v) G'
def wu8:Sp3:=λds G R=>∃(st pa va:Addr) (fr:Nat) (pl vs:List Nat),ds=[.ref st,.ref pa,.ref va,.int (fr:Int)]/\StAt G st/\pa≠st/\va≠st/\G pa=some (.lst (pl.map nD))/\G va=some (.lst (vs.map nD))/\pl.length=vs.length/\Cns pl vs/\(∀x∈pl,x<fr)/\(∀v∈vs,v<65536)/\fr<=1000/\pl.length<=6 /\
 ∀(q:Addr) (bx:List Int) (G':Gp),Adv st G G'->q≠st->G' q=some (.lst (bx.map .int))->BsOk fr bx->Held pl vs bx->R (.ref q) G'
def wt8:Sp3:=λds G R=>∃(st:Addr) (W:Nat) (bs:List Str),ds=[.ref st,.tup (bs.map .str),.int (W:Int)]/\StAt G st/\W<=16/\bs.length<=6/\∀(q:Addr) (vs:List Nat) (G':Gp),Adv st G G'->q≠st->G q=none->G' q=some (.lst (vs.map nD))->StW W bs vs->R (.ref q) G'
def wu2:Sp3:=λds G R=>∃(W a b:Nat) (o:Str),ds=[.str o,.int (a:Int),.int (b:Int),.int (W:Int)]/\o∈L3.signs/\W<=16/\a<2^W/\b<2^W/\R (.int (rkB W o a b:Int)) G
def ve2(dp:Nat):Sp3:=λds G R=>∃(d:D) (rs:List Rowp),ds=[d]/\sqD G d=some (u25 rs)/\ntL rs/\depL rs<dp/\szL rs<=1000/\R (.int (szL rs:Int)) G
def w93:Sp3:=ve2 8
theorem ww4{n:Nat}:Ok P w mg base n T.f_jbt (ve2 0):=ux1 (by rintro ds G R ⟨_,_,_,_,_,h,_⟩;omega)
def v30(dp:Nat):Sp3:=λds G R=>∃(st:Addr) (W deep room:Nat) (bs:List Str),ds=[.ref st,.tup (bs.map .str),.int (W:Int),.int (deep:Int),.int (room:Int)]/\StAt G st/\W<=16/\1<=bs.length/\bs.length<=6/\deep<dp/\deep<=5/\room<=200/\∀(rs:List Rowp) (G':Gp),okL W bs rs->ntL rs->szL rs<=room->depL rs<=deep->Adv st G G'->R (.tup (u25 rs)) G'
def w94:Sp3:=v30 8
theorem ww5{n:Nat}:Ok P w mg base n T.f_jbo (v30 0):=ux1 (by rintro ds G R ⟨_,_,_,_,_,_,_,_,_,_,h,_⟩;omega)
def wu1(dp:Nat):Sp3:=λds G R=>∃(st:Addr) (W deep room:Nat) (bs:List Str),ds=[.ref st,.tup (bs.map .str),.int (W:Int),.int (deep:Int),.int (room:Int)]/\StAt G st/\W<=16/\1<=bs.length/\bs.length<=6/\deep<=dp/\deep<=5/\1<=room/\room<=200/\∀(r:Rowp) (G':Gp),okR W bs r->ntR r->szR r<=room->depR r<=deep->Adv st G G'->R (rowD r) G'
def v31(dp:Nat):Sp3:=λds G R=>∃(d:D) (h:Addr) (W:Nat) (bs:List Str) (vs:List Nat) (rs:List Rowp),ds=[d,.ref h,.int (W:Int)]/\sqD G d=some (u25 rs)/\G h=some (.dic (u09 bs vs))/\StW W bs vs/\bs.Nodup/\bs.length<=6/\1<=W/\W<=16/\okL W bs rs/\ntL rs/\depL rs<dp/\R .non (gup G h (.dic (u09 bs (doL W bs rs vs))))
def wu7:Sp3:=v31 8
theorem ww6{n:Nat}:Ok P w mg base n T.f_jbe (v31 0):=ux1 (by rintro ds G R ⟨_,_,_,_,_,_,_,_,_,_,_,_,_,_,_,_,h,_⟩;omega)
def wv0:Sp3:=λds G R=>∃(pa va:Addr) (W:Nat) (bs:List Str) (vs:List Nat) (rs:List Rowp),ds=[.ref pa,.tup (bs.map .str),.int (W:Int),.ref va]/\G pa=some (.lst (u25 rs))/\G va=some (.lst (vs.map nD))/\StW W bs vs/\bs.Nodup/\bs.length<=6/\1<=W/\W<=16/\okL W bs rs/\ntL rs/\depL rs<=6/\∀(q:Addr) (G':Gp),G q=none->G' q=some (.lst ((doL W bs rs vs).map nD))->Grow G G'->R (.ref q) G'
def wt9:Sp3:=λds G R=>∃(q1 q2 ba pa da:Addr) (W fr:Nat) (bs:List Str) (pl vs:List Nat) (bx:List Int) (rs:List Rowp),ds=[.tup [.ref q1,.ref q2,.int ((wcL W bs rs 0 pl fr).2.2.1:Int),.int ((wcL W bs rs 0 pl fr).2.2.2:Int)],.ref ba,.ref pa,.int (fr:Int),.ref da]/\G q1=some (.lst ((wcL W bs rs 0 pl fr).1.map Row.d))/\G q2=some (.lst ((wcL W bs rs 0 pl fr).2.1.map nD))/\G ba=some (.lst (bx.map .int))/\G da=some (.lst ((doL W bs rs vs).map nD))/\Plc bs pl vs fr/\StW W bs vs/\BsOk fr bx/\Held pl vs bx/\fr<=1000/\okL W bs rs/\ntL rs/\22*szL rs<=3960/\bs.length<=6/\1<=W/\W<=16/\∀G',Grow G G'->R (.bl true) G'
def ws9:Sp3:=λds G R=>∃(a:Addr) (ns:List Int),ds=[.ref a]/\G a=some (.fro (ns.map .int))/\ns.length<=63/\∀G',R (.bl true) G'
theorem u71{G:Gp}{p rp:Addr}{W fr st:Nat}{rows:List Row}{q:DK}(h:LoomAt u17 G p rp W fr rows st)(k:∀G',LoomAt u17 G' p rp W (fr+1) rows st->LAdv p rp G G'->q (.int (fr:Int)) G'):∃R,uf0 [.ref p] G R/\∀d G',R d G'->q d G' :=
 u49 ⟨p,rp,W,fr,rows,st,rfl,h,k⟩
theorem x30{G:Gp}{p rp q0:Addr}{W fr st:Nat}{rows new:List Row}{q:DK}(h:LoomAt u17 G p rp W fr rows st)(hq:G q0=some (.lst (new.map Row.d)))(hn:q0≠rp)(h1:rows.length<=9000)(h2:new.length<=1000)(k:∀G',LoomAt u17 G' p rp W fr (rows++new) (st+new.length)->LAdv p rp G G'->q .non G'):∃R,ue9 [.ref p,.ref q0] G R/\∀d G',R d G'->q d G' :=
 u49 ⟨p,rp,q0,W,fr,rows,new,st,rfl,h,hq,hn,h1,h2,k⟩
theorem ui1{mx:Nat}{xs:Nat->Nat->List D}{bx fn:Nat->Nat}{nw:Nat->Nat->Nat->Nat->List Row}{G:Gp}{p rp:Addr}{W fr x y st:Nat}{rows:List Row}{q:DK}(h:LoomAt u17 G p rp W fr rows st)(hW:W<=16)(h1:rows.length+2*mx<=4100)(k:∀G',LoomAt u17 G' p rp W (fn fr) (rows++nw W x y fr) (st+(nw W x y fr).length)->LAdv p rp G G'->q (.int (bx fr:Int)) G'):∃R,ui4 mx xs bx fn nw (xs x y++[.ref p]) G R/\∀d G',R d G'->q d G' :=
 u49 ⟨p,rp,W,fr,x,y,rows,st,rfl,h,hW,h1,k⟩
theorem uo0{G:Gp}{p rp wa:Addr}{W fr st:Nat}{rows:List Row}{bs:List Str}{pl:List Nat}{a:Atm}{q:DK}(h:LoomAt u17 G p rp W fr rows st)(hw:G wa=some (.dic (u09 bs pl)))(hl:pl.length=bs.length)(ha:okA W bs a)(h1:rows.length<=4100)(k:∀G',LoomAt u17 G' p rp W (plF fr a) (rows++plR fr a) (st+(plR fr a).length)->LAdv p rp G G'->q (.int (plB bs pl fr a:Int)) G'):∃R,vn5 [aD a,.ref wa,.ref p] G R/\∀d G',R d G'->q d G' :=
 u49 ⟨p,rp,wa,W,fr,rows,st,bs,pl,a,rfl,h,hw,hl,ha,h1,k⟩
theorem ws3{G:Gp}{st:Addr}{W:Nat}{q:DK}(hs:StAt G st)(hW:W<=16)(k:∀(i:Nat) G',i<2^W->Adv st G G'->q (.int (i:Int)) G'):∃R,vn6 [.ref st,.int (W:Int)] G R/\∀d G',R d G'->q d G' :=
 u49 ⟨st,W,rfl,hs,hW,k⟩
theorem vd2{G:Gp}{st:Addr}{W:Nat}{bs:List Str}{q:DK}(hs:StAt G st)(hW:W<=16)(h1:1<=bs.length)(h2:bs.length<=6)(k:∀(a:Atm) G',okA W bs a->Adv st G G'->q (aD a) G'):∃R,vn7 [.ref st,.tup (bs.map .str),.int (W:Int)] G R/\∀d G',R d G'->q d G' :=
 u49 ⟨st,W,bs,rfl,hs,hW,h1,h2,k⟩
theorem ud2{G:Gp}{p rp p1:Addr}{W fr st:Nat}{rows new:List Row}{q:DK}(A:LoomAt u17 G p rp W fr rows st)(hp:G p1=none)(h1:rows.length<=9000)(h2:new.length<=1000)(k:∀G',LoomAt u17 G' p rp W fr (rows++new) (st+new.length)->LAdv p rp G G'->q .non G'):∃R,ue9 [.ref p,.ref p1] (gup G p1 (.lst (new.map Row.d))) R/\∀d G',R d G'->q d G' :=
 x30 (A.new hp) u01 (D6 (gne A.ro hp)) h1 h2 λG' A' a'=>k G' A' ((LAdv.refl.new hp).trans a')
theorem vf6{bs:List Str}{vs:List Nat}{i:Int}:valK (u09 bs vs) (.inl i)=none:=by
 unfold valK;rw[List.find?_eq_none.mpr]
 ·rfl
 ·intro x hx
  unfold u09 at hx;obtain⟨q,_,rfl⟩:=P1.mp hx;simp
theorem wq4:∀{bs:List Str} {x:Str},x∈bs->bs[ixB bs x]?=some x/\∀j,j<ixB bs x->bs[j]?≠some x
 | b::bs,x,h=>by
  by_cases e:b=x
  ·rw[ixB,if_pos e];exact⟨by rw[e];rfl,λj hj=>by omega⟩
  ·have hx:x∈bs:=by rcases D1.mp h with z|z;exact absurd z.symm e;exact z
   obtain⟨i1,i2⟩:=wq4 hx;rw[ixB,if_neg e,Q0];refine⟨i1,λj hj=>?_⟩;cases j with
   | zero=>intro z;exact e (E2 z)
   | succ j=>exact i2 j (by omega)
theorem ul3:∀{l:List Nat} {i:Nat} (h:i<l.length),(l[i]::l.eraseIdx i).Perm l
 | x::l,0,_=>C62 _
 | x::l,i+1,h=>by
  have hi:i<l.length:=by simpa using h
  have ih:=ul3 (l:=l) (i:=i) hi
  show(l[i]::x::l.eraseIdx i).Perm (x::l)
  exact(C63 x _ _).trans (ih.cons x)
theorem x26{G:Gp}{a b c d:Addr}{rs:List Row}{pl:List Nat}{i j:Int}{Q:Bool->Prop}(h1:u13 (G a)=some (rs.map Row.d))(h2:u13 (G c)=some (rs.map Row.d))(h3:u13 (G b)=some (pl.map nD))(h4:u13 (G d)=some (pl.map nD))(h:Q true) :
  ∃n sd se r,n<=40/\snap G n (.tup [.ref a,.ref b,.int i,.int j])=some sd/\snap G n (.tup [.ref c,.ref d,.int i,.int j])=some se/\eqN n sd se=some r/\Q r:=by
 have sb:∃s,snap G 4 (.ref b)=some s:=by
  obtain⟨ys,e⟩:=ua6 (f:=snap G 3) (xs:=pl.map nD) λd hd=>by
   obtain⟨x,_,rfl⟩:=P1.mp hd;exact snap_int
  exact⟨.lst ys,by show((u13 (G b)).bind λds=>(ds.mapM (snap G 3)).map Sn.lst)=_;rw[h3,X3,e];rfl⟩
 obtain⟨s,hs⟩:=snap_tup (n:=4) (ds:=[.ref a,.ref b,.int i,.int j]) (all2 (snap_rows (n:=0) h1) (all2 sb (all2 snap_int (all1 snap_int))));have e1:snap G 4 (.ref a)=snap G 4 (.ref c):=snap_ref (h1.trans h2.symm);have e2:snap G 4 (.ref b)=snap G 4 (.ref d):=snap_ref (h3.trans h4.symm);have e3:snap G 5 (.tup [.ref a,.ref b,.int i,.int j])=snap G 5 (.tup [.ref c,.ref d,.int i,.int j]):=by
  show(([D.ref a,.ref b,.int i,.int j].mapM (snap G 4)).map Sn.tup)=(([D.ref c,.ref d,.int i,.int j].mapM (snap G 4)).map Sn.tup)
  rw[L0,L0,L0 (a:=D.ref c),L0 (a:=D.ref d),e1,e2]
 exact⟨5,s,s,true,by decide,hs,by rw[<- e3];exact hs,ub9 5 hs,h⟩
theorem w64{G:Gp}{w:Str}{i j:Int}{Q:Bool->Prop}(h:Q true) :
  ∃n sd se r,n<=40/\snap G n (.tup [.str w,.int i,.int j])=some sd/\snap G n (.tup [.str w,.int i,.int j])=some se/\eqN n sd se=some r/\Q r:=by
 obtain⟨s,hs⟩:=snap_tup (G:=G) (n:=0) (ds:=[.str w,.int i,.int j]) (all2 snap_str (all2 snap_int (all1 snap_int)));exact⟨1,s,s,true,by decide,hs,hs,ub9 1 hs,h⟩
theorem wo3(l:List Nat):l.map nD=(l.map λ(k:Nat)=>(k:Int)).map D.int:=by rw[A72];rfl
theorem v28{α:Type}{xs:List α}{n:Nat}:cutD xs none (some (n:Int))=xs.take n:=vm6
theorem uq6:∀{l m:List Str},l.Nodup->(∀x∈l,x∈m)->l.length<=m.length
 | [],m,_,_=>N4 _
 | x::l,m,hn,h=>by
  obtain⟨h1,h2⟩:=M8.mp hn;have hx:=h x D7;have ih:=uq6 (l:=l) (m:=m.erase x) h2 λy hy=>(List.mem_erase_of_ne (λe=>h1 (by rw[<- e];exact hy))).mpr (h y (C6 _ hy))
  rw[List.length_erase_of_mem hx] at ih;have:0<m.length:=List.length_pos_of_mem hx;rw[C0];omega
def cand(b:Str)(i:Nat):Str:=b++C1 "z" ++ ⟨#[97+i]⟩
theorem vm8{b:Str}{i j:Nat}(h:cand b i=cand b j):i=j:=by
 have e:=congrArg (λx:Str=>x.cps.toList) h;have c:∀k,(cand b k).cps.toList=b.cps.toList++[122,97+k]:=λk=>by
  show((b.cps++(C1 "z").cps)++#[97+k]).toList=_
  rw[B10,B10,E1];rfl
 have e:(cand b i).cps.toList=(cand b j).cps.toList:=e;rw[c,c] at e;have:=List.append_cancel_left e;simp at this;exact this
theorem vc9{b nm:Str}{ws:List Str}(hl:ws.length<26)(h:nm∉ws\/∀i,i<26->cand b i∈ws):nm∉ws:=by
 rcases h with h|h
 ·exact h
 ·exfalso
  have hn:((J6 26).map (cand b)).Nodup:=List.pairwise_map.mpr (B53.imp λhne e=>hne (vm8 e));have:=uq6 (m:=ws) hn λx hx=>by
   obtain⟨i,hi,rfl⟩:=P1.mp hx;exact h i (O9.mp hi)
  rw[B5,N5] at this;omega
theorem wp5{ws:List Str}(h:∀w∈ws,w.length=1):(ws.map B18).sum=ws.length:=by
 induction ws with
 | nil=>rfl
 | cons w ws ih=>rw[C8,C05,C0,h w D7,ih λx hx=>h x (C6 _ hx)];omega
def words12:List Str:=[C1 "box",C1 "num",C1 "is",C1 "op",C1 "go",C1 "add",C1 "take",C1 "turn",C1 "swap",C1 "come",C1 "lay",C1 "show"]
theorem vf3:((J6 12).all λf=>(J6 7).all λm=>decide (((J6 m).map λk=>words12.getD ((f+5*k)%12) (C1 "")).Nodup)&&((J6 m).map λk=>words12.getD ((f+5*k)%12) (C1 "")).all λw=>decide (w.length<=20))=true:=by decide
theorem hso22:∀l:List Str,strsOf (l.map D.str)=some l:=by
 intro l
 induction l with
 | nil=>rfl
 | cons w l ih=>show(strsOf (l.map D.str)).map (w::·)=_;rw[ih];rfl
theorem abc_at{x:Int}(h1:0<=x)(h2:x<26):atI (C1 "abcdefghijklmnopqrstuvwxyz").cps.toList x=some (97+x.toNat):=by
 obtain⟨n,rfl⟩:=A59 h1;have hn:n<26:=by omega
 have key:∀n:Fin 26,(C1 "abcdefghijklmnopqrstuvwxyz").cps.toList[n.val]?=some (97+n.val):=by decide
 have e:=uv3 (xs:=(C1 "abcdefghijklmnopqrstuvwxyz").cps.toList) (i:=(n:Int)) h1 (by exact h2);rw[e,<- B6];exact key ⟨n,hn⟩
theorem va8{d:D}{xs:List D}{G:Gp}{σ:DSt}{i:Nat}{g:TG3}{tb:TS3}{E:Ends3}(h0:sqD G d=some xs)(hs:σ[i]?=some (some d))(k:∀ok:Gp->Prop,(∀G',sqD G' d=some xs->ok G')->forL ok g tb E xs σ G):dFor (wAny (dVar i)) g tb E σ G:=by
 unfold dFor wAny dVar;rw[hs];cases d with
 | tup ds =>
  have e:ds=xs:=by simpa[sqD] using h0
  subst e;exact k _ λ_ _=>trivial
 | ref a =>
  have h0':u13 (G a)=some xs:=h0;dsimp only;rw[h0'];exact k _ λG' h=>h
 | _=>exact absurd h0 (by simp[sqD])
theorem uv8{W:Nat}{bs:List Str}{q:Rowp}{l:List Rowp}{a:Nat}{pl:List Nat}{fr:Nat}:wcL W bs (q::l) a pl fr=((wcR W bs q a pl fr).1++(wcL W bs l (a+(wcR W bs q a pl fr).1.length) (wcR W bs q a pl fr).2.1 (wcR W bs q a pl fr).2.2.1).1,(wcL W bs l (a+(wcR W bs q a pl fr).1.length) (wcR W bs q a pl fr).2.1 (wcR W bs q a pl fr).2.2.1).2.1,(wcL W bs l (a+(wcR W bs q a pl fr).1.length) (wcR W bs q a pl fr).2.1 (wcR W bs q a pl fr).2.2.1).2.2.1,(wcR W bs q a pl fr).2.2.2+(wcL W bs l (a+(wcR W bs q a pl fr).1.length) (wcR W bs q a pl fr).2.1 (wcR W bs q a pl fr).2.2.1).2.2.2):=rfl
theorem uv7{W:Nat}{bs:List Str}:∀(l:List Rowp) {r:Rowp} {a:Nat} {pl:List Nat} {fr:Nat},wcL W bs (l++[r]) a pl fr=((wcL W bs l a pl fr).1++(wcR W bs r (a+(wcL W bs l a pl fr).1.length) (wcL W bs l a pl fr).2.1 (wcL W bs l a pl fr).2.2.1).1,(wcR W bs r (a+(wcL W bs l a pl fr).1.length) (wcL W bs l a pl fr).2.1 (wcL W bs l a pl fr).2.2.1).2.1,(wcR W bs r (a+(wcL W bs l a pl fr).1.length) (wcL W bs l a pl fr).2.1 (wcL W bs l a pl fr).2.2.1).2.2.1,(wcL W bs l a pl fr).2.2.2+(wcR W bs r (a+(wcL W bs l a pl fr).1.length) (wcL W bs l a pl fr).2.1 (wcL W bs l a pl fr).2.2.1).2.2.2)
 | [],r,a,pl,fr=>by
  show((wcR W bs r a pl fr).1++[],(wcR W bs r a pl fr).2.1,(wcR W bs r a pl fr).2.2.1,(wcR W bs r a pl fr).2.2.2+0)=([]++(wcR W bs r (a+0) pl fr).1,(wcR W bs r (a+0) pl fr).2.1,(wcR W bs r (a+0) pl fr).2.2.1,0+(wcR W bs r (a+0) pl fr).2.2.2)
  rw[F7,F8,A76,A76,Q9]
 | q::l,r,a,pl,fr=>by
  rw[J2,uv8,uv8,uv7 l];simp only[B0,E1,O0]
def unN:List Str->List Nat->List Nat->List Str
 | b::bs,p::ps,q::qs=>if p=q then unN bs ps qs else b::unN bs ps qs
 | _,_,_=>[]
def asg(bs:List Str):List Str->Nat->List Nat->List Nat
 | [],_,pl=>pl
 | n::ns,f,pl=>asg bs ns (f+1) (ptB bs pl n f)
theorem ug2:∀{bs:List Str} {ps qs:List Nat} {x:Str},x∈unN bs ps qs->x∈bs
 | [],ps,qs,x,h=>by cases ps <;> cases qs <;> cases h
 | b::bs,[],qs,x,h=>by cases qs <;> cases h
 | b::bs,p::ps,[],x,h=>by cases h
 | b::bs,p::ps,q::qs,x,h=>by
  unfold unN at h;split at h
  ·exact C6 _ (ug2 h)
  ·rcases D1.mp h with e|h
   ·rw[e];exact D7
   ·exact C6 _ (ug2 h)
theorem vh0{b n:Str}{bs:List Str}{p f:Nat}{pl:List Nat}(h:b≠n):ptB (b::bs) (p::pl) n f=p::ptB bs pl n f:=by
 unfold ptB;rw[ixB,if_neg h,Q0];rfl
theorem u63{b n:Str}{bs:List Str}{p:Nat}{pl:List Nat}(h:b≠n):gtB (b::bs) (p::pl) n=gtB bs pl n:=by
 unfold gtB;rw[ixB,if_neg h,Q0];rfl
theorem u90{b:Str}{bs:List Str}{p:Nat}{pl:List Nat}:gtB (b::bs) (p::pl) b=p:=by
 unfold gtB;rw[ixB,if_pos rfl];rfl
theorem uo1{b:Str}{bs:List Str}:∀{ns:List Str} {p f:Nat} {pl:List Nat},b∉ns->asg (b::bs) ns f (p::pl)=p::asg bs ns f pl
 | [],_,_,_,_=>rfl
 | n::ns,p,f,pl,h=>by
  have h1:b≠n:=λe=>h (by rw[e];exact D7)
  show asg (b::bs) ns (f+1) (ptB (b::bs) (p::pl) n f)=p::asg bs ns (f+1) (ptB bs pl n f)
  rw[vh0 h1,uo1 λe=>h (C6 _ e)]
theorem uv5:∀{bs:List Str} {ps qs:List Nat} {f:Nat},bs.Nodup->ps.length=bs.length->qs.length=bs.length->asg bs (unN bs ps qs) f ps=mrg f ps qs
 | [],ps,qs,f,_,h1,h2=>by
  have e1:ps=[]:=F4 h1;subst e1;cases qs <;> rfl
 | b::bs,[],qs,f,_,h1,_=>by cases h1
 | b::bs,p::ps,[],f,_,_,h2=>by cases h2
 | b::bs,p::ps,q::qs,f,hn,h1,h2=>by
  obtain⟨n1,n2⟩:=M8.mp hn;have h1:ps.length=bs.length:=O4 h1;have h2:qs.length=bs.length:=O4 h2;have nb:b∉unN bs ps qs:=λe=>n1 (ug2 e)
  unfold unN mrg;split
  ·rw[uo1 nb,uv5 n2 h1 h2]
  ·show asg (b::bs) (unN bs ps qs) (f+1) (ptB (b::bs) (p::ps) b f)=_
   have e:ptB (b::bs) (p::ps) b f=f::ps:=by unfold ptB;rw[ixB,if_pos rfl];rfl
   rw[e,uo1 nb,uv5 n2 h1 h2]
theorem um2:∀{bs:List Str} {ps qs:List Nat} {f:Nat},bs.Nodup->ps.length=bs.length->qs.length=bs.length ->
  ((unN bs ps qs).map λn=>Row.add (gtB bs (mrg f ps qs) n) (.box (gtB bs ps n)))=tkR f (uY ps qs)/\((unN bs ps qs).map λn=>Row.add (gtB bs (mrg f ps qs) n) (.box (gtB bs qs n)))=tkR f (uN ps qs)
 | [],ps,qs,f,_,h1,h2=>by
  have e1:ps=[]:=F4 h1;have e2:qs=[]:=F4 h2;subst e1 e2;exact⟨rfl,rfl⟩
 | b::bs,[],qs,f,_,h1,_=>by cases h1
 | b::bs,p::ps,[],f,_,_,h2=>by cases h2
 | b::bs,p::ps,q::qs,f,hn,h1,h2=>by
  obtain⟨n1,n2⟩:=M8.mp hn;have h1:ps.length=bs.length:=O4 h1;have h2:qs.length=bs.length:=O4 h2;have nb:∀n∈unN bs ps qs,b≠n:=λn hm e=>n1 (by rw[e];exact ug2 hm)
  by_cases e:p=q
  ·have ih:=um2 (f:=f) n2 h1 h2
   have e1:unN (b::bs) (p::ps) (q::qs)=unN bs ps qs:=by rw[unN,if_pos e]
   have e2:mrg f (p::ps) (q::qs)=p::mrg f ps qs:=by rw[mrg,if_pos e]
   have e3:uY (p::ps) (q::qs)=uY ps qs:=by rw[uY,if_pos e]
   have e4:uN (p::ps) (q::qs)=uN ps qs:=by rw[uN,if_pos e]
   rw[e1,e2,e3,e4,<- ih.1,<- ih.2];exact⟨P6 λn hm=>by rw[u63 (nb n hm),u63 (nb n hm)],P6 λn hm=>by rw[u63 (nb n hm),u63 (nb n hm)]⟩
  ·have ih:=um2 (f:=f+1) n2 h1 h2
   have e1:unN (b::bs) (p::ps) (q::qs)=b::unN bs ps qs:=by rw[unN,if_neg e]
   have e2:mrg f (p::ps) (q::qs)=f::mrg (f+1) ps qs:=by rw[mrg,if_neg e]
   have e3:uY (p::ps) (q::qs)=p::uY ps qs:=by rw[uY,if_neg e]
   have e4:uN (p::ps) (q::qs)=q::uN ps qs:=by rw[uN,if_neg e]
   rw[e1,e2,e3,e4,C8,C8,u90,u90,u90]
   show(_::_=Row.add f (.box p)::tkR (f+1) (uY ps qs))/\(_::_=Row.add f (.box q)::tkR (f+1) (uN ps qs))
   rw[<- ih.1,<- ih.2];exact⟨congrArg _ (P6 λn hm=>by rw[u63 (nb n hm),u63 (nb n hm)]),congrArg _ (P6 λn hm=>by rw[u63 (nb n hm),u63 (nb n hm)])⟩
theorem v43:∀{bs:List Str} {ps qs:List Nat},ps.length=bs.length->qs.length=bs.length->(unN bs ps qs).length=(uY ps qs).length
 | [],ps,qs,h1,h2=>by
  have e1:ps=[]:=F4 h1;have e2:qs=[]:=F4 h2;subst e1 e2;rfl
 | b::bs,[],qs,h1,_=>by cases h1
 | b::bs,p::ps,[],_,h2=>by cases h2
 | b::bs,p::ps,q::qs,h1,h2=>by
  have ih:=v43 (bs:=bs) (ps:=ps) (qs:=qs) (O4 h1) (O4 h2);unfold unN uY;split
  ·exact ih
  ·rw[C0,C0,ih]
theorem v85:∀{bs:List Str} {pl ps:List Nat},bs.Nodup->pl.length=bs.length->ps.length=bs.length->uk8 (u09 bs pl) (u09 bs ps)=u09 bs ps:=by
 have key:∀(b1 b2:List Str) (p1 p2 q2:List Nat),(b1++b2).Nodup->p1.length=b1.length->p2.length=b2.length->q2.length=b2.length->uk8 (u09 (b1++b2) (p1++p2)) (u09 b2 q2)=u09 (b1++b2) (p1++q2):=by
  intro b1 b2
  induction b2 generalizing b1 with
  | nil =>
   intro p1 p2 q2 _ _ h2 h3;have e1:p2=[]:=F4 h2;have e2:q2=[]:=F4 h3;subst e1 e2;rfl
  | cons b b2 ih =>
   intro p1 p2 q2 hn h1 h2 h3;cases p2 with
   | nil=>cases h2
   | cons p p2 =>
    cases q2 with
    | nil=>cases h3
    | cons q q2 =>
     have hx:b∈b1++b::b2:=by simp
     have st:uc7 (u09 (b1++b::b2) (p1++p::p2)) (.inr b) (.int (q:Int))=u09 (b1++b::b2) (p1++q::p2):=by
      rw[u99 hx hn (by rw[B0,B0,h1,h2])];have hix:ixB (b1++b::b2) b=b1.length:=by
       have nb:b∉b1:=λh=>(W8.mp hn).2.2 b h b D7 rfl
       clear ih hn h1 h2 h3 hx
       induction b1 with
       | nil=>show(if b=b then 0 else _)=0;rw[if_pos rfl]
       | cons a b1 ih =>
        have na:¬ a=b:=λe=>nb (by rw[e];exact D7)
        show(if a=b then 0 else 1+ixB (b1++b::b2) b)=_
        rw[if_neg na,ih λh=>nb (C6 _ h),C0];omega
      unfold ptB;rw[hix,<- h1,List.set_append_right _ _ (B9 _),V9];rfl
     show uk8 (uc7 (u09 (b1++b::b2) (p1++p::p2)) (.inr b) (.int (q:Int))) (u09 b2 q2)=_
     rw[st];have:=ih (b1++[b]) (p1++[q]) p2 q2 (by simpa using hn) (by simp[h1]) (O4 h2) (O4 h3);simpa using this
 intro bs pl ps hn h1 h2;have:=key [] bs [] pl ps hn rfl h1 h2;simpa using this
theorem uy8:∀{bs:List Str} {ps:List Nat},ps.length=bs.length->(u09 bs ps).map (λkv=>kD kv.1)=bs.map D.str
 | [],ps,_=>by cases ps <;> rfl
 | b::bs,[],h=>by cases h
 | b::bs,p::ps,h=>by
  show D.str b::(u09 bs ps).map (λkv=>kD kv.1)=_
  rw[uy8 (O4 h)];rfl
theorem uj3:∀{bs:List Str} {ps qs:List Nat},bs.Nodup->ps.length=bs.length->qs.length=bs.length->bs.filter (λn=>!decide (gtB bs ps n=gtB bs qs n))=unN bs ps qs
 | [],ps,qs,_,_,_=>by cases ps <;> cases qs <;> rfl
 | b::bs,[],qs,_,h1,_=>by cases h1
 | b::bs,p::ps,[],_,_,h2=>by cases h2
 | b::bs,p::ps,q::qs,hn,h1,h2=>by
  obtain⟨n1,n2⟩:=M8.mp hn;have ih:=uj3 n2 (show ps.length=bs.length from O4 h1) (show qs.length=bs.length from O4 h2);have ht:bs.filter (λn=>!decide (gtB (b::bs) (p::ps) n=gtB (b::bs) (q::qs) n))=unN bs ps qs:=by
   rw[<- ih];refine List.filter_congr λn hm=>?_
   have hb:b≠n:=λe=>n1 (by rw[e];exact hm)
   rw[u63 hb,u63 hb]
  by_cases e:p=q
  ·rw[A60 (by rw[u90,u90];simp[e]),ht,unN,if_pos e]
  ·rw[A61 (by rw[u90,u90];simp[e]),ht,unN,if_neg e]
theorem uz4{bs:List Str}:∀{u:List Str} {x:Str} {f:Nat} {pl:List Nat},asg bs (u++[x]) f pl=ptB bs (asg bs u f pl) x (f+u.length)
 | [],x,f,pl=>rfl
 | n::u,x,f,pl=>by
  show asg bs (u++[x]) (f+1) (ptB bs pl n f)=ptB bs (asg bs u (f+1) (ptB bs pl n f)) x (f+(u.length+1))
  rw[uz4,show f+1+u.length=f+(u.length+1) by omega]
theorem vd5{bs:List Str}:∀{u:List Str} {f:Nat} {pl:List Nat},(asg bs u f pl).length=pl.length
 | [],f,pl=>rfl
 | n::u,f,pl=>by
  show(asg bs u (f+1) (ptB bs pl n f)).length=_
  rw[vd5];unfold ptB;rw[J0]
def w92:Sp3:=λds G R=>∃i:Int,ds=[.int i]/\R (.bl true) G
def wu6:Sp3:=λds G R=>∃(r:Row) (sz:Nat),ds=[r.d]/\r.ok sz/\∀G',Grow G G'->R (.bl true) G'
structure WoAt(G:Gp)(W fr:Nat)(bs:List Str)(pl:List Nat)(rs:List Rowp)(a1 a2:Addr):Prop where
 r:G a1=some (.lst ((wcL W bs rs 0 pl fr).1.map Row.d))
 p:G a2=some (.lst ((wcL W bs rs 0 pl fr).2.1.map nD))
structure WoOk(W fr:Nat)(bs:List Str)(pl:List Nat)(rs:List Rowp):Prop where
 w1:1<=W
 w2:W<=16
 b:bs.length<=6
 n:bs.Nodup
 l:pl.length=bs.length
 lt:∀x∈pl,x<fr
 ok:okL W bs rs
 nt:ntL rs
 s:szL rs<=180
def uz9(W fr:Nat)(bs:List Str)(pl:List Nat)(rs:List Rowp)(a1 a2:Addr):D:=.tup [.ref a1,.ref a2,.int ((wcL W bs rs 0 pl fr).2.2.1:Int),.int ((wcL W bs rs 0 pl fr).2.2.2:Int)]
def wu5:Sp3:=λds G R=>∃(W fr:Nat) (bs:List Str) (pl:List Nat) (rs:List Rowp) (a1 a2:Addr),ds=[uz9 W fr bs pl rs a1 a2,.int (fr:Int),.int (szL rs:Int),.int (bs.length:Int)]/\WoAt G W fr bs pl rs a1 a2/\WoOk W fr bs pl rs/\∀G',Grow G G'->R (.bl true) G'
def wu4:Sp3:=λds G R=>∃(st:Addr) (W:Nat) (bs:List Str),ds=[.ref st,.tup (bs.map .str),.int (W:Int)]/\StAt G st/\W<=16/\1<=bs.length/\bs.length<=6/\∀(q:Addr) (rs:List Rowp) (G':Gp),G q=none->okL W bs rs->ntL rs->szL rs<=120->depL rs=0->rs.length<=120->q≠st->G' q=some (.lst (u25 rs))->Adv st G G'->R (.ref q) G'
theorem vv7{G:Gp}{a:Addr}{O:List Rowp}(h:u13 (G a)=some (u25 O))(hd:depL O<=5):∃s,snap G 12 (.ref a)=some s:=by
 obtain⟨ys,e⟩:=ua6 (f:=snap G 11) (v01 (G:=G) (k:=0) hd);refine⟨.lst ys,?_⟩
 show((u13 (G a)).bind λds=>(ds.mapM (snap G 11)).map Sn.lst)=_
 rw[h]
 show((u25 O).mapM (snap G 11)).map Sn.lst=_
 rw[e];rfl
theorem v53{G:Gp}{a:Addr}{pl:List Nat}(h:u13 (G a)=some (pl.map nD)):∃s,snap G 12 (.ref a)=some s:=by
 obtain⟨ys,e⟩:=ua6 (f:=snap G 11) (xs:=pl.map nD) λd hd=>by
  obtain⟨k,_,rfl⟩:=P1.mp hd;exact⟨_,rfl⟩
 refine⟨.lst ys,?_⟩
 show((u13 (G a)).bind λds=>(ds.mapM (snap G 11)).map Sn.lst)=_
 rw[h]
 show((pl.map nD).mapM (snap G 11)).map Sn.lst=_
 rw[e];rfl
theorem v54{G:Gp}{h a b:Addr}{t:List D}{x y:Sn}{zs:List Sn}(e:u13 (G h)=some (.ref a::.ref b::t))(ha:snap G 12 (.ref a)=some x)(hb:snap G 12 (.ref b)=some y)(ht:t.mapM (snap G 12)=some zs):snap G 13 (.ref h)=some (.lst (x::y::zs)):=by
 show((u13 (G h)).bind λds=>(ds.mapM (snap G 12)).map Sn.lst)=_
 rw[e]
 show((D.ref a::.ref b::t).mapM (snap G 12)).map Sn.lst=_
 rw[L0,L0,ha,hb,ht];rfl
theorem uz2{G:Gp}{h1 h2 a b c d:Addr}{O:List Rowp}{pl:List Nat}{Q:Bool->Prop}(e1:u13 (G h1)=some [.ref a,.ref b])(e2:u13 (G h2)=some [.ref c,.ref d])(ka:u13 (G a)=some (u25 O))(kc:u13 (G c)=some (u25 O))(kb:u13 (G b)=some (pl.map nD))(kd:u13 (G d)=some (pl.map nD))(hd:depL O<=5)(h:Q true) :
  ∃n sd se r,n<=40/\snap G n (.ref h1)=some sd/\snap G n (.ref h2)=some se/\eqN n sd se=some r/\Q r:=by
 obtain⟨x,hx⟩:=vv7 ka hd;obtain⟨y,hy⟩:=v53 kb;have s1:=v54 (t:=[]) e1 hx hy rfl;have s2:=v54 (t:=[]) e2 (by rw[<- snap_ref (ka.trans kc.symm)];exact hx) (by rw[<- snap_ref (kb.trans kd.symm)];exact hy) rfl;exact⟨13,_,_,true,by decide,s1,s2,ub9 13 s1,h⟩
theorem vm7{G:Gp}{a b c d:Addr}{rs:List Row}{pl:List Nat}{x y:Int}{Q:Bool->Prop}(ka:u13 (G a)=some (rs.map Row.d))(kc:u13 (G c)=some (rs.map Row.d))(kb:u13 (G b)=some (pl.map nD))(kd:u13 (G d)=some (pl.map nD))(h:Q true) :
  ∃n sd se r,n<=40/\snap G n (.tup [.ref a,.ref b,.int x,.int y])=some sd/\snap G n (.tup [.ref c,.ref d,.int x,.int y])=some se/\eqN n sd se=some r/\Q r:=by
 obtain⟨u,hu⟩:=snap_rows (n:=8) ka;obtain⟨v,hv⟩:=v53 kb;have t:∀a b,snap G 12 (.ref a)=some u->snap G 12 (.ref b)=some v->snap G 13 (.tup [.ref a,.ref b,.int x,.int y])=some (.tup [u,v,.int x,.int y]):=λa b h1 h2=>by
  show(([D.ref a,.ref b,.int x,.int y]).mapM (snap G 12)).map Sn.tup=_
  rw[L0,L0,h1,h2];rfl
 have s1:=t a b hu hv;exact⟨13,_,_,true,by decide,s1,t c d (by rw[<- snap_ref (ka.trans kc.symm)];exact hu) (by rw[<- snap_ref (kb.trans kd.symm)];exact hv),ub9 13 s1,h⟩
theorem w79{pl vs:List Nat}{i0 i1 p v:Nat}(hn:pl.Nodup)(h0:pl[i0]?=some p)(h1:vs[i0]?=some v):Cns (pl.set i1 p) (vs.set i1 v):=by
 have key:∀i x u,(pl.set i1 p)[i]?=some x->(vs.set i1 v)[i]?=some u->∃k,pl[k]?=some x/\vs[k]?=some u:=λi x u a b=>by
  rw[Z0] at a b
  by_cases e:i1=i
  ·rw[if_pos e] at a b
   split at a
   ·split at b
    ·cases a;cases b;exact⟨i0,h0,h1⟩
    ·cases b
   ·cases a
  ·rw[if_neg e] at a b;exact⟨i,a,b⟩
 intro i j x u w a b c d;obtain⟨k,k1,k2⟩:=key i x u a c;obtain⟨m,m1,m2⟩:=key j x w b d;have:k=m:=(List.getElem?_inj (J7.mp k1).1 hn).mp (k1.trans m1.symm);rw[this,m2] at k2;exact(E2 k2).symm
theorem go_i{f:DSt->Gp->Prop}{s:DSt}{G:Gp}(h:f s G):Go f s G:=h
theorem rd4{Z:TS3}{D0:Ends3}{σ:DSt}{G:Gp}{c1 c2:Addr}{xs ys:List D}{x y:Int}(h10:σ[10]?=some (some (.tup [.ref c1,.ref c2,.int x,.int y])))(h1:G c1=some (.lst xs))(h2:G c2=some (.lst ys))
  (k:∀b1 b2,G b1=none->gup G b1 (.lst xs) b2=none->Go (Z D0) (σ.set 14 (some (.tup [.ref b1,.ref b2,.int x,.int y]))) (gup (gup G b1 (.lst xs)) b2 (.lst ys))) :
  dSeq (dAsg (dTup (u60 (dCB u95 (u60 (dOp xIx (dVar 10) (dC (.int 0))) dNil)) (u60 (dCB u95 (u60 (dOp xIx (dVar 10) (dC (.int 1))) dNil)) (u60 (dOp xIx (dVar 10) (dC (.int 2))) (u60 (dOp xIx (dVar 10) (dC (.int 3))) dNil))))) (uh3 14)) Z D0 σ G:=by
 simp only[dSeq,dAsg,dTup,u60,dNil,dCB,dOp,dVar,dC,uh3,h10,wa4,wa3,vn3,vn2,w85,w84,h1,u36];intro b1 hb1;rw[u06 (gne h2 hb1),h2];simp only[u36];intro b2 hb2;exact⟨by(show(4:Nat)<=sizeLine);decide,k b1 b2 hb1 hb2⟩
end
end Law
set_option compiler.extract_closed false
open PySem L2 L3 Rw in
set_option hygiene false in
local macro_rules | `(tactic| simp! [$xs,*])=>`(tactic| try simp only [↓vm5,Int.toNat_natCast,↓dCall,↓ui8,↓vc5,List.append_nil,↓dSeq,↓w76,↓dAsg,↓uu8,↓dRet,↓w73,↓dIfS,↓dB,↓dAnd,↓dOr,↓dNot,↓w78,↓dOrV,↓w75,↓dIf,↓dVar,↓dC,↓dOp,↓dUn,↓dNil,↓u60,↓dTup,↓dLst,↓dCB,↓dSl,↓w74,↓uu7,↓dBM,↓dBM0,↓dAug,↓dFld,↓w72,↓w77,↓dYes,↓uh3,↓jSub,↓jSeq,↓w54,↓jNil,↓wc0,↓wz6,↓wAny,↓dFor,↓xSub,↓xDiv,↓xMod,↓xPow,↓xShl,↓xShr,↓xAnd,↓xOr,↓xXor,un1,tyD,uo9,ul0,List.map_cons,List.map_nil,List.cons_append,List.nil_append,List.length_cons,List.length_nil,List.replicate,List.getElem?_cons_zero,List.getElem?_cons_succ,List.set_cons_zero,List.set_cons_succ,Nat.reduceAdd,Nat.reduceSub,Nat.sub_self,↓u36,↓v55,u01,Option.bind_some,Option.bind_none,id,Bool.false_eq_true,if_true,if_false,reduceIte,true_and,and_true,decide_true,decide_false,Bool.not_true,Bool.not_false,vn3,vn2,w85,w84,x31,wq1,wq0,wp9,wq3,wq2,↓yr_0,↓yr_1,↓yr_2,↓yr_3,↓yr_4,↓yr_5,↓yr_6,↓yr_7,↓yr_8,↓yr_9,↓wz0,↓wy9,↓wy8,↓wy7,↓wy6,↓wy5,↓ys_0,↓ys_1,↓ys_2,↓ys_3,↓ys_4,↓ys_5,↓ys_6,↓ys_7,↓ys_8,↓ys_9,↓wy4,↓wy3,↓wy2,↓wy1,↓wy0,↓wx9,↓wx8,↓wx7,↓wx6,↓wx5,↓wx4,↓wx3,↓wx2,↓wx1,↓wx0,↓ww9,↓ww8,↓ww7,$xs,*])
open L3 in
set_option hygiene false in
local macro_rules | `(tactic| dsimp! [$xs,*])=>`(tactic| (simp only [Go];simp! [$xs,*]))
namespace Law
open PySem L2 L3 Rw
section
variable{P:Program}{w:World}{K:W.Frag}{mg:Str->Option Value}{base:Heap}(T:Txt K mg)
theorem wn9{n:Nat}:Ok P w mg base (n+1) T.f_jab ww2:=by
 refine u14 T.f_jab vr7 (λds G R h=>?_) (λcdv A outer s H E hr =>
   (u02 (uq2 T.c_Loom.cl T.c_Loom.n_wide (ev 0) (ev 1))
   (u02 (uq2 T.c_Loom.cl T.c_Loom.n_fresh (ev 0) (ev 2))
   (u02 (uq2 T.c_Loom.cl T.c_Loom.n_rows (ev 0) (u46 u03))
   (u07 (uq2 T.c_Loom.cl T.c_Loom.n_steps (ev 0) u05)))))) (λds G R h=>?_)
 ·obtain⟨p,W,fr,rfl,_⟩:=h;rfl
 ·obtain⟨p,W,fr,rfl,hp,post⟩:=h
  simp![hp,lsn,ub0,beq_self_eq_true,E7,M9,putD];refine⟨by decide,?_⟩;dsimp![u01,lsn,ub0,beq_self_eq_true,E7,M9,putD];refine⟨by decide,?_⟩;dsimp![u01,lsn,ub0,beq_self_eq_true,E7,M9,putD];refine⟨by decide,λrp hrp=>?_⟩;rw[u29] at hrp;have np:p≠rp:=gne u01 hrp;rw[u06 (D6 np)] at hrp;simp![u29,u06 np,u01,lsn,ub0,beq_self_eq_true,E7,M9,putD];refine⟨by decide,?_⟩;dsimp![u01,lsn,ub0,beq_self_eq_true,E7,M9,putD];refine⟨by decide,?_⟩;refine post rp _ hrp ⟨by rw[u01];rfl,?_⟩ λb o hb e=>?_
  ·rw[u06 (D6 np),u06 (D6 np),u01];rfl
  ·rw[u06 hb,u06 hb,u06 (gne e hrp),u06 hb];exact e
theorem wo0{n:Nat}:Ok P w mg base (n+1) T.f_jaa uf0:=by
 refine u14 T.f_jaa vr8 (λds G R h=>?_) (λcdv A outer s H E hr =>
   (u02 (uw6 T.c_Loom.cl T.c_Loom.n_fresh (ev 0) u05 uo3)
   (u07 (u15 (u16 ui5 (u73 T.c_Loom.cl T.c_Loom.n_fresh (ev 0)) u05))))) (λds G R h=>?_)
 ·obtain⟨p,rp,W,fr,rows,st,rfl,_⟩:=h;rfl
 ·obtain⟨p,rp,W,fr,rows,st,rfl,A,post⟩:=h
  simp![A.ob,lm_all];refine⟨v97,?_⟩;rw[show((fr:Int)+1)=((fr+1:Nat):Int) by omega,lm_all.2.2.2.2.2.2.2.2.1];dsimp![u01,lm_all];rw[show(((fr+1:Nat):Int)-1)=(fr:Int) by omega];exact post _ ⟨u01,by rw[u06 (D6 A.pr)];exact A.ro⟩ λb o h1 h2 e=>by rw[u06 h1];exact e
theorem wn8{n:Nat}:Ok P w mg base (n+1) T.f_jac ue9:=by
 refine u14 T.f_jac vr6 (λds G R h=>?_) (λcdv A outer s H E hr =>
   (u02 (u38 (uy7 (u73 T.c_Loom.cl T.c_Loom.n_rows (ev 0)) (u00 (ev 1) u03)))
   (u07 (uw6 T.c_Loom.cl T.c_Loom.n_steps (ev 0) (u18 u77 rfl T.b_len (by decide) (u00 (ev 1) u03)) uo3)))) (λds G R h=>?_)
 ·obtain⟨p,rp,q,W,fr,rows,new,st,rfl,_⟩:=h;rfl
 ·obtain⟨p,rp,q,W,fr,rows,new,st,rfl,A,hq,nq,h1,h2,post⟩:=h
  simp![A.ob,A.ro,lm_all,hq];refine⟨by rw[B5,B5];exact D4 (m:=20000) (by omega) (by decide),?_⟩;have l2:((new.map Row.d).length<=sizeLine)=True:=eq_true (by rw[B5];exact D4 (m:=20000) (by omega) (by decide));dsimp![u06 A.pr,A.ob,lm_all,u06 nq,hq,l2,B5];rw[show((st:Int)+(new.length:Int))=((st+new.length:Nat):Int) by omega];refine⟨v97,?_⟩;rw[lm_all.2.2.2.2.2.2.2.2.2];refine post _ ⟨u01,by rw[u06 (D6 A.pr),u01,D2]⟩ λb o h1 h2 e=>by rw[u06 h1,u06 h2];exact e
theorem wn7{n:Nat}(G_jae:Ok P w mg base n T.f_jae wa1):Ok P w mg base (n+1) T.f_jad ww1:=by
 refine u14 T.f_jad vr5 (λds G R h=>?_) (λcdv A outer s H E hr =>
   (u02 (u38 (em T.c_Loom.cl T.f_jae T.m_jae G_jae hr (ev 0) (u00 (ev 1) (u00 u05 (u00 (ev 2) u03)))))
   (u02 (u38 (em T.c_Loom.cl T.f_jae T.m_jae G_jae hr (ev 0) (u00 (ev 1) (u00 u05 (u00 (ev 3) u03)))))
   (u07 (uw6 T.c_Loom.cl T.c_Loom.n_steps (ev 0) (u16 u50 (u18 u77 rfl T.b_len (by decide) (u00 (ev 2) u03)) u05) uo3))))) (λds G R h=>?_)
 ·obtain⟨p,rp,q1,q2,W,fr,ch,rows,ys,ns,st,rfl,_⟩:=h;rfl
 ·obtain⟨p,rp,q1,q2,W,fr,ch,rows,ys,ns,st,rfl,A,k1,k2,n1,n2,h1,h2,h3,post⟩:=h
  have cpu:∀{G:Gp} {q:Addr} {n:Int} {rows new:List Row} {Q:DK},LoomAt u17 G p rp W fr rows st->G q=some (.lst (new.map Row.d))->q≠rp->rows.length<=9000->new.length<=1000->(∀G',LoomAt u17 G' p rp W fr (rows++(.go ch n (rows.length+new.length+1)::(new++[.come ch n rows.length]))) st->LAdv p rp G G'->Q .non G')->∃R,wa1 [.ref p,.int (ch:Int),.int n,.ref q] G R/\∀d G',R d G'->Q d G':=λA hq nq h1 h2 k =>
   u48 (post:=λd G'=>d=.non/\LoomAt u17 G' p rp W fr _ st/\LAdv p rp _ G') (λR h'=>⟨p,rp,_,W,fr,ch,_,_,_,st,rfl,A,hq,nq,h1,h2,λG' x y=>h' _ _ ⟨rfl,x,y⟩⟩) λd G' ⟨e,x,y⟩=>by subst e;exact k G' x y
  have np:∀{G:Gp} {q:Addr} {l:List Row} {rows:List Row},LoomAt u17 G p rp W fr rows st->G q=some (.lst (l.map Row.d))->q≠p:=λA k z=>by rw[z,A.ob] at k;cases k
  simp![A.ob,lm_all];refine cpu A k1 n1 (by omega) (by omega) λG1 A1 a1=>?_
  have k2':=a1 _ _ (np A k2) n2 k2;have k1':=a1 _ _ (np A k1) n1 k1;simp![A1.ob,lm_all];dsimp![A1.ob,lm_all];refine cpu A1 k2' n2 (by rw[B0,C0,B0];show rows.length+(ys.length+1+1)<=9000;omega) (by omega) λG2 A2 a2=>?_
  have k1'':=a2 _ _ (np A1 k1') n1 k1';have l2:((ys.map Row.d).length<=sizeLine)=True:=eq_true (by rw[B5];exact D4 (m:=3000) (by omega) (by decide));simp![id];dsimp![A2.ob,lm_all,k1'',l2,B5];refine⟨v97,?_⟩;rw[show((st:Int)+((ys.length:Int)+3))=((st+(ys.length+3):Nat):Int) by omega,lm_all.2.2.2.2.2.2.2.2.2];refine post _ ⟨u01,?_⟩ λb o h1 h2 e=>by rw[u06 h1];exact a2 b o h1 h2 (a1 b o h1 h2 e)
  rw[u06 (D6 A.pr),A2.ro];have e3:(rows++(Row.go ch 0 (rows.length+ys.length+1)::(ys++[.come ch 0 rows.length]))).length=rows.length+(ys.length+2):=by rw[B0,C0,B0];rfl
  rw[e3,E1];rfl
theorem wn6{n:Nat}:Ok P w mg base (n+1) T.f_jae wa1:=by
 refine u14 T.f_jae sc_jae (λds G R h=>?_) (λcdv A outer s H E hr =>
   (u02 (u20 4 sc_jae.nd (u18 u77 rfl T.b_len (by decide) (u00 (u73 T.c_Loom.cl T.c_Loom.n_rows (ev 0)) u03)))
   (u02 (u38 (ua8 (u73 T.c_Loom.cl T.c_Loom.n_rows (ev 0)) (u00 (u23 (u00 u08 (u00 (ev 1) (u00 (ev 2) (u00 (u16 u50 (u16 u50 (ev 4) (u18 u77 rfl T.b_len (by decide) (u00 (ev 3) u03))) u05) u03))))) u03)))
   (u02 (u38 (uy7 (u73 T.c_Loom.cl T.c_Loom.n_rows (ev 0)) (u00 (ev 3) u03)))
   (u07 (u38 (ua8 (u73 T.c_Loom.cl T.c_Loom.n_rows (ev 0)) (u00 (u23 (u00 u08 (u00 (ev 1) (u00 (ev 2) (u00 (ev 4) u03))))) u03)))))))) (λds G R h=>?_)
 ·obtain⟨p,rp,q,W,fr,x,n,rows,new,st,rfl,_⟩:=h;rfl
 ·obtain⟨p,rp,q,W,fr,x,n,rows,new,st,rfl,A,hq,nq,h1,h2,post⟩:=h
  have l1:((rows.map Row.d).length<=sizeLine)=True:=eq_true (by rw[B5];exact D4 (m:=20000) (by omega) (by decide));have l2:((new.map Row.d).length<=sizeLine)=True:=eq_true (by rw[B5];exact D4 (m:=20000) (by omega) (by decide));simp![A.ob,A.ro,lm_all,l1];dsimp![A.ob,A.ro,lm_all,hq,l2];refine⟨by decide,by rw[B5];exact C4 (m:=20000) (by omega) (by decide),?_⟩;have e1:(rows.map Row.d++[D.tup [D.str "go",.int (x:Int),.int n,.int (((rows.map Row.d).length:Int)+((new.map Row.d).length:Int)+1)]])=(rows++[Row.go x n (rows.length+new.length+1)]).map Row.d:=by
   rw[D2,B5,B5];rfl
  rw[e1];obtain⟨r2,hr2⟩:∃r2,r2=rows++[Row.go x n (rows.length+new.length+1)]:=⟨_,rfl⟩;have hl2:r2.length=rows.length+1:=by rw[hr2,B0];rfl
  rw[<- hr2];dsimp![u06 A.pr,A.ob,lm_all,u01,u06 nq,hq];refine⟨by rw[B5,B5];exact D4 (m:=20000) (by omega) (by decide),?_⟩;rw[<- D2];dsimp![u06 A.pr,A.ob,lm_all,u01];refine⟨by decide,by rw[B5,B0];exact C4 (m:=20000) (by omega) (by decide),?_⟩;rw[u29,u29];refine post _ ⟨by rw[u06 A.pr];exact A.ob,?_⟩ λb o h1 h2 e=>by rw[u06 h2];exact e
  rw[u01,hr2];have e2:rows++(Row.go x n (rows.length+new.length+1)::(new++[.come x n rows.length]))=(rows++[Row.go x n (rows.length+new.length+1)]++new)++[Row.come x n rows.length]:=by simp
  rw[e2,D2 (l₁:=rows++[Row.go x n (rows.length+new.length+1)]++new),B5];rfl
theorem wi6{n:Nat}(G_jab:Ok P w mg base n T.f_jab ww2)(G_jck:Ok P w mg base (n+1) T.f_jck wt1):Ok P w mg base (n+1+1) T.f_jch vn4:=by
 refine u14 T.f_jch sc_jch (λds G R h=>?_) (λcdv A outer s H E hr =>
   (u02 (u20 5 sc_jch.nd (emk T.mk_Loom T.c_Loom.m G_jab hr (u00 (ev 2) (u00 (ev 4) u03))))
   (u02 (u20 6 sc_jch.nd (ur4 hr rfl T.b_zip rfl T.b_dict (u00 (ev 1) (u00 (ev 3) u03))))
   (u02 (u38 (ec T.f_jck T.g_weave_rows G_jck hr (u00 (ev 0) (u00 (ev 6) (u00 (ev 5) u03)))))
   (u07 (u15 (u23 (u00 (u73 T.c_Loom.cl T.c_Loom.n_rows (ev 5)) (u00 (u59 (N':=["name", "where"]) (ix:=[none,some 6]) (blk (osc:=u04 vf8) (N:=["pieces", "boxes", "wide", "places", "fresh", "loom", "where"]) rfl rfl (by decide)) (u82 (ev 1)) (λ_ _ _ _=>(u19 0 (show(["name", "where"]:List Str).Nodup by decide))) (λ_ _ _ _=>u44) (λ_ _ _ _=>(uc0 hr (ev 1) (ev 0)))) (u00 (u73 T.c_Loom.cl T.c_Loom.n_fresh (ev 5)) (u00 (u73 T.c_Loom.cl T.c_Loom.n_steps (ev 5)) u03))))))))))) (λds G R h=>?_)
 ·obtain⟨pc,pa,W,fr,bs,pl,rs,rfl,_⟩:=h;rfl
 ·obtain⟨pc,pa,W,fr,bs,pl,rs,rfl,hpc,hpa,hl,hb,hn,hr,hs,hdp,hsz,hW,post⟩:=h
  simp![id];intro p hp;have g0:Grow G (gup G p (.ins u17 [])):=Grow.refl.new hp;refine u48 (post:=λd G'=>d=.non/\∃rp,G rp=none/\rp≠p/\LoomAt u17 G' p rp W fr [] 0/\Grow G G') (λR h=>⟨p,W,fr,rfl,u01,λrp G' x1 x2 x3=>h _ _ ⟨rfl,rp,g0.none x1,D6 (gne u01 x1),x2,⟨λb o e=>x3 b o (gne e hp) (g0.kp _ _ e)⟩⟩⟩) ?_;rintro d G1 ⟨rfl,rp,hrp,nrp,A1,g1⟩;refine⟨rfl,?_⟩;have hpa1:=g1.kp _ _ hpa;have hpc1:=g1.kp _ _ hpc;have hkb:(bs.map R7).map kD=bs.map D.str:=by rw[A72];rfl
  dsimp![uf8];refine⟨bs.map R7,pl.map nD,by rw[hkb];rfl,by show u13 (G1 pa)=_;rw[hpa1];rfl,by rw[B5,B5];exact hl.symm,by rw[B5];omega,λwa hwa=>?_⟩;rw[uk3 hl hn];have g2:Grow G (gup G1 wa (.dic (u09 bs pl))):=g1.new hwa;have A2:=A1.new (o:=.dic (u09 bs pl)) hwa;have fwa:G wa=none:=g1.none hwa;dsimp![id];refine u48 (post:=λd G'=>d=.non/\LoomAt u17 G' p rp W (wcL W bs rs 0 pl fr).2.2.1 (wcL W bs rs 0 pl fr).1 (wcL W bs rs 0 pl fr).2.2.2/\G' wa=some (.dic (u09 bs (wcL W bs rs 0 pl fr).2.1))/\(∀b o,b≠p->b≠rp->b≠wa->gup G1 wa (.dic (u09 bs pl)) b=some o->G' b=some o)) (λR h=>⟨.ref pc,p,rp,wa,W,fr,bs,pl,[],0,rs,rfl,A2,u01,by show u13 (gup G1 wa (.dic (u09 bs pl)) pc)=_;rw[g2.kp _ _ hpc];rfl,λz=>gne hpc hrp (D.ref.inj z),hl,hb,hn,hr,hs,C4 hdp (by decide),by show 0+22*szL rs<=3960;omega,hW,λG' x y z=>h _ _ ⟨rfl,by rw[F8,Q9] at x;exact x,y,z⟩⟩) ?_;rintro d G3 ⟨rfl,A3,w3,f3⟩;have g3:Grow G G3:=⟨λb o e=>f3 b o (gne e hp) (gne e hrp) (gne e fwa) (g2.kp _ _ e)⟩;simp![id];dsimp![A3.ob,lm_all];intro p1 hp1;have hl3:(wcL W bs rs 0 pl fr).2.1.length=bs.length:=(u81 hW hb rs (a:=0) (fr:=fr) hr hs hl).2.2.2.1;generalize hX:wcL W bs rs 0 pl fr=X at *;obtain⟨new,pl3,f3',stp3⟩:=X;refine u28 (λr σ G'=>∃(l t:List Str) (v0:Option D),l++t=bs/\r=t.map D.str/\G'=gup G3 p1 (.lst ((l.map (gtB bs pl3)).map nD))/\σ=[v0,some (.ref wa)]) ⟨[],bs,none,rfl,rfl,rfl,rfl⟩ ?_ ?_
  ·rintro σ G4 ⟨l,t,v0,el,e2,rfl,rfl⟩
   have ht:t=[]:=by simpa using e2.symm
   subst ht;rw[F7] at el;subst el;refine⟨trivial,?_⟩;have A4:=A3.new (o:=.lst ((l.map (gtB l pl3)).map nD)) hp1;simp![A4.ob,lm_all];rw[um8 hn hl3];rw[um8 hn hl3] at A4;refine⟨by decide,post rp p1 _ hrp (g3.none hp1) ?_ A4.ro u01 (g3.new hp1)⟩;exact gne A3.ro hp1
  ·rintro z t σ G4 ⟨l,t,v0,el,e2,rfl,rfl⟩ ih
   cases t with
   | nil=>cases e2
   | cons x0 t =>
    cases e2;refine⟨trivial,?_⟩;have hm:x0∈bs:=by rw[<- el];simp
    have hlen:=congrArg J1 el;rw[B0,C0] at hlen;simp![ur8];refine⟨wa,u09 bs pl3,.inr x0,_,rfl,rfl,by rw[u06 (gne w3 hp1)];exact w3,u57 hm hl3,?_⟩;simp![u01];refine⟨C4 (m:=1000) (by rw[B5,B5];omega) (by decide),ih _ _ ⟨l++[x0],t,_,by rw[<- el];simp,rfl,?_,rfl⟩⟩;rw[u29,D2,D2];rfl
theorem wi4{n dp:Nat}(G_jci:Ok P w mg base n T.f_jci (wt2 dp))(G_jby:Ok P w mg base n T.f_jby vn5)(G_jcm:Ok P w mg base n T.f_jcm wt0):Ok P w mg base (n+1) T.f_jck (ve1 (dp+1)):=by
 refine u14 T.f_jck sc_jck (λds G R h=>?_) (λcdv A outer s H E hr =>
   (u07 (uc6 (u82 (ev 0)) (u19 3 sc_jck.nd) (u07 (s_if (u26 (x_eq hr) (e_ix x_ix (ev 3) u05) u08 (nomark _)) (u07 (ug3 hr (ev 1) (e_ix x_ix (ev 3) u05) (ec T.f_jby T.g_place_of G_jby hr (u00 (e_ix x_ix (ev 3) u05) (u00 (ev 1) (u00 (ev 2) u03)))))) (u07 (s_if (u26 (x_eq hr) (e_ix x_ix (ev 3) u05) u08 (nomark _)) (u02 (u20 4 sc_jck.nd (ec T.f_jby T.g_place_of G_jby hr (u00 (e_ix x_ix (ev 3) u05) (u00 (ev 1) (u00 (ev 2) u03)))))
   (u02 (u20 5 sc_jck.nd (ec T.f_jby T.g_place_of G_jby hr (u00 (e_ix x_ix (ev 3) u05) (u00 (ev 1) (u00 (ev 2) u03)))))
   (u07 (ug3 hr (ev 1) (e_ix x_ix (ev 3) u05) (ec T.f_jcm T.g_weave_sign G_jcm hr (u00 (e_ix x_ix (ev 3) u05) (u00 (ev 4) (u00 (ev 5) (u00 (ev 2) u03))))))))) (u07 (u38 (ec T.f_jci T.g_weave_choose G_jci hr (u00 (ev 3) (u00 (ev 1) (u00 (ev 2) u03))))))))))))) (λds G R h=>?_)
 ·obtain⟨d,p,rp,wa,W,fr,bs,pl,rows,st,rs,rfl,_⟩:=h;rfl
 ·obtain⟨d,p,rp,wa,W,fr,bs,pl,rows,st,rs,rfl,A,hw,h0,nd,hl,hb,hn,hok,hnt,hdp,hsz,hW,post⟩:=h
  have nwp:wa≠p:=λz=>by rw[z,A.ob] at hw;cases hw
  have nwr:wa≠rp:=λz=>by rw[z,A.ro] at hw;cases hw
  have kd:∀G':Gp,(∀b o,b≠p->b≠rp->b≠wa->G b=some o->G' b=some o)->sqD G' d=some (u25 rs):=by
   intro G' f;cases d with
   | tup ds=>exact h0
   | ref a =>
    have h0':u13 (G a)=some (u25 rs):=h0;cases e:G a with
    | none=>rw[e] at h0';cases h0'
    | some o =>
     have n1:a≠p:=λz=>by rw[z,A.ob] at h0';cases h0'
     have n2:a≠rp:=λz=>nd (by rw[z])
     have n3:a≠wa:=λz=>by rw[z,hw] at h0';cases h0'
     show u13 (G' a)=_
     rw[f a o n1 n2 n3 e,<- e];exact h0'
   | _=>exact absurd h0 (by simp[sqD])
  refine va8 h0 rfl λok hok0=>?_
  refine u54 (λr σ G'=>∃(l t:List Rowp) (v3 v4 v5:Option D),l++t=rs/\r=u25 t/\LoomAt u17 G' p rp W (wcL W bs l rows.length pl fr).2.2.1 (rows++(wcL W bs l rows.length pl fr).1) (st+(wcL W bs l rows.length pl fr).2.2.2)/\G' wa=some (.dic (u09 bs (wcL W bs l rows.length pl fr).2.1))/\(∀b o,b≠p->b≠rp->b≠wa->G b=some o->G' b=some o)/\σ=[some d,some (.ref wa),some (.ref p),v3,v4,v5]) ⟨[],rs,none,none,none,rfl,rfl,by show LoomAt u17 G p rp W fr (rows++[]) (st+0);rw[F7];exact A,hw,λ_ _ _ _ _ e=>e,rfl⟩ ?_ ?_
  ·rintro σ G1 ⟨l,t,v3,v4,v5,e,e2,A1,w1,f1,rfl⟩
   have ht:t=[]:=by
    cases t with
    | nil=>rfl
    | cons x t=>cases e2
   subst ht;rw[F7] at e;subst e;exact⟨hok0 _ (kd _ f1),post G1 A1 w1 f1⟩
  ·rintro z r σ G1 ⟨l,t,v3,v4,v5,e,e2,A1,w1,f1,rfl⟩ ih
   cases t with
   | nil=>cases e2
   | cons r0 t =>
    cases e2;refine⟨hok0 _ (kd _ f1),?_⟩;have hm:r0∈rs:=by rw[<- e];simp
    have hor:=v80 hok hm;have hnr:=ux4 hnt hm;have hdr:=ug7 (A43 hdp) r0 hm;have hsn:=uv7 (W:=W) (bs:=bs) l (r:=r0) (a:=rows.length) (pl:=pl) (fr:=fr);have hsl:szL rs=szL l+(szR r0+szL t):=by rw[<- e,u97];rfl
    have hoL:okL W bs l:=by rw[<- e] at hok;exact(okL_app.mp hok).1
    have hnL:ntL l:=by rw[<- e] at hnt;exact(ntL_app.mp hnt).1
    have hle:=u81 hW hb l (a:=rows.length) (fr:=fr) hoL hnL hl;generalize hX:wcL W bs l rows.length pl fr=X at *;obtain⟨xr,xp,xf,xs⟩:=X;obtain⟨q1,q2,q3,q4,q5⟩:xr.length<=22*szL l/\xf<=fr+9*szL l/\fr<=xf/\xp.length=bs.length/\xs<=22*szL l:=hle;have A1:LoomAt u17 G1 p rp W xf (rows++xr) (st+xs):=A1;have w1:G1 wa=some (.dic (u09 bs xp)):=w1;have hrl:(rows++xr).length=rows.length+xr.length:=B0;have ld:(u09 bs xp).length<sizeLine:=C4 (m:=1000) (by have:=u85 bs xp;(clear hrl w1 q5 q3 q2 q1 hsn hX hsl hdr ih e f1 hok0 kd nwr nwp post hW hsz hdp nd h0 hw;omega)) (by decide);have hsn:wcL W bs (l++[r0]) rows.length pl fr=(xr++(wcR W bs r0 (rows.length+xr.length) xp xf).1,(wcR W bs r0 (rows.length+xr.length) xp xf).2.1,(wcR W bs r0 (rows.length+xr.length) xp xf).2.2.1,xs+(wcR W bs r0 (rows.length+xr.length) xp xf).2.2.2):=hsn;generalize hFL:forL ok _ _ _ (u25 t)=FL at ih⊢;have nxt:∀(G2:Gp) (v3 v4 v5:Option D),LoomAt u17 G2 p rp W (wcR W bs r0 (rows.length+xr.length) xp xf).2.2.1 (rows++xr++(wcR W bs r0 (rows.length+xr.length) xp xf).1) (st+xs+(wcR W bs r0 (rows.length+xr.length) xp xf).2.2.2)->G2 wa=some (.dic (u09 bs (wcR W bs r0 (rows.length+xr.length) xp xf).2.1))->(∀b o,b≠p->b≠rp->b≠wa->G1 b=some o->G2 b=some o)->FL [some d,some (.ref wa),some (.ref p),v3,v4,v5] G2:=λG2 v3 v4 v5 B1 B2 B3 =>
     ih _ _ ⟨l++[r0],t,v3,v4,v5,by rw[<- e];simp,rfl,by rw[hsn,<- E1,<- O0];exact B1,by rw[hsn];exact B2,λb o h1 h2 h3 e=>B3 b o h1 h2 h3 (f1 b o h1 h2 h3 e),rfl⟩
    have fin:∀(G2:Gp) (v3 v4 v5:Option D) (x:Str) (b f2:Nat) (new:List Row),LoomAt u17 G2 p rp W f2 (rows++xr++new) (st+xs+new.length)->LAdv p rp G1 G2->x∈bs->wcR W bs r0 (rows.length+xr.length) xp xf=(new,ptB bs xp x b,f2,new.length)->FL [some d,some (.ref wa),some (.ref p),v3,v4,v5] (gup G2 wa (.dic (uc7 (u09 bs xp) (.inr x) (.int (b:Int))))):=by
     intro G2 v3 v4 v5 x b f2 new A2 a2 hx ev;rw[u99 hx hn q4];refine nxt _ _ _ _ ?_ ?_ λc o h1 h2 h3 e=>?_
     ·rw[ev];exact⟨by rw[u06 (D6 nwp)];exact A2.ob,by rw[u06 (D6 nwr)];exact A2.ro⟩
     ·rw[u01,ev]
     ·rw[u06 h3];exact a2 c o h1 h2 e
    cases r0 with
    | is x a =>
     obtain⟨hx,ha⟩:x∈bs/\okA W bs a:=hor;have hs1:szR (.is x a)=1:=rfl;simp![rowD,v27];refine uo0 A1 w1 q4 ha (by(clear fin nxt hsn hdr e ih hFL ld w1 q5 q4 q3 q2 hX f1 hok0 kd nwr nwp post hW hdp hb hl nd h0 hw;omega)) λG2 A2 a2=>?_
     simp![id];refine⟨wa,u09 bs xp,.inr x,rfl,rfl,a2 _ _ nwp nwr w1,ld,?_⟩;exact fin G2 _ _ _ x _ _ _ A2 a2 hx rfl
    | op x o a c =>
     obtain⟨hx,ho,ha,hc⟩:x∈bs/\o∈L3.signs/\okA W bs a/\okA W bs c:=hor;have hs1:szR (.op x o a c)=1:=rfl;have d1:(C1 "op" = C1 "is")=False:=eq_false (by decide);simp![rowD,d1];refine uo0 A1 w1 q4 ha (by(clear d1 fin nxt hsn hdr e ih hFL ld w1 q5 q4 q3 q2 hX f1 hok0 kd nwr nwp post hW hdp hb hl nd h0 hw;omega)) λG2 A2 a2=>?_
     have hw2:=a2 _ _ nwp nwr w1;have la:=ua1 (fr:=xf) a;have lc:=ua1 (fr:=plF xf a) c;simp![id];dsimp![id];refine uo0 A2 hw2 q4 hc (by rw[B0];(clear lc hw2 d1 fin nxt hsn hdr e ih hFL ld w1 q5 q4 q3 q2 hX f1 hok0 kd nwr nwp post hW hdp hb hl nd h0 hw;omega)) λG3 A3 a3=>?_
     have hw3:=a3 _ _ nwp nwr hw2;simp![id];dsimp![v27];refine u49 ⟨o,ho,p,rp,W,plF (plF xf a) c,plB bs xp xf a,plB bs xp (plF xf a) c,_,_,rfl,A3,hW,by rw[B0,B0];(clear hw3 hw2 d1 fin nxt hsn hdr e ih hFL ld w1 q5 q4 q3 q2 hX f1 hok0 kd nwr nwp post hW hdp hb hl nd h0 hw;omega),λG4 A4 a4=>?_⟩;simp![id];refine⟨wa,u09 bs xp,.inr x,rfl,rfl,a4 _ _ nwp nwr hw3,ld,?_⟩;refine fin G4 _ _ _ x _ _ _ ?_ (a2.trans (a3.trans a4)) hx rfl
     show LoomAt u17 G4 p rp W (sgF (plF (plF xf a) c) o) (rows++xr++(plR xf a++plR (plF xf a) c++sgR W (plB bs xp xf a) (plB bs xp (plF xf a) c) (plF (plF xf a) c) o)) (st+xs+(plR xf a++plR (plF xf a) c++sgR W (plB bs xp xf a) (plB bs xp (plF xf a) c) (plF (plF xf a) c) o).length)
     rw[show rows++xr++(plR xf a++plR (plF xf a) c++sgR W (plB bs xp xf a) (plB bs xp (plF xf a) c) (plF (plF xf a) c) o)=rows++xr++plR xf a++plR (plF xf a) c++sgR W (plB bs xp xf a) (plB bs xp (plF xf a) c) (plF (plF xf a) c) o by simp[E1],B0,B0,<- O0,<- O0];exact A4
    | cho a ys ns =>
     have d1:(C1 "choose" = C1 "is")=False:=eq_false (by decide);have d2:(C1 "choose" = C1 "op")=False:=eq_false (by decide);have hd':1+max (depL ys) (depL ns)<=dp:=hdr;simp![rowD,d1,d2];refine u48 (post:=λd G'=>d=.non/\LoomAt u17 G' p rp W (wcR W bs (.cho a ys ns) (rows.length+xr.length) xp xf).2.2.1 (rows++xr++(wcR W bs (.cho a ys ns) (rows.length+xr.length) xp xf).1) (st+xs+(wcR W bs (.cho a ys ns) (rows.length+xr.length) xp xf).2.2.2)/\G' wa=some (.dic (u09 bs (wcR W bs (.cho a ys ns) (rows.length+xr.length) xp xf).2.1))/\∀b o,b≠p->b≠rp->b≠wa->G1 b=some o->G' b=some o) (λR h'=>⟨p,rp,wa,W,xf,bs,xp,rows++xr,st+xs,a,ys,ns,rfl,A1,w1,q4,hb,hn,hor,hnr,by(clear h' d2 d1 fin nxt hsn hsl hdr e ih hFL ld hrl w1 q5 q4 q3 q2 q1 hX f1 hok0 kd nwr nwp post hW hsz hdp hb hl nd h0 hw;omega),by(clear h' d2 d1 fin nxt hsn hsl hdr e ih hFL ld hrl w1 q5 q4 q3 q2 q1 hX f1 hok0 kd nwr nwp post hW hsz hdp hb hl nd h0 hw;omega),by(clear h' hd' d2 d1 fin nxt hsn hdr e ih hFL ld w1 q5 q4 q3 q2 hX f1 hok0 kd nwr nwp post hW hdp hb hl nd h0 hw;omega),hW,λG' x y z=>h' _ _ ⟨rfl,by rw[hrl] at x;exact x,by rw[hrl] at y;exact y,z⟩⟩) ?_;rintro d G2 ⟨rfl,A2,w2,f2⟩;simp![id];exact nxt G2 _ _ _ A2 w2 f2
    | tim k ys=>exact hnr.elim
theorem wi5{n dp:Nat}(G_jaa:Ok P w mg base n T.f_jaa uf0)(G_jad:Ok P w mg base n T.f_jad ww1)(G_jck:Ok P w mg base n T.f_jck (ve1 dp))(G_jby:Ok P w mg base n T.f_jby vn5)(G_jcf:Ok P w mg base n T.f_jcf wt4):Ok P w mg base (n+1) T.f_jci (wt2 dp):=by
 refine u14 T.f_jci sc_jci (λds G R h=>?_) (λcdv A outer s H E hr =>
   (u02 (u20 3 sc_jci.nd (u27 uv6 rfl T.b_dict (by decide) (u00 (ev 1) u03)))
   (u02 (u38 (ec T.f_jck T.g_weave_rows G_jck hr (u00 (e_ix x_ix (ev 0) u05) (u00 (ev 3) (u00 (ev 2) u03)))))
   (u02 (u20 4 sc_jci.nd (u27 uv6 rfl T.b_dict (by decide) (u00 (ev 1) u03)))
   (u02 (u38 (ec T.f_jck T.g_weave_rows G_jck hr (u00 (e_ix x_ix (ev 0) u05) (u00 (ev 4) (u00 (ev 2) u03)))))
   (u02 (u20 5 sc_jci.nd (ec T.f_jcf T.g_truth G_jcf hr (u00 (ec T.f_jby T.g_place_of G_jby hr (u00 (e_ix x_ix (ev 0) u05) (u00 (ev 1) (u00 (ev 2) u03)))) (u00 (ev 2) u03))))
   (u02 (u38 (x27 (ev 1) (ev 3)))
   (u02 (vr9 6 sc_jci.nd (N':=["name", "yes", "no"]) (ix:=[none,some 3,some 4]) (blk (osc:=u04 v04) (N:=["row", "where", "loom", "yes", "no", "chosen", "unlike", "name"]) rfl rfl (by decide)) (w58 (ev 3)) (λ_ _ _ _=>(u19 0 (show(["name", "yes", "no"]:List Str).Nodup by decide))) (λ_ _ _ _=>(w57 (u26 (x_ne hr) (vb3 hr (ev 1) (ev 0)) (uc0 hr (ev 2) (ev 0)) (nomark _)))) (λ_ _ _ _=>(ev 0)))
   (u02 (uc6 (u82 (ev 6)) (u19 7 sc_jci.nd) (u07 (ug3 hr (ev 1) (ev 7) (em0 T.c_Loom.cl T.f_jaa T.m_jaa G_jaa hr (ev 2)))))
   (u07 (u38 (em T.c_Loom.cl T.f_jad T.m_jad G_jad hr (ev 2) (u00 (ev 5) (u00 (u59 (N':=["name", "where", "yes"]) (ix:=[none,some 1,some 3]) (blk (osc:=u04 v04) (N:=["row", "where", "loom", "yes", "no", "chosen", "unlike", "name"]) rfl rfl (by decide)) (u82 (ev 6)) (λ_ _ _ _=>(u19 0 (show(["name", "where", "yes"]:List Str).Nodup by decide))) (λ_ _ _ _=>u44) (λ_ _ _ _=>(u23 (u00 u08 (u00 (uc0 hr (ev 1) (ev 0)) (u00 (u23 (u00 u08 (u00 (vb3 hr (ev 2) (ev 0)) u03))) u03)))))) (u00 (u59 (N':=["name", "where", "no"]) (ix:=[none,some 1,some 4]) (blk (osc:=u04 v04) (N:=["row", "where", "loom", "yes", "no", "chosen", "unlike", "name"]) rfl rfl (by decide)) (u82 (ev 6)) (λ_ _ _ _=>(u19 0 (show(["name", "where", "no"]:List Str).Nodup by decide))) (λ_ _ _ _=>u44) (λ_ _ _ _=>(u23 (u00 u08 (u00 (uc0 hr (ev 1) (ev 0)) (u00 (u23 (u00 u08 (u00 (uc0 hr (ev 2) (ev 0)) u03))) u03)))))) u03))))))))))))))) (λds G R h=>?_)
 ·obtain⟨p,rp,wa,W,fr,bs,pl,rows,st,c,ys,ns,rfl,_⟩:=h;rfl
 ·obtain⟨p,rp,wa,W,fr,bs,pl,rows,st,c,ys,ns,rfl,A,hw,hl,hb,hn,hok,hnt,hdy,hdn,hsz,hW,post⟩:=h
  obtain⟨hc,oky,okn⟩:okA W bs c/\okL W bs ys/\okL W bs ns:=hok;obtain⟨nty,ntn⟩:ntL ys/\ntL ns:=hnt;have hsz:rows.length+22*(1+szL ys+szL ns)<=3960:=hsz;have nwp:wa≠p:=λz=>by rw[z,A.ob] at hw;cases hw
  have nwr:wa≠rp:=λz=>by rw[z,A.ro] at hw;cases hw
  have hyl:=u81 hW hb ys (a:=rows.length) (fr:=fr) oky nty hl;simp![rowD];refine⟨wa,_,rfl,hw,λpy hpy=>?_⟩;have nyp:py≠p:=D6 (gne A.ob hpy);have nyr:py≠rp:=D6 (gne A.ro hpy);have nyw:py≠wa:=D6 (gne hw hpy);dsimp![id];refine u49 ⟨.tup (u25 ys),p,rp,py,W,fr,bs,pl,rows,st,ys,rfl,A.new hpy,u01,rfl,by simp,hl,hb,hn,oky,nty,hdy,by(clear nyw nyr nyp hpy nwr nwp post hW hdn hdy hb hl hw;omega),hW,λG2 A2 y2 f2=>?_⟩;have f2':∀b o,b≠p->b≠rp->G b=some o->G2 b=some o:=λb o h1 h2 e=>f2 b o h1 h2 (gne e hpy) (by rw[u06 (gne e hpy)];exact e)
  have w2:=f2' _ _ nwp nwr hw;have hcho:∀{N:List Row×List Nat×Nat×Nat},wcL W bs ns (rows.length+(wcL W bs ys rows.length pl fr).1.length) pl (wcL W bs ys rows.length pl fr).2.2.1=N->wcR W bs (.cho c ys ns) rows.length pl fr=((wcL W bs ys rows.length pl fr).1++N.1++plR N.2.2.1 c++[Row.take (plF N.2.2.1 c) (.box (plB bs pl N.2.2.1 c)),Row.turn (plF N.2.2.1 c+1) 0 [(plF N.2.2.1 c,31)]]++chR (rows.length+((wcL W bs ys rows.length pl fr).1++N.1++plR N.2.2.1 c++[Row.take (plF N.2.2.1 c) (.box (plB bs pl N.2.2.1 c)),Row.turn (plF N.2.2.1 c+1) 0 [(plF N.2.2.1 c,31)]]).length) (plF N.2.2.1 c+1) (tkR (plF N.2.2.1 c+2) (uY (wcL W bs ys rows.length pl fr).2.1 N.2.1)) (tkR (plF N.2.2.1 c+2) (uN (wcL W bs ys rows.length pl fr).2.1 N.2.1)),mrg (plF N.2.2.1 c+2) (wcL W bs ys rows.length pl fr).2.1 N.2.1,plF N.2.2.1 c+2+(uY (wcL W bs ys rows.length pl fr).2.1 N.2.1).length,(wcL W bs ys rows.length pl fr).2.2.2+N.2.2.2+(plR N.2.2.1 c).length+2+((uY (wcL W bs ys rows.length pl fr).2.1 N.2.1).length+3)):=λe=>by subst e;rfl
  generalize hY:wcL W bs ys rows.length pl fr=Y at *;obtain⟨yr,yp,yf,yst⟩:=Y;obtain⟨l1,l2,l3,l4,l5⟩:yr.length<=22*szL ys/\yf<=fr+9*szL ys/\fr<=yf/\yp.length=bs.length/\yst<=22*szL ys:=hyl;have A2:LoomAt u17 G2 p rp W yf (rows++yr) (st+yst):=A2;have y2:G2 py=some (.dic (u09 bs yp)):=y2;have hnl:=u81 hW hb ns (a:=rows.length+yr.length) (fr:=yf) okn ntn hl;have hrl:(rows++yr).length=rows.length+yr.length:=B0;simp![id];dsimp![id];refine⟨wa,_,rfl,w2,λpn hpn=>?_⟩;have nnp:pn≠p:=D6 (gne A2.ob hpn);have nnr:pn≠rp:=D6 (gne A2.ro hpn);have nnw:pn≠wa:=D6 (gne w2 hpn);have nny:pn≠py:=D6 (gne y2 hpn);dsimp![id];refine u48 (post:=λd G'=>d=.non/\LoomAt u17 G' p rp W (wcL W bs ns (rows.length+yr.length) pl yf).2.2.1 (rows++yr++(wcL W bs ns (rows.length+yr.length) pl yf).1) (st+yst+(wcL W bs ns (rows.length+yr.length) pl yf).2.2.2)/\G' pn=some (.dic (u09 bs (wcL W bs ns (rows.length+yr.length) pl yf).2.1))/\∀b o,b≠p->b≠rp->b≠pn->gup G2 pn (.dic (u09 bs pl)) b=some o->G' b=some o) (λR h'=>⟨.tup (u25 ns),p,rp,pn,W,yf,bs,pl,rows++yr,st+yst,ns,rfl,A2.new hpn,u01,rfl,by simp,hl,hb,hn,okn,ntn,hdn,by rw[hrl];(clear h' nny nnw nnr nnp hpn y2 l5 l4 l3 l2 hcho hY w2 f2' f2 nyw nyr nyp hpy nwr nwp post hW hdn hdy hb hl hw;omega),hW,λG' x y z=>h' _ _ ⟨rfl,by rw[hrl] at x;exact x,by rw[hrl] at y;exact y,z⟩⟩) ?_;rintro d G4 ⟨rfl,A4,n4,f4⟩;have f4':∀b o,b≠p->b≠rp->G2 b=some o->G4 b=some o:=λb o h1 h2 e=>f4 b o h1 h2 (gne e hpn) (by rw[u06 (gne e hpn)];exact e)
  have w4:=f4' _ _ nwp nwr w2;have y4:=f4' _ _ nyp nyr y2;have hcho:=hcho (N:=wcL W bs ns (rows.length+yr.length) pl yf) rfl;generalize hN:wcL W bs ns (rows.length+yr.length) pl yf=N at *;obtain⟨nr,np,nf,nst⟩:=N;obtain⟨m1,m2,m3,m4,m5⟩:nr.length<=22*szL ns/\nf<=yf+9*szL ns/\yf<=nf/\np.length=bs.length/\nst<=22*szL ns:=hnl;have A4:LoomAt u17 G4 p rp W nf (rows++yr++nr) (st+yst+nst):=A4;have n4:G4 pn=some (.dic (u09 bs np)):=n4;have hpc:=ua1 (fr:=nf) c;simp![id];dsimp![id];refine uo0 A4 w4 hl hc (by rw[B0,hrl];(clear hpc n4 m5 m4 m3 m2 hcho hN y4 w4 f4' f4 nny nnw nnr nnp hpn y2 l5 l4 l3 l2 hY w2 f2' f2 nyw nyr nyp hpy nwr nwp post hW hdn hdy hb hl hw;omega)) λG5 A5 a5=>?_
  simp![id];refine u49 ⟨p,rp,W,plF nf c,plB bs pl nf c,_,_,rfl,A5,by rw[B0,B0,hrl];(clear n4 m5 m4 m3 m2 hcho hN y4 w4 f4' f4 nny nnw nnr nnp hpn y2 l5 l4 l3 l2 hY w2 f2' f2 nyw nyr nyp hpy nwr nwp post hW hdn hdy hb hl hw;omega),λG6 A6 a6=>?_⟩;have f6:∀b o,b≠p->b≠rp->G4 b=some o->G6 b=some o:=λb o h1 h2 e=>a6 b o h1 h2 (a5 b o h1 h2 e)
  have w6:=f6 _ _ nwp nwr w4;have y6:=f6 _ _ nyp nyr y4;have n6:=f6 _ _ nnp nnr n4;generalize hF:plF nf c+2=F at *;simp![id];dsimp![dUpd];refine⟨⟨wa,_,rfl,w6⟩,wa,py,_,_,rfl,rfl,D6 nyw,w6,y6,D4 (m:=1000) (by have:=u85 bs pl;have:=u85 bs yp;(clear hcho hF n6 y6 w6 f6 hpc n4 m5 m3 m2 m1 hN y4 w4 f4' f4 nny nnw nnr nnp hpn hrl y2 l5 l3 l2 l1 hY w2 f2' f2 nyw nyr nyp hpy nwr nwp hsz post hW hdn hdy hw;omega)) (by decide),?_⟩;rw[v85 hn hl l4];obtain⟨G7,hG7⟩:∃G7,G7=gup G6 wa (.dic (u09 bs yp)):=⟨_,rfl⟩;have w7:G7 wa=some (.dic (u09 bs yp)):=by rw[hG7];exact u01
  have y7:G7 py=some (.dic (u09 bs yp)):=by rw[hG7,u06 nyw];exact y6
  have n7:G7 pn=some (.dic (u09 bs np)):=by rw[hG7,u06 nnw];exact n6
  have A7:LoomAt u17 G7 p rp W F (rows++yr++nr++plR nf c++[.take (plF nf c) (.box (plB bs pl nf c)),.turn (plF nf c+1) 0 [(plF nf c,31)]]) (st+yst+nst+(plR nf c).length+2):=by rw[hG7];exact⟨by rw[u06 (D6 nwp)];exact A6.ob,by rw[u06 (D6 nwr)];exact A6.ro⟩
  have f7:∀b o,b≠p->b≠rp->b≠wa->G b=some o->G7 b=some o:=λb o h1 h2 h3 e=>by rw[hG7,u06 h3];exact f6 b o h1 h2 (f4' b o h1 h2 (f2' b o h1 h2 e))
  rw[<- hG7];clear hG7;generalize hPre:rows++yr++nr++plR nf c++[Row.take (plF nf c) (.box (plB bs pl nf c)),.turn (plF nf c+1) 0 [(plF nf c,31)]]=pre at *;generalize hSt:st+yst+nst+(plR nf c).length+2=stp at *;dsimp![vo8];refine⟨py,u09 bs yp,rfl,y7,?_⟩;rw[uy8 l4];intro o8;obtain⟨G8,hG8⟩:∃G8,G8=gup G7 py (.frd o8 (u09 bs yp)):=⟨_,rfl⟩;have w8:G8 wa=some (.dic (u09 bs yp)):=by rw[hG8,u06 (D6 nyw)];exact w7
  have y8:G8 py=some (.frd o8 (u09 bs yp)):=by rw[hG8];exact u01
  have n8:G8 pn=some (.dic (u09 bs np)):=by rw[hG8,u06 nny];exact n7
  have A8:LoomAt u17 G8 p rp W F pre stp:=by rw[hG8];exact⟨by rw[u06 (D6 nyp)];exact A7.ob,by rw[u06 (D6 nyr)];exact A7.ro⟩
  have f8:∀b o,b≠p->b≠rp->b≠wa->G b=some o->G8 b=some o:=λb o h1 h2 h3 e=>by rw[hG8,u06 (gne e hpy)];exact f7 b o h1 h2 h3 e
  rw[<- hG8];clear hG8;intro p1 hp1;generalize hN9:Go (dSeq _ _ _)=N9;have np1:py≠p1:=gne y8 hp1;have nn1:pn≠p1:=gne n8 hp1;refine u28 (λr σ G'=>∃(l t:List Str) (v0:Option D),l++t=bs/\r=t.map D.str/\G'=gup G8 p1 (.lst ((l.filter λn=>!decide (gtB bs yp n=gtB bs np n)).map D.str))/\σ=[v0,some (.ref py),some (.ref pn)]) ⟨[],bs,none,rfl,rfl,rfl,rfl⟩ ?_ ?_
  ·rintro σ G9 ⟨l,t,v0,el,e2,rfl,rfl⟩
   have ht:t=[]:=by simpa using e2.symm
   subst ht;rw[F7] at el;subst el;refine⟨by rw[u06 np1];exact y8,?_⟩;rw[uj3 hn l4 m4];have hU:=v43 (bs:=l) (ps:=yp) (qs:=np) l4 m4;have hUl:=u_le (ps:=yp) (qs:=np);have hUm:=λx=>ug2 (bs:=l) (ps:=yp) (qs:=np) (x:=x)
   have hAsg:=uv5 (f:=F) hn l4 m4;have hTk:=um2 (f:=F) hn l4 m4;generalize unN l yp np=U at *;obtain⟨G9,hG9⟩:∃G9,G9=gup G8 p1 (.lst (U.map D.str)):=⟨_,rfl⟩;have w9:G9 wa=some (.dic (u09 l yp)):=by rw[hG9,u06 (gne w8 hp1)];exact w8
   have y9:G9 py=some (.frd o8 (u09 l yp)):=by rw[hG9,u06 np1];exact y8
   have n9:G9 pn=some (.dic (u09 l np)):=by rw[hG9,u06 nn1];exact n8
   have u9:G9 p1=some (.lst (U.map D.str)):=by rw[hG9];exact u01
   have A9:LoomAt u17 G9 p rp W F pre stp:=by rw[hG9];exact A8.new hp1
   have n1w:p1≠wa:=D6 (gne w8 hp1);have n1p:p1≠p:=D6 (gne A8.ob hp1);have n1r:p1≠rp:=D6 (gne A8.ro hp1);have f9:∀b o,b≠p->b≠rp->b≠wa->G b=some o->G9 b=some o:=λb o h1 h2 h3 e=>by have:=f8 b o h1 h2 h3 e;rw[hG9,u06 (gne this hp1)];exact this
   rw[<- hG9];clear hG9;rw[<- hN9];dsimp![u9];generalize hNA:Go (uu8 _ _)=NA;refine u54 (λr σ G'=>∃(u1 u2:List Str) (v7:Option D),u1++u2=U/\r=u2.map D.str/\LoomAt u17 G' p rp W (F+u1.length) pre stp/\G' wa=some (.dic (u09 l (asg l u1 F yp)))/\(∀b o,b≠p->b≠rp->b≠wa->G9 b=some o->G' b=some o)/\σ=[some (.tup [.str (C1 "choose"),aD c,.tup (u25 ys),.tup (u25 ns)]),some (.ref wa),some (.ref p),some (.ref py),some (.ref pn),some (.int ((plF nf c+1:Nat):Int)),some (.ref p1),v7]) ⟨[],U,none,rfl,rfl,A9,w9,λ_ _ _ _ _ e=>e,rfl⟩ ?_ ?_
   ·rintro σ G10 ⟨u1,u2,v7,eu,e2,A10,w10,f10,rfl⟩
    have ht:u2=[]:=by simpa using e2.symm
    subst ht;rw[F7] at eu;subst eu;have u10:=f10 _ _ n1p n1r n1w u9;refine⟨by rw[u10];rfl,?_⟩;rw[hAsg] at w10;have y10:=f10 _ _ nyp nyr nyw y9;have n10:=f10 _ _ nnp nnr nnw n9;have hml:=ug6 (ps:=yp) (qs:=np) (fr:=F) (by omega);rw[<- hNA];dsimp![A10.ob,lm_all,u10];intro q1 hq1;have dl:(u09 l (mrg F yp np)).length<=6:=by have:=u85 l (mrg F yp np);(clear hq1 n10 y10 u10 u9 hTk hAsg hUm hU e2 f10 w10 hNA f9 n1r n1p n1w n9 y9 w9 hUl n8 y8 w8 hPre n7 y7 w7 hcho n6 y6 w6 n4 hN y4 w4 f4 y2 hY w2 f2 post hw nn1 np1 hN9 hp1 f8 hSt f7 hF f6 hpc m5 m3 m2 m1 f4' nny nnw nnr nnp hpn hrl l5 l3 l2 l1 f2' nyw nyr nyp hpy nwr nwp hsz hW hdn hdy;omega)
    refine u28 (λr σ G'=>∃(a t:List Str) (v0:Option D),a++t=u1/\r=t.map D.str/\G'=gup G10 q1 (.lst ((a.map λn=>Row.add (gtB l (mrg F yp np) n) (.box (gtB l yp n))).map Row.d))/\σ=[v0,some (.ref wa),some (.ref py)]) ⟨[],u1,none,rfl,rfl,rfl,rfl⟩ ?_ ?_
    ·rintro σ G11 ⟨a,t,v0,ea,e2,rfl,rfl⟩
     have ht:t=[]:=by simpa using e2.symm
     subst ht;rw[F7] at ea;subst ea;rw[hTk.1];obtain⟨G11,hG11⟩:∃G11,G11=gup G10 q1 (.lst ((tkR F (uY yp np)).map Row.d)):=⟨_,rfl⟩;have g11:∀b o,G10 b=some o->G11 b=some o:=λb o e=>by rw[hG11,u06 (gne e hq1)];exact e
     have k11:G11 q1=some (.lst ((tkR F (uY yp np)).map Row.d)):=by rw[hG11];exact u01
     have A11:LoomAt u17 G11 p rp W (F+a.length) pre stp:=by rw[hG11];exact A10.new hq1
     have nq1r:q1≠rp:=D6 (gne A10.ro hq1);rw[<- hG11];clear hG11;have u11:=g11 _ _ u10;refine⟨by rw[u11];rfl,?_⟩;simp only[u11,u13];intro q2 hq2;refine u28 (λr σ G'=>∃(b t:List Str) (v0:Option D),b++t=a/\r=t.map D.str/\G'=gup G11 q2 (.lst ((b.map λn=>Row.add (gtB l (mrg F yp np) n) (.box (gtB l np n))).map Row.d))/\σ=[v0,some (.ref wa),some (.ref pn)]) ⟨[],a,none,rfl,rfl,rfl,rfl⟩ ?_ ?_
     ·rintro σ G12 ⟨b,t,v0,eb,e2,rfl,rfl⟩
      have ht:t=[]:=by simpa using e2.symm
      subst ht;rw[F7] at eb;subst eb;rw[hTk.2];obtain⟨G12,hG12⟩:∃G12,G12=gup G11 q2 (.lst ((tkR F (uN yp np)).map Row.d)):=⟨_,rfl⟩;have g12:∀b o,G11 b=some o->G12 b=some o:=λb o e=>by rw[hG12,u06 (gne e hq2)];exact e
      have k12:G12 q2=some (.lst ((tkR F (uN yp np)).map Row.d)):=by rw[hG12];exact u01
      have A12:LoomAt u17 G12 p rp W (F+b.length) pre stp:=by rw[hG12];exact A11.new hq2
      have nq2r:q2≠rp:=D6 (gne A11.ro hq2);rw[<- hG12];clear hG12;refine⟨by rw[g12 _ _ u11],?_⟩;have hul:=uz5 (ps:=yp) (qs:=np);have hpl:pre.length<=4100:=by
       rw[<- hPre,B0,B0,B0,hrl]
       show rows.length+yr.length+nr.length+(plR nf c).length+2<=4100
       omega
      refine u49 ⟨p,rp,q1,q2,W,F+b.length,plF nf c+1,pre,_,_,stp,rfl,A12,g12 _ _ k11,k12,nq1r,nq2r,hpl,by rw[u87];(clear hpl nq2r k12 g12 u11 u10 u9 hTk hAsg hUm e2 hq2 nq1r k11 g11 dl hq1 n10 y10 f10 w10 hNA f9 n1r n1p n1w n9 y9 w9 n8 y8 w8 hPre n7 y7 w7 hcho n6 y6 w6 n4 hN y4 w4 f4 y2 hY w2 f2 post hw nn1 np1 hN9 hp1 f8 hSt f7 hF f6 hpc m5 m3 m2 m1 f4' nny nnw nnr nnp hpn hrl l5 l3 l2 l1 f2' nyw nyr nyp hpy nwr nwp hsz hW hdn hdy;omega),by rw[u87];(clear hpl nq2r k12 g12 u11 u10 u9 hTk hAsg hUm e2 hq2 nq1r k11 g11 dl hq1 n10 y10 f10 w10 hNA f9 n1r n1p n1w n9 y9 w9 n8 y8 w8 hPre n7 y7 w7 hcho n6 y6 w6 n4 hN y4 w4 f4 y2 hY w2 f2 post hw nn1 np1 hN9 hp1 f8 hSt f7 hF f6 hpc m5 m3 m2 m1 f4' nny nnw nnr nnp hpn hrl l5 l3 l2 l1 f2' nyw nyr nyp hpy nwr nwp hsz hW hdn hdy;omega),λG13 A13 a13=>?_⟩;have f13:∀c o,c≠p->c≠rp->G10 c=some o->G13 c=some o:=λc o h1 h2 e=>a13 c o h1 h2 (g12 c o (g11 c o e))
      refine post G13 ?_ ?_ λc o h1 h2 h3 e=>f13 c o h1 h2 (f10 c o h1 h2 h3 (f9 c o h1 h2 h3 e))
      ·rw[hcho]
       show LoomAt u17 G13 p rp W (F+(uY yp np).length) (rows++(yr++nr++plR nf c++[Row.take (plF nf c) (.box (plB l pl nf c)),.turn (plF nf c+1) 0 [(plF nf c,31)]]++chR (rows.length+(yr++nr++plR nf c++[Row.take (plF nf c) (.box (plB l pl nf c)),.turn (plF nf c+1) 0 [(plF nf c,31)]]).length) (plF nf c+1) (tkR F (uY yp np)) (tkR F (uN yp np)))) (st+(yst+nst+(plR nf c).length+2+((uY yp np).length+3)))
       have hP:pre=rows++(yr++nr++plR nf c++[Row.take (plF nf c) (.box (plB l pl nf c)),.turn (plF nf c+1) 0 [(plF nf c,31)]]):=by rw[<- hPre];simp only[E1]
       generalize yr++nr++plR nf c++[Row.take (plF nf c) (.box (plB l pl nf c)),.turn (plF nf c+1) 0 [(plF nf c,31)]]=PP at hP⊢;rw[u87,hP,B0,E1,hU,<- hSt] at A13;rw[show st+(yst+nst+(plR nf c).length+2+((uY yp np).length+3))=st+yst+nst+(plR nf c).length+2+((uY yp np).length+3) by omega];exact A13
      ·rw[hcho]
       exact f13 _ _ nwp nwr w10
     ·rintro z t σ G12 ⟨b,t,v0,eb,e2,rfl,rfl⟩ ih
      cases t with
      | nil=>cases e2
      | cons x0 t =>
       cases e2;have hx:x0∈l:=hUm x0 (by rw[<- eb];simp);have hlen:=congrArg J1 eb;rw[B0,C0] at hlen;refine⟨by rw[u06 (gne u11 hq2),u11],?_⟩;simp![ur8];have w11:=g11 _ _ w10;have n11:=g11 _ _ n10;refine⟨wa,u09 l (mrg F yp np),.inr x0,_,rfl,rfl,by rw[u06 (gne w11 hq2)];exact w11,u57 hx (by(clear n11 w11 hlen ih eb hq2 u11 nq1r k11 g11 u10 u9 hTk hAsg hUm hU e2 dl hq1 n10 y10 f10 w10 hNA f9 n1r n1p n1w n9 y9 w9 hUl n8 y8 w8 hPre n7 y7 w7 hcho n6 y6 w6 n4 hN y4 w4 f4 y2 hY w2 f2 post hb hl hw nn1 np1 hN9 hp1 f8 hSt f7 hF f6 hpc m5 m3 m2 m1 f4' nny nnw nnr nnp hpn hrl l5 l3 l2 l1 f2' nyw nyr nyp hpy nwr nwp hsz hW hdn hdy;omega)),pn,u09 l np,.inr x0,_,rfl,rfl,by rw[u06 (gne n11 hq2)];exact n11,u57 hx m4,?_⟩;simp![u01];refine⟨by decide,by decide,C4 (m:=1000) (by rw[B5,B5];(clear n11 w11 ih eb hq2 u11 nq1r k11 g11 u10 u9 hTk hAsg hUm e2 dl hq1 n10 y10 f10 w10 hNA f9 n1r n1p n1w n9 y9 w9 n8 y8 w8 hPre n7 y7 w7 hcho n6 y6 w6 n4 hN y4 w4 f4 y2 hY w2 f2 post hw nn1 np1 hN9 hp1 f8 hSt f7 hF f6 hpc m5 m3 m2 m1 f4' nny nnw nnr nnp hpn hrl l5 l3 l2 l1 f2' nyw nyr nyp hpy nwr nwp hsz hW hdn hdy;omega)) (by decide),ih _ _ ⟨b++[x0],t,_,by rw[<- eb];simp,rfl,?_,rfl⟩⟩;rw[u29,D2,D2];rfl
    ·rintro z t σ G11 ⟨a,t,v0,ea,e2,rfl,rfl⟩ ih
     cases t with
     | nil=>cases e2
     | cons x0 t =>
      cases e2;have hx:x0∈l:=hUm x0 (by rw[<- ea];simp);have hlen:=congrArg J1 ea;rw[B0,C0] at hlen;refine⟨by rw[u06 (gne u10 hq1),u10];rfl,?_⟩;simp![ur8,vm4];refine⟨wa,u09 l (mrg F yp np),.inr x0,_,rfl,rfl,by rw[u06 (gne w10 hq1)];exact w10,u57 hx (by(clear hlen ih ea dl hq1 n10 y10 u10 u9 hTk hAsg hUm hU e2 f10 w10 hNA f9 n1r n1p n1w n9 y9 w9 hUl n8 y8 w8 hPre n7 y7 w7 hcho n6 y6 w6 n4 hN y4 w4 f4 y2 hY w2 f2 post hb hl hw nn1 np1 hN9 hp1 f8 hSt f7 hF f6 hpc m5 m3 m2 m1 f4' nny nnw nnr nnp hpn hrl l5 l3 l2 l1 f2' nyw nyr nyp hpy nwr nwp hsz hW hdn hdy;omega)),py,o8,u09 l yp,.inr x0,_,rfl,rfl,by rw[u06 (gne y10 hq1)];exact y10,u57 hx l4,?_⟩;simp![u01];refine⟨by decide,by decide,C4 (m:=1000) (by rw[B5,B5];(clear ih ea dl hq1 n10 y10 u10 u9 hTk hAsg hUm e2 f10 w10 hNA f9 n1r n1p n1w n9 y9 w9 n8 y8 w8 hPre n7 y7 w7 hcho n6 y6 w6 n4 hN y4 w4 f4 y2 hY w2 f2 post hw nn1 np1 hN9 hp1 f8 hSt f7 hF f6 hpc m5 m3 m2 m1 f4' nny nnw nnr nnp hpn hrl l5 l3 l2 l1 f2' nyw nyr nyp hpy nwr nwp hsz hW hdn hdy;omega)) (by decide),ih _ _ ⟨a++[x0],t,_,by rw[<- ea];simp,rfl,?_,rfl⟩⟩;rw[u29,D2,D2];rfl
   ·rintro z r σ G10 ⟨u1,u2,v7,eu,e2,A10,w10,f10,rfl⟩ ih
    cases u2 with
    | nil=>cases e2
    | cons x0 u2 =>
     cases e2;have hx:x0∈l:=hUm x0 (by rw[<- eu];simp);refine⟨by rw[f10 _ _ n1p n1r n1w u9];rfl,?_⟩;simp![v27,A10.ob,lm_all];refine u71 A10 λG11 A11 a11=>?_
     simp![id];have w11:=a11 _ _ nwp nwr w10;refine⟨wa,u09 l (asg l u1 F yp),.inr x0,rfl,rfl,w11,C4 (m:=1000) (by have:=u85 l (asg l u1 F yp);(clear w11 ih eu f10 w10 hNA f9 n1r n1p n1w u9 n9 y9 w9 hTk hAsg hUm hU hUl n8 y8 w8 hPre n7 y7 w7 hcho n6 y6 w6 n4 hN y4 w4 f4 y2 hY w2 f2 post hw e2 nn1 np1 hN9 hp1 f8 hSt f7 hF f6 hpc m5 m3 m2 m1 f4' nny nnw nnr nnp hpn hrl l5 l3 l2 l1 f2' nyw nyr nyp hpy nwr nwp hsz hW hdn hdy;omega)) (by decide),?_⟩;rw[u99 hx hn (by rw[vd5];exact l4),<- uz4];refine ih _ _ ⟨u1++[x0],u2,_,by rw[<- eu];simp,rfl,?_,u01,λb o h1 h2 h3 e=>by rw[u06 h3];exact a11 b o h1 h2 (f10 b o h1 h2 h3 e),rfl⟩;rw[B0,show F+(u1.length+[x0].length)=F+u1.length+1 from rfl];exact⟨by rw[u06 (D6 nwp)];exact A11.ob,by rw[u06 (D6 nwr)];exact A11.ro⟩
  ·rintro z t σ G9 ⟨l,t,v0,el,e2,rfl,rfl⟩ ih
   cases t with
   | nil=>cases e2
   | cons x0 t =>
    cases e2;refine⟨by rw[u06 np1];exact y8,?_⟩;have hm:x0∈bs:=by rw[<- el];simp
    simp![vm4,ur8];refine⟨py,o8,u09 bs yp,.inr x0,_,rfl,rfl,by rw[u06 np1];exact y8,u57 hm l4,?_⟩;refine⟨pn,u09 bs np,.inr x0,_,rfl,rfl,by rw[u06 nn1];exact n8,u57 hm m4,?_⟩;simp![u01];have hlen:=congrArg J1 el;rw[B0,C0] at hlen
    by_cases q:gtB bs yp x0=gtB bs np x0
    ·rw[if_neg (by simp[q])]
     refine ih _ _ ⟨l++[x0],t,_,by rw[<- el];simp,rfl,?_,rfl⟩;rw[B26,A60 (by simp[q]),B66,F7]
    ·rw[if_pos (by rw[decide_eq_false (by omega)];rfl)]
     refine⟨C4 (m:=1000) (by rw[B5];have:=List.length_filter_le (λn=>!decide (gtB bs yp n=gtB bs np n)) l;(clear q ih el nn1 np1 hN9 hp1 f8 n8 y8 w8 hSt hPre f7 n7 y7 w7 hcho hF n6 y6 w6 f6 hpc n4 m5 m3 m2 m1 hN y4 w4 f4' f4 nny nnw nnr nnp hpn hrl y2 l5 l3 l2 l1 hY w2 f2' f2 nyw nyr nyp hpy nwr nwp hsz post hW hdn hdy hw;omega)) (by decide),ih _ _ ⟨l++[x0],t,_,by rw[<- el];simp,rfl,?_,rfl⟩⟩;rw[u29,B26,A61 (by simp[q]),B66,D2];rfl
theorem wj5{n:Nat}(G_jaa:Ok P w mg base n T.f_jaa uf0)(G_jac:Ok P w mg base n T.f_jac ue9):Ok P w mg base (n+1) T.f_jby vn5:=by
 refine u14 T.f_jby sc_jby (λds G R h=>?_) (λcdv A outer s H E hr =>
   (u02 (s_if (u78 (u18 uc3 rfl T.b_isinstance (by decide) (u00 (ev 0) (u00 (ub3 (T := "str") T.b_str (by decide)) u03)))) (u07 (u15 (uc0 hr (ev 1) (ev 0)))) u21)
   (u02 (u20 3 sc_jby.nd (em0 T.c_Loom.cl T.f_jaa T.m_jaa G_jaa hr (ev 2)))
   (u02 (u38 (em T.c_Loom.cl T.f_jac T.m_jac G_jac hr (ev 2) (u00 (u46 (u00 (u23 (u00 u08 (u00 (ev 3) (u00 (u23 (u00 u08 (u00 (ev 0) u03))) u03)))) u03)) u03)))
   (u07 (u15 (ev 3))))))) (λds G R h=>?_)
 ·obtain⟨p,rp,wa,W,fr,rows,st,bs,pl,a,rfl,_⟩:=h;rfl
 ·obtain⟨p,rp,wa,W,fr,rows,st,bs,pl,a,rfl,A,hw,hl,ha,h1,post⟩:=h
  cases a with
  | num i =>
   simp![aD,un1];refine⟨by simp,?_⟩;rw[if_neg (by decide)];dsimp![A.ob,lm_all];refine u71 A λG1 A1 a1=>?_
   simp![id];dsimp![A1.ob,lm_all];refine⟨by decide,by decide,by decide,λp1 hp1=>?_⟩;refine ud2 (new:=[.add fr (.num (i:Int))]) A1 hp1 (by omega) (N6 rfl) λG2 A2 a2=>?_
   simp![id];dsimp![id];exact post G2 A2 (a1.trans a2)
  | box x =>
   simp![aD,un1,ur8];refine⟨by simp,?_⟩;rw[if_pos (by decide)];exact⟨wa,_,.inr x,_,rfl,rfl,hw,u57 ha hl,post G (by rw[show rows++plR fr (.box x)=rows from F7 _];exact A) LAdv.refl⟩
theorem wi3{n:Nat}(G_jce:Ok P w mg base n T.f_jce wt5)(G_jat:Ok P w mg base n T.f_jat wv5)(G_jao:Ok P w mg base n T.f_jao w96)(G_jan:Ok P w mg base n T.f_jan wv8)(G_jap:Ok P w mg base n T.f_jap wv7)(G_jcc:Ok P w mg base n T.f_jcc wt6)(G_jal:Ok P w mg base n T.f_jal wv9):Ok P w mg base (n+1) T.f_jcm wt0:=by
 refine u14 T.f_jcm vp8 (λds G R h=>?_) (λcdv A outer s H E hr =>
   (u02 (s_if (u26 (x_eq hr) (ev 0) u08 (nomark _)) (u07 (u15 (ec T.f_jce T.g_total G_jce hr (u00 (ev 1) (u00 (ev 2) (u00 (ev 3) u03)))))) u21)
   (u02 (s_if (u26 (x_eq hr) (ev 0) u08 (nomark _)) (u07 (u15 (ec T.f_jat T.g_difference G_jat hr (u00 (ev 1) (u00 (ev 2) (u00 (ev 3) u03)))))) u21)
   (u02 (s_if (u26 (x_eq hr) (ev 0) u08 (nomark _)) (u07 (u15 (ec T.f_jao T.g_bits_of_both G_jao hr (u00 (ev 1) (u00 (ev 2) (u00 (ev 3) u03)))))) u21)
   (u02 (s_if (u26 (x_eq hr) (ev 0) u08 (nomark _)) (u07 (u15 (ec T.f_jan T.g_bits_of_any G_jan hr (u00 (ev 1) (u00 (ev 2) (u00 (ev 3) u03)))))) u21)
   (u02 (s_if (u26 (x_eq hr) (ev 0) u08 (nomark _)) (u07 (u15 (ec T.f_jap T.g_bits_of_one G_jap hr (u00 (ev 1) (u00 (ev 2) (u00 (ev 3) u03)))))) u21)
   (u02 (s_if (u26 (x_eq hr) (ev 0) u08 (nomark _)) (u07 (u15 (ec T.f_jcc T.g_smaller G_jcc hr (u00 (ev 1) (u00 (ev 2) (u00 (ev 3) u03)))))) u21)
   (u07 (u15 (ec T.f_jal T.g_alike G_jal hr (u00 (ev 1) (u00 (ev 2) (u00 (ev 3) u03))))))))))))) (λds G R h=>?_)
 ·obtain⟨o,ho,p,rp,W,fr,x,y,rows,st,rfl,_⟩:=h;rfl
 ·obtain⟨o,ho,p,rp,W,fr,x,y,rows,st,rfl,A,hW,hl,post⟩:=h
  rcases uf5 ho with rfl|rfl|rfl|rfl|rfl|rfl|rfl
  ·simp![J2,F8]
   exact ui1 (xs:=xy) (bx:=λfr=>fr) (fn:=λfr=>fr+2) (nw:=λW x y fr=>sgR W x y fr "+") A hW (by omega) post
  ·simp![J2,F8]
   rw[if_neg (by decide)];dsimp![id];exact ui1 (xs:=xy) (bx:=λfr=>fr) (fn:=λfr=>fr+2) (nw:=λW x y fr=>sgR W x y fr "-") A hW (by omega) post
  ·simp![J2,F8]
   rw[if_neg (by decide)];dsimp![id];rw[if_neg (by decide)];dsimp![id];exact ui1 (xs:=xy) (bx:=λfr=>fr) (fn:=λfr=>fr+1) (nw:=λW x y fr=>andR fr x y W) A hW (by omega) post
  ·simp![J2,F8]
   rw[if_neg (by decide)];dsimp![id];rw[if_neg (by decide)];dsimp![id];rw[if_neg (by decide)];dsimp![id];exact ui1 (xs:=xy) (bx:=λfr=>fr+1) (fn:=λfr=>fr+2) (nw:=λW x y fr=>sgR W x y fr "|") A hW (by omega) post
  ·simp![J2,F8]
   rw[if_neg (by decide)];dsimp![id];rw[if_neg (by decide)];dsimp![id];rw[if_neg (by decide)];dsimp![id];rw[if_neg (by decide)];dsimp![id];exact ui1 (xs:=xy) (bx:=λfr=>fr+1) (fn:=λfr=>fr+2) (nw:=λW x y fr=>sgR W x y fr "^") A hW (by omega) post
  ·simp![J2,F8]
   rw[if_neg (by decide)];dsimp![id];rw[if_neg (by decide)];dsimp![id];rw[if_neg (by decide)];dsimp![id];rw[if_neg (by decide)];dsimp![id];rw[if_neg (by decide)];dsimp![id];exact ui1 (xs:=xy) (bx:=λfr=>fr+1) (fn:=λfr=>fr+2) (nw:=λW x y fr=>sgR W x y fr "<") A hW (by omega) post
  ·simp![J2,F8]
   rw[if_neg (by decide)];dsimp![id];rw[if_neg (by decide)];dsimp![id];rw[if_neg (by decide)];dsimp![id];rw[if_neg (by decide)];dsimp![id];rw[if_neg (by decide)];dsimp![id];rw[if_neg (by decide)];dsimp![id];exact ui1 (xs:=xy) (bx:=λfr=>fr+2) (fn:=λfr=>fr+3) (nw:=λW x y fr=>sgR W x y fr "=") A hW (by omega) post
theorem wi9{n:Nat}(G_jaa:Ok P w mg base n T.f_jaa uf0)(G_jac:Ok P w mg base n T.f_jac ue9):Ok P w mg base (n+1) T.f_jce wt5:=by
 refine u14 T.f_jce sc_jce (λds G R h=>?_) (λcdv A outer s H E hr =>
   (u02 (u20 3 sc_jce.nd (em0 T.c_Loom.cl T.f_jaa T.m_jaa G_jaa hr (ev 2)))
   (u02 (u20 4 sc_jce.nd (em0 T.c_Loom.cl T.f_jaa T.m_jaa G_jaa hr (ev 2)))
   (u02 (u38 (em T.c_Loom.cl T.f_jac T.m_jac G_jac hr (ev 2) (u00 (u46 (u00 (u23 (u00 u08 (u00 (ev 3) (u00 (u23 (u00 u08 (u00 (ev 0) u03))) u03)))) (u00 (u23 (u00 u08 (u00 (ev 3) (u00 (u23 (u00 u08 (u00 (ev 1) u03))) u03)))) (u00 (u23 (u00 u08 (u00 (ev 4) (u00 (u73 T.c_Loom.cl T.c_Loom.n_wide (ev 2)) (u00 (u23 (u00 (u23 (u00 (ev 3) (u00 (u73 T.c_Loom.cl T.c_Loom.n_wide (ev 2)) u03))) u03)) u03))))) (u00 (u23 (u00 u08 (u00 (ev 3) (u00 (u23 (u00 u08 (u00 (ev 4) u03))) u03)))) u03))))) u03)))
   (u07 (u15 (ev 3))))))) (λds G R h=>?_)
 ·obtain⟨p,rp,W,fr,x,y,rows,st,rfl,_⟩:=h;rfl
 ·obtain⟨p,rp,W,fr,x,y,rows,st,rfl,A,hW,hl,post⟩:=h
  simp![xy,J2,F8,A.ob,lm_all];refine u71 A λG1 A1 a1=>?_
  simp![id];dsimp![A1.ob,lm_all];refine u71 A1 λG2 A2 a2=>?_
  simp![id];dsimp![A2.ob,lm_all];refine⟨by decide,by decide,by decide,by decide,by decide,by decide,by decide,by decide,by decide,by decide,λp1 hp1=>?_⟩;refine ud2 (new:=sgR W x y fr "+") A2 hp1 (by omega) (N6 rfl) λG3 A3 a3=>?_
  simp![id];dsimp![id];exact post G3 A3 ((a1.trans a2).trans a3)
theorem wm1{n:Nat}(G_jaa:Ok P w mg base n T.f_jaa uf0)(G_jac:Ok P w mg base n T.f_jac ue9)(G_gap:Ok P w mg base n T.f_gap vo1):Ok P w mg base (n+1) T.f_jat wv5:=by
 refine u14 T.f_jat sc_jat (λds G R h=>?_) (λcdv A outer s H E hr =>
   (u02 (u20 3 sc_jat.nd (ec T.f_gap T.g_gap G_gap hr (u00 (ev 0) (u00 (ev 1) (u00 (ev 2) u03)))))
   (u02 (u20 4 sc_jat.nd (em0 T.c_Loom.cl T.f_jaa T.m_jaa G_jaa hr (ev 2)))
   (u02 (u38 (em T.c_Loom.cl T.f_jac T.m_jac G_jac hr (ev 2) (u00 (u46 (u00 (u23 (u00 u08 (u00 (ev 4) (u00 (u73 T.c_Loom.cl T.c_Loom.n_wide (ev 2)) (u00 (u23 (u00 (u23 (u00 (ev 3) (u00 (u91 T.k_BELOW_NOUGHT) u03))) u03)) u03))))) (u00 (u23 (u00 u08 (u00 (ev 3) (u00 (u23 (u00 u08 (u00 (ev 4) u03))) u03)))) u03))) u03)))
   (u07 (u15 (ev 3))))))) (λds G R h=>?_)
 ·obtain⟨p,rp,W,fr,x,y,rows,st,rfl,_⟩:=h;rfl
 ·obtain⟨p,rp,W,fr,x,y,rows,st,rfl,A,hW,hl,post⟩:=h
  simp![xy,J2,F8];refine ui1 (xs:=xy) (bx:=λfr=>fr) (fn:=λfr=>fr+1) (nw:=λ_ x y fr=>[.add fr (.box x),.take fr (.box y)]) A hW (by omega) λG1 A1 a1=>?_
  simp![id];dsimp![A1.ob,lm_all];refine u71 A1 λG2 A2 a2=>?_
  simp![id];dsimp![A2.ob,lm_all];refine⟨by decide,by decide,by decide,by decide,by decide,by decide,λp1 hp1=>?_⟩;refine ud2 (new:=[.turn (fr+1) W [(fr,31)],.add fr (.box (fr+1))]) A2 hp1 (by rw[B0];show _+2<=_;omega) (N6 rfl) λG3 A3 a3=>?_
  simp![id];dsimp![id];rw[E1,O0] at A3;exact post G3 A3 ((a1.trans a2).trans a3)
theorem wo1{n:Nat}(G_jaa:Ok P w mg base n T.f_jaa uf0)(G_jac:Ok P w mg base n T.f_jac ue9):Ok P w mg base (n+1) T.f_gap vo1:=by
 refine u14 T.f_gap sc_gap (λds G R h=>?_) (λcdv A outer s H E hr =>
   (u02 (u20 3 sc_gap.nd (em0 T.c_Loom.cl T.f_jaa T.m_jaa G_jaa hr (ev 2)))
   (u02 (u38 (em T.c_Loom.cl T.f_jac T.m_jac G_jac hr (ev 2) (u00 (u46 (u00 (u23 (u00 u08 (u00 (ev 3) (u00 (u23 (u00 u08 (u00 (ev 0) u03))) u03)))) (u00 (u23 (u00 u08 (u00 (ev 3) (u00 (u23 (u00 u08 (u00 (ev 1) u03))) u03)))) u03))) u03)))
   (u07 (u15 (ev 3)))))) (λds G R h=>?_)
 ·obtain⟨p,rp,W,fr,x,y,rows,st,rfl,_⟩:=h;rfl
 ·obtain⟨p,rp,W,fr,x,y,rows,st,rfl,A,hW,hl,post⟩:=h
  simp![xy,J2,F8,A.ob,lm_all];refine u71 A λG1 A1 a1=>?_
  simp![id];dsimp![A1.ob,lm_all];refine⟨by decide,by decide,by decide,by decide,by decide,λp1 hp1=>?_⟩;refine ud2 (new:=[.add fr (.box x),.take fr (.box y)]) A1 hp1 (by omega) (N6 rfl) λG2 A2 a2=>?_
  simp![id];dsimp![id];exact post G2 A2 (a1.trans a2)
theorem wm6{n:Nat}(G_jaa:Ok P w mg base n T.f_jaa uf0)(G_jac:Ok P w mg base n T.f_jac ue9):Ok P w mg base (n+1) T.f_jao w96:=by
 refine u14 T.f_jao sc_jao (λds G R h=>?_) (λcdv A outer s H E hr =>
   (u02 (u20 3 sc_jao.nd (em0 T.c_Loom.cl T.f_jaa T.m_jaa G_jaa hr (ev 2)))
   (u02 (u38 (em T.c_Loom.cl T.f_jac T.m_jac G_jac hr (ev 2) (u00 (u59 (N':=["bit", "box", "first", "second"]) (ix:=[none,some 3,some 0,some 1]) (blk (osc:=u04 vg5) (N:=["first", "second", "loom", "box"]) rfl rfl (by decide)) (ua3 rfl T.b_range (u00 (u73 T.c_Loom.cl T.c_Loom.n_wide (ev 2)) u03)) (λ_ _ _ _=>(u19 0 (show(["bit", "box", "first", "second"]:List Str).Nodup by decide))) (λ_ _ _ _=>u44) (λ_ _ _ _=>(u23 (u00 u08 (u00 (ev 1) (u00 (ev 0) (u00 (u23 (u00 (u23 (u00 (ev 2) (u00 (ev 0) u03))) (u00 (u23 (u00 (ev 3) (u00 (ev 0) u03))) u03))) u03))))))) u03)))
   (u07 (u15 (ev 3)))))) (λds G R h=>?_)
 ·obtain⟨p,rp,W,fr,x,y,rows,st,rfl,_⟩:=h;rfl
 ·obtain⟨p,rp,W,fr,x,y,rows,st,rfl,A,hW,hl,post⟩:=h
  simp![xy,J2,F8,A.ob,lm_all];refine u71 A λG1 A1 a1=>?_
  simp![id];dsimp![A1.ob,lm_all];refine⟨⟨by omega,by omega⟩,λp1 hp1=>?_⟩;refine u28 (λr σ G'=>∃(i c:Nat) (v:Option D),i+c=W/\r=rngD (i:Int) c/\G'=gup G1 p1 (.lst ((andR fr x y i).map Row.d))/\σ=[v,some (.int (fr:Int)),some (.int (x:Int)),some (.int (y:Int))]) ⟨0,W,none,by omega,rfl,rfl,rfl⟩ ?_ ?_
  ·rintro σ G2 ⟨i,c,v,e,e2,rfl,rfl⟩
   have hc:c=0:=by
    cases c with
    | zero=>rfl
    | succ c=>rw[u33] at e2;cases e2
   subst hc;obtain rfl:i=W:=by omega
   refine⟨trivial,?_⟩;refine ud2 (new:=andR fr x y i) A1 hp1 (by omega) (by unfold andR;rw[B5,N5];omega) λG3 A3 a3=>?_
   simp![id];dsimp![id];exact post G3 A3 (a1.trans a3)
  ·rintro z r σ G2 ⟨i,c,v,e,e2,rfl,rfl⟩ ih
   cases c with
   | zero=>cases e2
   | succ c =>
    rw[u33] at e2;cases e2;refine⟨trivial,?_⟩;simp![u01];refine⟨by decide,by decide,by decide,by decide,?_,ih _ _ ⟨i+1,c,_,by omega,rfl,?_,rfl⟩⟩
    ·rw[B5]
     unfold andR;rw[B5,N5];exact C4 (m:=1000) (by omega) (by decide)
    ·rw[u29]
     unfold andR;rw[A08,D2,D2];rfl
theorem wm7{n:Nat}(G_jcd:Ok P w mg base n T.f_jcd w89):Ok P w mg base (n+1) T.f_jan wv8:=by
 refine u14 T.f_jan vr0 (λds G R h=>?_) (λcdv A outer s H E hr =>
   (u07 (u15 (ec T.f_jcd T.g_sum_without_both G_jcd hr (u00 (ev 0) (u00 (ev 1) (u00 u05 (u00 (ev 2) u03)))))))) (λds G R h=>?_)
 ·obtain⟨p,rp,W,fr,x,y,rows,st,rfl,_⟩:=h;rfl
 ·obtain⟨p,rp,W,fr,x,y,rows,st,rfl,A,hW,hl,post⟩:=h
  simp![xy,J2,F8];exact u48 (post:=λd G'=>d=.int ((fr+1:Nat):Int)/\LoomAt u17 G' p rp W (fr+2) (rows++sgR W x y fr "|") (st+(sgR W x y fr "|").length)/\LAdv p rp G G') (λR h'=>⟨1,by decide,p,rp,W,fr,x,y,rows,st,rfl,A,hW,by omega,λG' a b=>h' _ _ ⟨rfl,a,b⟩⟩) λd G' ⟨e,a,b⟩=>by subst e;exact post G' a b
theorem wm5{n:Nat}(G_jcd:Ok P w mg base n T.f_jcd w89):Ok P w mg base (n+1) T.f_jap wv7:=by
 refine u14 T.f_jap vq9 (λds G R h=>?_) (λcdv A outer s H E hr =>
   (u07 (u15 (ec T.f_jcd T.g_sum_without_both G_jcd hr (u00 (ev 0) (u00 (ev 1) (u00 u05 (u00 (ev 2) u03)))))))) (λds G R h=>?_)
 ·obtain⟨p,rp,W,fr,x,y,rows,st,rfl,_⟩:=h;rfl
 ·obtain⟨p,rp,W,fr,x,y,rows,st,rfl,A,hW,hl,post⟩:=h
  simp![xy,J2,F8];exact u48 (post:=λd G'=>d=.int ((fr+1:Nat):Int)/\LoomAt u17 G' p rp W (fr+2) (rows++sgR W x y fr "^") (st+(sgR W x y fr "^").length)/\LAdv p rp G G') (λR h'=>⟨2,by decide,p,rp,W,fr,x,y,rows,st,rfl,A,hW,by omega,λG' a b=>h' _ _ ⟨rfl,a,b⟩⟩) λd G' ⟨e,a,b⟩=>by subst e;exact post G' a b
theorem wj0{n:Nat}(G_jaa:Ok P w mg base n T.f_jaa uf0)(G_jac:Ok P w mg base n T.f_jac ue9)(G_jao:Ok P w mg base n T.f_jao w96):Ok P w mg base (n+1) T.f_jcd w89:=by
 refine u14 T.f_jcd sc_jcd (λds G R h=>?_) (λcdv A outer s H E hr =>
   (u02 (u20 4 sc_jcd.nd (ec T.f_jao T.g_bits_of_both G_jao hr (u00 (ev 0) (u00 (ev 1) (u00 (ev 3) u03)))))
   (u02 (u20 5 sc_jcd.nd (em0 T.c_Loom.cl T.f_jaa T.m_jaa G_jaa hr (ev 3)))
   (u02 (u38 (em T.c_Loom.cl T.f_jac T.m_jac G_jac hr (ev 3) (u00 (u16 u50 (u46 (u00 (u23 (u00 u08 (u00 (ev 5) (u00 (u23 (u00 u08 (u00 (ev 0) u03))) u03)))) (u00 (u23 (u00 u08 (u00 (ev 5) (u00 (u23 (u00 u08 (u00 (ev 1) u03))) u03)))) u03))) (u16 uc2 (u46 (u00 (u23 (u00 u08 (u00 (ev 5) (u00 (u23 (u00 u08 (u00 (ev 4) u03))) u03)))) u03)) (ev 2))) u03)))
   (u07 (u15 (ev 5))))))) (λds G R h=>?_)
 ·obtain⟨n,hn,p,rp,W,fr,x,y,rows,st,rfl,_⟩:=h;rfl
 ·obtain⟨n,hn,p,rp,W,fr,x,y,rows,st,rfl,A,hW,hl,post⟩:=h
  have hand:(andR fr x y W).length=W:=by unfold andR;rw[B5,N5]
  simp![J2,F8,A.ob,lm_all];refine ui1 (xs:=xy) (bx:=λfr=>fr) (fn:=λfr=>fr+1) (nw:=λW x y fr=>andR fr x y W) A hW (by omega) λG1 A1 a1=>?_
  simp![id];dsimp![A1.ob,lm_all];refine u71 A1 λG2 A2 a2=>?_
  simp![id];dsimp![A2.ob,lm_all];refine⟨by decide,by decide,by decide,by decide,by decide,λp1 hp1=>?_⟩;simp![id];refine⟨by decide,by decide,by decide,λp2 hp2=>⟨⟨by omega,by omega,D4 (m:=10) (by omega) (by decide)⟩,λp3 hp3=>?_⟩⟩;have k1:∀{o2 o3:DO},gup (gup (gup G2 p1 (.lst (([.add (fr+1) (.box x),.add (fr+1) (.box y)]:List Row).map Row.d))) p2 o2) p3 o3 p1=some (.lst (([.add (fr+1) (.box x),.add (fr+1) (.box y)]:List Row).map Row.d)):=λ{o2 o3}=>by
   have n2:p1≠p2:=gne u01 hp2;have n3:p1≠p3:=λz=>by rw[<- z,u06 n2,u01] at hp3;cases hp3
   rw[u06 n3,u06 n2,u01]
  refine ud3 k1 u01 (by rw[U0,J9];exact D4 (m:=10) (by show 2+n<=10;omega) (by decide)) λp4 hp4=>?_
  have ef:([Row.add (fr+1) (.box x),.add (fr+1) (.box y)]:List Row).map Row.d++(C2 n [D.tup [.str "take",.int ((fr+1:Nat):Int),.tup [.str "box",.int (fr:Int)]]]).flatten=([.add (fr+1) (.box x),.add (fr+1) (.box y)]++C2 n (.take (fr+1) (.box fr)):List Row).map Row.d:=by
   rw[U0,D2,B27];rfl
  rw[ef];have A2':=((A2.new (o:=.lst (([.add (fr+1) (.box x),.add (fr+1) (.box y)]:List Row).map Row.d)) hp1).new (o:=.lst (([.take (fr+1) (.box fr)]:List Row).map Row.d)) hp2).new (o:=.lst ((C2 n [D.tup [.str "take",.int ((fr+1:Nat):Int),.tup [.str "box",.int (fr:Int)]]]).flatten)) hp3;have a2':=((LAdv.refl (p:=p) (rp:=rp)).new (o:=.lst (([.add (fr+1) (.box x),.add (fr+1) (.box y)]:List Row).map Row.d)) hp1).new (o:=.lst (([.take (fr+1) (.box fr)]:List Row).map Row.d)) hp2 |>.new (o:=.lst ((C2 n [D.tup [.str "take",.int ((fr+1:Nat):Int),.tup [.str "box",.int (fr:Int)]]]).flatten)) hp3
  refine ud2 (new:=[.add (fr+1) (.box x),.add (fr+1) (.box y)]++C2 n (.take (fr+1) (.box fr))) A2' hp4 (by rw[B0,hand];omega) (by rw[B0,J9];show 2+n<=1000;omega) λG3 A3 a3=>?_
  simp![id];dsimp![id];refine post G3 ?_ ((a1.trans a2).trans (a2'.trans a3))
  show LoomAt u17 G3 p rp W (fr+2) (rows++(andR fr x y W++([.add (fr+1) (.box x),.add (fr+1) (.box y)]++C2 n (.take (fr+1) (.box fr))))) (st+(andR fr x y W++([Row.add (fr+1) (.box x),.add (fr+1) (.box y)]++C2 n (Row.take (fr+1) (.box fr)))).length)
  rw[B0 (as:=andR fr x y W),<- O0,<- E1];exact A3
theorem wj1{n:Nat}(G_jaa:Ok P w mg base n T.f_jaa uf0)(G_jac:Ok P w mg base n T.f_jac ue9)(G_gap:Ok P w mg base n T.f_gap vo1):Ok P w mg base (n+1) T.f_jcc wt6:=by
 refine u14 T.f_jcc sc_jcc (λds G R h=>?_) (λcdv A outer s H E hr =>
   (u02 (u20 3 sc_jcc.nd (ec T.f_gap T.g_gap G_gap hr (u00 (ev 0) (u00 (ev 1) (u00 (ev 2) u03)))))
   (u02 (u20 4 sc_jcc.nd (em0 T.c_Loom.cl T.f_jaa T.m_jaa G_jaa hr (ev 2)))
   (u02 (u38 (em T.c_Loom.cl T.f_jac T.m_jac G_jac hr (ev 2) (u00 (u46 (u00 (u23 (u00 u08 (u00 (ev 4) (u00 u05 (u00 (u23 (u00 (u23 (u00 (ev 3) (u00 (u91 T.k_BELOW_NOUGHT) u03))) u03)) u03))))) u03)) u03)))
   (u07 (u15 (ev 4))))))) (λds G R h=>?_)
 ·obtain⟨p,rp,W,fr,x,y,rows,st,rfl,_⟩:=h;rfl
 ·obtain⟨p,rp,W,fr,x,y,rows,st,rfl,A,hW,hl,post⟩:=h
  simp![xy,J2,F8];refine ui1 (xs:=xy) (bx:=λfr=>fr) (fn:=λfr=>fr+1) (nw:=λ_ x y fr=>[.add fr (.box x),.take fr (.box y)]) A hW (by omega) λG1 A1 a1=>?_
  simp![id];dsimp![A1.ob,lm_all];refine u71 A1 λG2 A2 a2=>?_
  simp![id];dsimp![A2.ob,lm_all];refine⟨by decide,by decide,by decide,by decide,λp1 hp1=>?_⟩;refine ud2 (new:=[.turn (fr+1) 0 [(fr,31)]]) A2 hp1 (by rw[B0];show _+2<=_;omega) (N6 rfl) λG3 A3 a3=>?_
  simp![id];dsimp![id];rw[E1,O0] at A3;exact post G3 A3 ((a1.trans a2).trans a3)
theorem wm9{n:Nat}(G_jaa:Ok P w mg base n T.f_jaa uf0)(G_jac:Ok P w mg base n T.f_jac ue9)(G_gap:Ok P w mg base n T.f_gap vo1):Ok P w mg base (n+1) T.f_jal wv9:=by
 refine u14 T.f_jal sc_jal (λds G R h=>?_) (λcdv A outer s H E hr =>
   (u02 (u20 3 sc_jal.nd (ec T.f_gap T.g_gap G_gap hr (u00 (ev 0) (u00 (ev 1) (u00 (ev 2) u03)))))
   (u02 (u20 4 sc_jal.nd (ec T.f_gap T.g_gap G_gap hr (u00 (ev 1) (u00 (ev 0) (u00 (ev 2) u03)))))
   (u02 (u20 5 sc_jal.nd (em0 T.c_Loom.cl T.f_jaa T.m_jaa G_jaa hr (ev 2)))
   (u02 (u38 (em T.c_Loom.cl T.f_jac T.m_jac G_jac hr (ev 2) (u00 (u46 (u00 (u23 (u00 u08 (u00 (ev 5) (u00 u05 (u00 (u23 u03) u03))))) (u00 (u23 (u00 u08 (u00 (ev 5) (u00 u05 (u00 (u23 (u00 (u23 (u00 (ev 3) (u00 (u91 T.k_BELOW_NOUGHT) u03))) u03)) u03))))) (u00 (u23 (u00 u08 (u00 (ev 5) (u00 u05 (u00 (u23 (u00 (u23 (u00 (ev 4) (u00 (u91 T.k_BELOW_NOUGHT) u03))) u03)) u03))))) u03)))) u03)))
   (u07 (u15 (ev 5)))))))) (λds G R h=>?_)
 ·obtain⟨p,rp,W,fr,x,y,rows,st,rfl,_⟩:=h;rfl
 ·obtain⟨p,rp,W,fr,x,y,rows,st,rfl,A,hW,hl,post⟩:=h
  simp![xy,J2,F8];refine ui1 (xs:=xy) (bx:=λfr=>fr) (fn:=λfr=>fr+1) (nw:=λ_ x y fr=>[.add fr (.box x),.take fr (.box y)]) A hW (by omega) λG1 A1 a1=>?_
  simp![id];dsimp![id];have hl2:(rows++[Row.add fr (.box x),.take fr (.box y)]).length+2*0<=4100:=by rw[B0];show _+2+0<=_;omega
  refine u49 ⟨p,rp,W,fr+1,y,x,_,_,rfl,A1,hW,hl2,λG2 A2 a2=>?_⟩;simp![id];dsimp![A2.ob,lm_all];refine u71 A2 λG3 A3 a3=>?_
  simp![id];dsimp![A3.ob,lm_all];refine⟨by decide,by decide,by decide,by decide,by decide,by decide,by decide,by decide,by decide,λp1 hp1=>?_⟩;refine ud2 (new:=[.turn (fr+2) 0 [],.turn (fr+2) 0 [(fr,31)],.turn (fr+2) 0 [(fr+1,31)]]) A3 hp1 (by rw[B0,B0];show _+2+2<=_;omega) (N6 rfl) λG4 A4 a4=>?_
  simp![id];dsimp![id];refine post G4 ?_ ((a1.trans a2).trans (a3.trans a4))
  show LoomAt u17 G4 p rp W (fr+3) (rows++(([Row.add fr (.box x),.take fr (.box y)]++[.add (fr+1) (.box y),.take (fr+1) (.box x)])++[.turn (fr+2) 0 [],.turn (fr+2) 0 [(fr,31)],.turn (fr+2) 0 [(fr+1,31)]])) (st+2+2+3)
  rw[<- E1,<- E1];exact A4
theorem wi8{n:Nat}(G_jaa:Ok P w mg base n T.f_jaa uf0)(G_jac:Ok P w mg base n T.f_jac ue9):Ok P w mg base (n+1) T.f_jcf wt4:=by
 refine u14 T.f_jcf sc_jcf (λds G R h=>?_) (λcdv A outer s H E hr =>
   (u02 (u20 2 sc_jcf.nd (em0 T.c_Loom.cl T.f_jaa T.m_jaa G_jaa hr (ev 1)))
   (u02 (u20 3 sc_jcf.nd (em0 T.c_Loom.cl T.f_jaa T.m_jaa G_jaa hr (ev 1)))
   (u02 (u38 (em T.c_Loom.cl T.f_jac T.m_jac G_jac hr (ev 1) (u00 (u46 (u00 (u23 (u00 u08 (u00 (ev 2) (u00 (u23 (u00 u08 (u00 (ev 0) u03))) u03)))) (u00 (u23 (u00 u08 (u00 (ev 3) (u00 u05 (u00 (u23 (u00 (u23 (u00 (ev 2) (u00 (u91 T.k_BELOW_NOUGHT) u03))) u03)) u03))))) u03))) u03)))
   (u07 (u15 (ev 3))))))) (λds G R h=>?_)
 ·obtain⟨p,rp,W,fr,x,rows,st,rfl,_⟩:=h;rfl
 ·obtain⟨p,rp,W,fr,x,rows,st,rfl,A,hl,post⟩:=h
  simp![A.ob,lm_all];refine u71 A λG1 A1 a1=>?_
  simp![id];dsimp![A1.ob,lm_all];refine u71 A1 λG2 A2 a2=>?_
  simp![id];dsimp![A2.ob,lm_all];refine⟨by decide,by decide,by decide,by decide,by decide,by decide,λp1 hp1=>?_⟩;refine ud2 (new:=[.take fr (.box x),.turn (fr+1) 0 [(fr,31)]]) A2 hp1 (by omega) (N6 rfl) λG3 A3 a3=>?_
  simp![id];dsimp![id];exact post G3 A3 ((a1.trans a2).trans a3)
theorem wm2{n:Nat}(G_jay:Ok P w mg base n T.f_jay wv1)(G_jax:Ok P w mg base n T.f_jax wv3)(G_jav:Ok P w mg base n T.f_jav wv4):Ok P w mg base (n+1) T.f_jas wv6:=by
 refine u14 T.f_jas sc_jas (λds G R h=>?_) (λcdv A outer s H E hr =>
   (u07 (uc6 (uu1 rfl T.b_enumerate (u00 (e_ix x_ix (ev 0) u05) u03)) (ur1 (n:=2) rfl (u40 (u19 1 sc_jas.nd) (u40 (u19 2 sc_jas.nd) ue4))) (u07 (s_if (uc5 (t_w (w_and (u78 (ec T.f_jay T.g_is_within G_jay hr (u00 (ev 2) (u00 (e_ix x_ix (ev 0) u05) u03)))) (w_and (u78 (ec T.f_jax T.g_is_apart G_jax hr (u00 (ev 2) u03))) (v42 (u78 (ec T.f_jav T.g_has_fellow G_jav hr (u00 (ev 2) (u00 (ev 1) (u00 (e_ix x_ix (ev 0) u05) u03)))))))))) (u07 vw0) u21))))) (λds G R h=>?_)
 ·obtain⟨ra,rs,sz,rfl,_⟩:=h;rfl
 ·obtain⟨ra,rs,sz,rfl,hra,hok,hp,post⟩:=h
  (simp![vf5,hra];repeat(simp only[Go];simp![vf5,hra]))
  refine u54 (λr σ G'=>∃(r1 r2:List Row) (v1 v2:Option D),r1++r2=rs/\r=enD r1.length (r2.map Row.d)/\Grow G G'/\σ=[some (.tup [.int (sz:Int),.ref ra]),v1,v2]) ⟨[],rs,none,none,rfl,rfl,Grow.refl,rfl⟩ ?_ ?_
  ·rintro σ G' ⟨r1,r2,v1,v2,e,e2,g,rfl⟩
   exact⟨by rw[g.kp _ _ hra];rfl,post _ g⟩
  ·rintro z r σ G' ⟨r1,r2,v1,v2,e,e2,g,rfl⟩ ih
   cases r2 with
   | nil=>cases e2
   | cons row r2 =>
    cases e2;refine⟨by rw[g.kp _ _ hra];rfl,?_⟩;have hmem:row∈rs:=by rw[<- e];simp
    have hat:rs[r1.length]?=some row:=by rw[<- e];simp
    simp![id];refine u48 (post:=λd G1=>d=.bl true/\Grow G' G1) (λR h=>⟨row,sz,rfl,hok row hmem,λG1 x=>h _ _ ⟨rfl,x⟩⟩) ?_;rintro d G1 ⟨rfl,g1⟩;simp![id];refine u48 (post:=λd G2=>d=.bl true/\Grow G1 G2) (λR h=>⟨row,sz,rfl,hok row hmem,λG1 x=>h _ _ ⟨rfl,x⟩⟩) ?_;rintro d G2 ⟨rfl,g2⟩;have g02:=(g.trans g1).trans g2;simp![id];refine u31 (v:=.bl true) (G1:=G2) (λR h=>⟨row,r1.length,ra,rs,rfl,g02.kp _ _ hra,hp,hat,h⟩) ?_;simp![id];exact ih _ _ ⟨r1++[row],r2,_,_,by rw[<- e,E1];rfl,by rw[B0];rfl,g02,rfl⟩
theorem wm4{n:Nat}:Ok P w mg base (n+1) T.f_jaq vn8:=by
 refine u14 T.f_jaq vq8 (λds G R h=>?_) (λcdv A outer s H E hr =>
   (u02 (s_if (u26 (x_in hr) (e_ix x_ix (ev 0) u05) (u23 (u00 u08 (u00 u08 u03))) (by with_unfolding_all rfl)) (u07 (u15 (e_if (u26 (x_eq hr) (e_ix x_ix (e_ix x_ix (ev 0) u05) u05) u08 (nomark _)) (u46 (u00 (e_ix x_ix (e_ix x_ix (ev 0) u05) u05) u03)) (u46 u03)))) u21)
   (u02 (s_if (u26 (x_eq hr) (e_ix x_ix (ev 0) u05) u08 (nomark _)) (u07 (u15 (u59 (N':=["cond"]) (ix:=[none]) (blk (osc:=u04 vg4) (N:=["row"]) rfl rfl (by decide)) (u82 (e_ix x_ix (ev 0) u05)) (λ_ _ _ _=>(u19 0 (show(["cond"]:List Str).Nodup by decide))) (λ_ _ _ _=>u44) (λ_ _ _ _=>(e_ix x_ix (ev 0) u05))))) u21)
   (u07 (u15 (e_if (u26 (x_eq hr) (e_ix x_ix (ev 0) u05) u08 (nomark _)) (u46 (u00 (e_ix x_ix (ev 0) u05) u03)) (u46 u03))))))) (λds G R h=>?_)
 ·obtain⟨row,sz,rfl,_⟩:=h;rfl
 ·obtain⟨row,sz,rfl,hok,post⟩:=h
  rcases vs7 row with⟨w0,x,o,hr,hd,hw⟩|⟨x,i,cs,rfl⟩|⟨x,y,rfl⟩|⟨w0,x,n,k,hr,hd,h1,h2,h3,h4⟩
  ·simp only[hd]
   cases o with
   | num n =>
    have e:rb row=[]:=by rcases hr with rfl|rfl <;> rfl
    rw[e] at post;simp![Opd.d,u24,u47,hw];exact⟨by decide,λq hq=>post q _ hq u01 (Grow.refl.new hq)⟩
   | box y =>
    have e:rb row=[(y:Int)]:=by rcases hr with rfl|rfl <;> rfl
    rw[e] at post;simp![Opd.d,u24,u47,hw];exact⟨by decide,λq hq=>post q _ hq u01 (Grow.refl.new hq)⟩
  ·simp![Row.d,u24,u47,Q7,N7,R0,P9]
   dsimp![u24];intro p hp;have hl:=hok.2.2.1;refine u28 (λr σ G'=>∃(c1 c2:List (Nat×Nat)) (v:Option D),c1++c2=cs/\r=c2.map cd/\G'=gup G p (.lst ((c1.map λc=>(c.1:Int)).map .int))/\σ=[v]) ⟨[],cs,none,rfl,rfl,rfl,rfl⟩ ?_ ?_
   ·rintro σ G' ⟨c1,c2,v,e,e2,rfl,rfl⟩
    have h2:c2=[]:=by simpa using e2.symm
    subst h2;rw[F7] at e;subst e;exact⟨trivial,post p _ hp u01 (Grow.refl.new hp)⟩
   ·rintro z r σ G' ⟨c1,c2,v,e,e2,rfl,rfl⟩ ih
    cases c2 with
    | nil=>cases e2
    | cons c c2 =>
     cases e2;refine⟨trivial,?_⟩;simp![cd];refine⟨?_,ih _ _ ⟨c1++[c],c2,_,by rw[<- e,E1];rfl,rfl,?_,rfl⟩⟩
     ·have:=congrArg J1 e
      rw[B0,C0] at this;rw[B5,B5];exact C4 (m:=1000) (by omega) (by decide)
     ·rw[u29,D2,D2];rfl
  ·simp![Row.d,u24,u47,Q7,N7,R0,P9]
   dsimp![u24];dsimp![u24];exact⟨by decide,λq hq=>post q _ hq u01 (Grow.refl.new hq)⟩
  ·have e:rb row=[]:=by rcases hr with rfl|rfl <;> rfl
   rw[e] at post;simp only[hd];simp![u47,h1];dsimp![h2];dsimp![h3];exact⟨by decide,λq hq=>post q _ hq u01 (Grow.refl.new hq)⟩
theorem wm8{n:Nat}:Ok P w mg base (n+1) T.f_jam w97:=by
 refine u14 T.f_jam vr1 (λds G R h=>?_) (λcdv A outer s H E hr =>
   (u07 (u15 (e_if (u26 (x_eq hr) (e_ix x_ix (ev 0) u05) u08 (nomark _)) (u16 u50 (u46 (u00 (e_ix x_ix (ev 0) u05) u03)) (u59 (N':=["cond"]) (ix:=[none]) (blk (osc:=u04 vg6) (N:=["row"]) rfl rfl (by decide)) (u82 (e_ix x_ix (ev 0) u05)) (λ_ _ _ _=>(u19 0 (show(["cond"]:List Str).Nodup by decide))) (λ_ _ _ _=>u44) (λ_ _ _ _=>(e_ix x_ix (ev 0) u05)))) (u46 u03))))) (λds G R h=>?_)
 ·obtain⟨row,sz,rfl,_⟩:=h;rfl
 ·obtain⟨row,sz,rfl,hok,post⟩:=h
  rcases wp0 row with⟨x,i,cs,rfl⟩|⟨w0,rest,hd,h1,e⟩
  ·simp![Row.d,u24]
   refine⟨by decide,λp0 hp0=>?_⟩;intro p hp;have hl:=hok.2.2.1;have g0:Grow G (gup G p0 (.lst [.int (i:Int)])):=Grow.refl.new hp0;have hpn:p≠p0:=λe=>by rw[e,u01] at hp;cases hp
   refine u28 (λr σ G'=>∃(c1 c2:List (Nat×Nat)) (v:Option D),c1++c2=cs/\r=c2.map cd/\G'=gup (gup G p0 (.lst [.int (i:Int)])) p (.lst ((c1.map λc=>(c.2:Int)).map .int))/\σ=[v]) ⟨[],cs,none,rfl,rfl,rfl,rfl⟩ ?_ ?_
   ·rintro σ G' ⟨c1,c2,v,e,e2,rfl,rfl⟩
    have h2:c2=[]:=by simpa using e2.symm
    subst h2;rw[F7] at e;subst e;refine⟨trivial,?_⟩;have g1:Grow G (gup (gup G p0 (.lst [.int (i:Int)])) p (.lst ((c1.map λc=>(c.2:Int)).map .int))):=g0.new hp;have h0:gup (gup G p0 (.lst [.int (i:Int)])) p (.lst ((c1.map λc=>(c.2:Int)).map .int)) p0=some (.lst [.int (i:Int)]):=by rw[u06 (D6 hpn),u01]
    simp![u47,h0];refine⟨by rw[B5,B5];exact D4 (m:=1000) (by omega) (by decide),λq hq=>post q _ (g1.none hq) u01 (g1.new hq)⟩
   ·rintro z r σ G' ⟨c1,c2,v,e,e2,rfl,rfl⟩ ih
    cases c2 with
    | nil=>cases e2
    | cons c c2 =>
     cases e2;refine⟨trivial,?_⟩;simp![cd];refine⟨?_,ih _ _ ⟨c1++[c],c2,_,by rw[<- e,E1];rfl,rfl,?_,rfl⟩⟩
     ·have:=congrArg J1 e
      rw[B0,C0] at this;rw[B5,B5];exact C4 (m:=1000) (by omega) (by decide)
     ·rw[u29,D2,D2];rfl
  ·rw[e] at post
   simp only[hd];simp![h1];exact⟨by decide,λq hq=>post q _ hq u01 (Grow.refl.new hq)⟩
theorem wj7{n:Nat}:Ok P w mg base (n+1) T.f_jbw w91:=by
 refine u14 T.f_jbw vq0 (λds G R h=>?_) (λcdv A outer s H E hr =>
   (u02 (s_if (u26 (x_in hr) (e_ix x_ix (ev 0) u05) (u23 (u00 u08 (u00 u08 u03))) (by with_unfolding_all rfl)) (u07 (u15 (e_if (u26 (x_eq hr) (e_ix x_ix (e_ix x_ix (ev 0) u05) u05) u08 (nomark _)) (u46 (u00 (e_ix x_ix (e_ix x_ix (ev 0) u05) u05) u03)) (u46 u03)))) u21)
   (u07 (u15 (e_if (u26 (x_in hr) (e_ix x_ix (ev 0) u05) (u23 (u00 u08 (u00 u08 u03))) (by with_unfolding_all rfl)) (u46 (u00 (e_ix x_ix (ev 0) u05) u03)) (u46 u03)))))) (λds G R h=>?_)
 ·obtain⟨row,sz,rfl,_⟩:=h;rfl
 ·obtain⟨row,sz,rfl,hok,post⟩:=h
  rcases vs7 row with⟨w0,x,o,hr,hd,hw⟩|⟨x,i,cs,rfl⟩|⟨x,y,rfl⟩|⟨w0,x,n,k,hr,hd,h1,h2,h3,h4⟩
  ·simp only[hd]
   cases o with
   | num n =>
    have e:rnums row=[n]:=by rcases hr with rfl|rfl <;> rfl
    rw[e] at post;simp![Opd.d,u24,u47,hw];exact⟨by decide,λq hq=>post q _ hq u01 (Grow.refl.new hq)⟩
   | box y =>
    have e:rnums row=[]:=by rcases hr with rfl|rfl <;> rfl
    rw[e] at post;simp![Opd.d,u24,u47,hw];exact⟨by decide,λq hq=>post q _ hq u01 (Grow.refl.new hq)⟩
  ·simp![Row.d,u24,u47,Q7,N7,R0,P9]
   dsimp![u24,u47,Q7,N7,R0,P9];exact⟨by decide,λq hq=>post q _ hq u01 (Grow.refl.new hq)⟩
  ·simp![Row.d,u24,u47,Q7,N7,R0,P9]
   dsimp![u24,u47,Q7,N7,R0,P9];exact⟨by decide,λq hq=>post q _ hq u01 (Grow.refl.new hq)⟩
  ·have e:rnums row=[n]:=by rcases hr with rfl|rfl <;> rfl
   rw[e] at post;simp only[hd];simp![u47,h1];dsimp![u47,h4];exact⟨by decide,λq hq=>post q _ hq u01 (Grow.refl.new hq)⟩
theorem wl7{n:Nat}(G_jaq:Ok P w mg base n T.f_jaq vn8)(G_jam:Ok P w mg base n T.f_jam w97)(G_jbw:Ok P w mg base n T.f_jbw w91):Ok P w mg base (n+1) T.f_jay wv1:=by
 refine u14 T.f_jay vq5 (λds G R h=>?_) (λcdv A outer s H E hr =>
   (u07 (u15 (uu5 (u18 ut1 rfl T.b_all (by decide) (u00 (u59 (N':=["box", "size"]) (ix:=[none,some 1]) (blk (osc:=u04 v05) (N:=["row", "size"]) rfl rfl (by decide)) (u82 (u16 u50 (u46 (u00 (e_ix x_ix (ev 0) u05) u03)) (ec T.f_jaq T.g_boxes_read G_jaq hr (u00 (ev 0) u03)))) (λ_ _ _ _=>(u19 0 (show(["box", "size"]:List Str).Nodup by decide))) (λ_ _ _ _=>u44) (λ_ _ _ _=>(ua4 (x_lt) (ev 0) (ev 1) (nomark _)))) u03)) (uu5 (u18 ut1 rfl T.b_all (by decide) (u00 (u59 (N':=["bit"]) (ix:=[none]) (blk (osc:=u04 v05) (N:=["row", "size"]) rfl rfl (by decide)) (u82 (ec T.f_jam T.g_bits_of G_jam hr (u00 (ev 0) u03))) (λ_ _ _ _=>(u19 0 (show(["bit"]:List Str).Nodup by decide))) (λ_ _ _ _=>u44) (λ_ _ _ _=>(ua4 (x_lt) (ev 0) (u91 T.k_BITS) (nomark _)))) u03)) (v24 (u18 ut1 rfl T.b_all (by decide) (u00 (u59 (N':=["number"]) (ix:=[none]) (blk (osc:=u04 v05) (N:=["row", "size"]) rfl rfl (by decide)) (u82 (ec T.f_jbw T.g_numbers_of G_jbw hr (u00 (ev 0) u03))) (λ_ _ _ _=>(u19 0 (show(["number"]:List Str).Nodup by decide))) (λ_ _ _ _=>u44) (λ_ _ _ _=>(ua4 (x_lt) (ev 0) (u91 T.k_NUMBERS) (nomark _)))) u03)))))))) (λds G R h=>?_)
 ·obtain⟨row,sz,rfl,_⟩:=h;rfl
 ·obtain⟨row,sz,rfl,hok,post⟩:=h
  obtain⟨w0,rest,hd⟩:=v63 row;have lst:∀{S:Sp3} {ks:List Int} {G:Gp} {q:DK},(∀R,(∀a G',G a=none->G' a=some (.lst (ks.map .int))->Grow G G'->R (.ref a) G')->S [row.d] G R)->(∀a G',G a=none->G' a=some (.lst (ks.map .int))->Grow G G'->q (.ref a) G')->∃R,S [row.d] G R/\∀d G',R d G'->q d G':=λ{S ks G q} hS k =>
   u48 (post:=λd G'=>∃a,d=.ref a/\G a=none/\G' a=some (.lst (ks.map .int))/\Grow G G') (λR h=>hS R λa G' x y z=>h _ _ ⟨a,rfl,x,y,z⟩) λd G' ⟨a,e,x,y,z⟩=>by subst e;exact k a G' x y z
  simp only[hd]
  (simp![id];repeat(simp only[Go];simp![id]))
  rw[<- hd];refine⟨by decide,λp0 hp0=>?_⟩;have g0:Grow G (gup G p0 (.lst [.int (row.x:Int)])):=Grow.refl.new hp0;refine lst (S:=vn8) (ks:=rb row) (λR h=>⟨row,sz,rfl,hok,h⟩) λa1 G1 na1 h1 g1=>?_
  have h10:G1 p0=some (.lst [.int (row.x:Int)]):=g1.kp _ _ u01;have g01:=g0.trans g1;simp![u47,h10,h1];refine⟨by rw[B5];have:=vs0 hok;exact D4 (m:=1000) (by omega) (by decide),λa2 ha2=>?_⟩;have g2:Grow G (gup G1 a2 (.lst ([.int (row.x:Int)]++(rb row).map .int))):=g01.new ha2;simp![id];intro p1 hp1;have hn1:a2≠p1:=λe=>by rw[<- e,u01] at hp1;cases hp1
  refine vd8 (ks0:=(row.x:Int)::rb row) (bnd:=(sz:Int)) (λv G q h=>h) (by rw[u01];rfl) hn1 (by rw[C0];have:=vs0 hok;omega) (λk hk=>?_) ?_ _
  ·rcases D1.mp hk with rfl|hk
   ·have:=ok_x hok;omega
   ·exact(wi0 hok k hk).1
  generalize ((row.x:Int)::rb row).length=L1;have g3:=g2.new (o:=.lst (C2 L1 (.bl true))) hp1;simp![u66,uc1];refine lst (S:=w97) (ks:=rbits row) (λR h=>⟨row,sz,rfl,hok,h⟩) λa4 G4 na4 h4 g4=>?_
  have g5:=g3.trans g4;simp![h4];intro p2 hp2;refine vd8 (ks0:=rbits row) (bnd:=32) (λv G q h=>h) (by rw[h4];rfl) (gne h4 hp2) (by have:=v68 hok;omega) (wj4 hok) ?_ _;have g6:=g5.new (o:=.lst (C2 (rbits row).length (.bl true))) hp2;simp![u66,uc1];refine lst (S:=w91) (ks:=rnums row) (λR h=>⟨row,sz,rfl,hok,h⟩) λa7 G7 na7 h7 g7=>?_
  have g8:=g6.trans g7;simp![h7];intro p3 hp3;refine vd8 (ks0:=rnums row) (bnd:=4294967296) (λv G q h=>h) (by rw[h7];rfl) (gne h7 hp3) (by have:=v64 (r:=row);omega) (wj3 hok) ?_ _;have g9:=g8.new (o:=.lst (C2 (rnums row).length (.bl true))) hp3;simp![u66,uc1];exact post _ g9
theorem wl8{n:Nat}(G_jaq:Ok P w mg base n T.f_jaq vn8):Ok P w mg base (n+1) T.f_jax wv3:=by
 refine u14 T.f_jax vq6 (λds G R h=>?_) (λcdv A outer s H E hr =>
   (u07 (u15 (ua4 (ul7 hr) (e_ix x_ix (ev 0) u05) (ec T.f_jaq T.g_boxes_read G_jaq hr (u00 (ev 0) u03)) (by with_unfolding_all rfl))))) (λds G R h=>?_)
 ·obtain⟨row,sz,rfl,_⟩:=h;rfl
 ·obtain⟨row,sz,rfl,hok,post⟩:=h
  obtain⟨w0,rest,hd⟩:=v63 row;simp only[hd]
  (simp![id];repeat(simp only[Go];simp![id]))
  rw[<- hd];refine u48 (post:=λd G'=>∃a,d=.ref a/\G a=none/\G' a=some (.lst ((rb row).map .int))/\Grow G G') (λR h=>⟨row,sz,rfl,hok,λa G' x y z=>h _ _ ⟨a,rfl,x,y,z⟩⟩) ?_;rintro d G' ⟨a,rfl,na,ha,g⟩;have hn:decide ((row.x:Int)∈rb row)=false:=decide_eq_false λh=>(wi0 hok _ h).2 rfl
  simp![u47,ha,uk9,hn];exact post _ g
theorem wm0{n:Nat}:Ok P w mg base (n+1) T.f_jav wv4:=by
 refine u14 T.f_jav sc_jav (λds G R h=>?_) (λcdv A outer s H E hr =>
   (u02 (s_if (u26 (ul7 hr) (e_ix x_ix (ev 0) u05) (u23 (u00 u08 (u00 u08 u03))) (by with_unfolding_all rfl)) (u07 (u15 e_bl)) u21)
   (u02 (u20 3 sc_jav.nd (e_if (u26 (x_eq hr) (e_ix x_ix (ev 0) u05) u08 (nomark _)) u08 u08))
   (u07 (u15 (uu5 (ua4 (x_lt) (e_ix x_ix (ev 0) u05) (u18 u77 rfl T.b_len (by decide) (u00 (ev 2) u03)) (nomark _)) (v24 (ua4 (x_eq hr) (e_ix x_ix (ev 2) (e_ix x_ix (ev 0) u05)) (u23 (u00 (ev 3) (u00 (e_ix x_ix (ev 0) u05) (u00 (e_ix x_ix (ev 0) u05) (u00 (ev 1) u03))))) (nomark _))))))))) (λds G R h=>?_)
 ·obtain⟨row,at0,ra,rs,rfl,_⟩:=h;rfl
 ·obtain⟨row,at0,ra,rs,rfl,hra,hp,hrow,post⟩:=h
  rcases kinds3 row with⟨x,n,k,rfl⟩|⟨x,n,k,rfl⟩|⟨w0,rest,hd,h1,h2,hp'⟩
  case inr.inr =>
   simp only[hd];simp![h1,h2,u47,Q7,N7,R0,P9];exact post
  case inl =>
   have hk:=hp.go _ _ _ _ hrow;have hkl:decide ((k:Int)<((rs.map Row.d).length:Int))=true:=decide_eq_true (by rw[B5];have:=un0 hk;omega);simp![Row.d,u24,u47,Q7,N7,R0,P9];dsimp![u24];dsimp![hra,hkl,ue2 hk,Row.d];refine⟨by decide,vc7 (r:=.come x n at0) rfl rfl ?_⟩;exact post
  case inr.inl =>
   have hk:=hp.co _ _ _ _ hrow;have hkl:decide ((k:Int)<((rs.map Row.d).length:Int))=true:=decide_eq_true (by rw[B5];have:=un0 hk;omega);simp![Row.d,u24,u47,Q7,N7,R0,P9];dsimp![u24];dsimp![hra,hkl,ue2 hk,Row.d];refine⟨by decide,vc7 (r:=.go x n at0) rfl rfl ?_⟩;exact post
theorem wn2{n:Nat}:Ok P w mg base (n+1) T.f_jai w99:=by
 refine u14 T.f_jai wd4 (λds G R h=>?_) (λcdv A outer s H E hr =>
   (u02 (uq2 T.c_Ride.cl T.c_Ride.n_rows (ev 0) (u27 u53 rfl T.b_list (by decide) (u00 (e_ix x_ix (ev 1) u05) u03)))
   (u02 (uq2 T.c_Ride.cl T.c_Ride.n_held (ev 0) (u27 u53 rfl T.b_list (by decide) (u00 (ev 2) u03)))
   (u07 (uq2 T.c_Ride.cl T.c_Ride.n_spot (ev 0) (ev 3)))))) (λds G R h=>?_)
 ·obtain⟨p,c0,cr,bx,rs,bs,s,rfl,_⟩:=h;rfl
 ·obtain⟨p,c0,cr,bx,rs,bs,s,rfl,hp,hcr,hbx,post⟩:=h
  (simp![hcr];repeat(simp only[Go];simp![hcr]))
  intro ra hra;have n1:p≠ra:=gne hp hra;have n2:bx≠ra:=gne hbx hra
  (simp![u06 n1,hp,ub0,beq_self_eq_true,E7,M9,putD];repeat(simp only[Go];simp![u06 n1,hp,ub0,beq_self_eq_true,E7,M9,putD]))
  refine⟨by decide,?_⟩;have n3:bx≠p:=by intro e;rw[e,hp] at hbx;cases hbx
  (simp![u06 n3,u06 n2,hbx];repeat(simp only[Go];simp![u06 n3,u06 n2,hbx]))
  intro ha hha;have n4:ha≠p:=by intro e;rw[e,u01] at hha;cases hha
  have n5:ha≠ra:=by intro e;rw[e,u06 (D6 n1),u01] at hha;cases hha
  rw[u06 n4,u06 n5] at hha
  (simp![u06 (D6 n4),ub0,beq_self_eq_true,E7,M9,putD];repeat(simp only[Go];simp![u06 (D6 n4),ub0,beq_self_eq_true,E7,M9,putD]))
  refine⟨by decide,by decide,?_⟩;refine post ra ha _ hra hha ⟨by rw[u01];rfl,?_,?_,D6 n5⟩ λb o hb e=>?_
  ·rw[u06 (D6 n1),u06 (D6 n1),u06 (D6 n5),u06 (D6 n1),u01]
  ·rw[u06 n4,u06 n4,u01]
  ·rw[u06 hb,u06 hb,u06 (gne e hha),u06 hb,u06 (gne e hra)]
   exact e
theorem wn0{n:Nat}:Ok P w mg base (n+1) T.f_jak w98:=by
 refine u14 T.f_jak vr2 (λds G R h=>?_) (λcdv A outer s H E hr =>
   (u07 (u15 (u73 T.c_Ride.cl T.c_Ride.n_spot (ev 0))))) (λds G R h=>?_)
 ·obtain⟨p,ra,ha,rs,bs,s,rfl,_⟩:=h;rfl
 ·obtain⟨p,ra,ha,rs,bs,s,rfl,A,post⟩:=h
  (simp![A.ob,A.ro,u34];repeat(simp only[Go];simp![A.ob,A.ro,u34]))
  exact post
theorem wn4{n:Nat}:Ok P w mg base (n+1) T.f_jag wa0:=by
 refine u14 T.f_jag vr3 (λds G R h=>?_) (λcdv A outer s H E hr =>
   (u07 (u15 (u27 u53 rfl T.b_list (by decide) (u00 (u73 T.c_Ride.cl T.c_Ride.n_held (ev 0)) u03))))) (λds G R h=>?_)
 ·obtain⟨p,ra,ha,rs,bs,s,rfl,_⟩:=h;rfl
 ·obtain⟨p,ra,ha,rs,bs,s,rfl,A,post⟩:=h
  (simp![A.ob,A.he,u34];repeat(simp only[Go];simp![A.ob,A.he,u34]))
  exact post
theorem wn3{n:Nat}(G_jaj:Ok P w mg base n T.f_jaj vn9)(G_jaw:Ok P w mg base n T.f_jaw w95)(G_jar:Ok P w mg base n T.f_jar ve3):Ok P w mg base (n+1) T.f_jah ww0:=by
 refine u14 T.f_jah sc_jah (λds G R h=>?_) (λcdv A outer s H E hr =>
   (u02 (s_if (uc5 (u78 (em0 T.c_Ride.cl T.f_jaj T.m_jaj G_jaj hr (ev 0)))) (u07 (u15 e_bl)) u21)
   (u02 (u20 1 sc_jah.nd (e_ix x_ix (u73 T.c_Ride.cl T.c_Ride.n_rows (ev 0)) (u73 T.c_Ride.cl T.c_Ride.n_spot (ev 0))))
   (u02 (s_if (t_w (w_and (u26 (x_eq hr) (e_ix x_ix (ev 1) u05) u08 (nomark _)) (v42 (u78 (ec T.f_jaw T.g_holds G_jaw hr (u00 (ev 1) (u00 (u73 T.c_Ride.cl T.c_Ride.n_held (ev 0)) u03))))))) (u02 (uq2 T.c_Ride.cl T.c_Ride.n_spot (ev 0) (u16 u50 (e_ix x_ix (ev 1) u05) u05))
   (u07 (u15 e_bl))) u21)
   (u02 (u38 (ec T.f_jar T.g_change G_jar hr (u00 (ev 1) (u00 (u73 T.c_Ride.cl T.c_Ride.n_held (ev 0)) (u00 u05 u03)))))
   (u02 (uw6 T.c_Ride.cl T.c_Ride.n_spot (ev 0) u05 uo3)
   (u07 (u15 e_bl)))))))) (λds G R h=>?_)
 ·obtain⟨p,ra,ha,rs,bs,s,sz,rfl,_⟩:=h;rfl
 ·obtain⟨p,ra,ha,rs,bs,s,sz,rfl,A,c,post⟩:=h
  have hph:=A.ph;have hpr:=A.pr;have hl:=c.bo.len
  (simp![A.ob,u34];repeat(simp only[Go];simp![A.ob,u34]))
  refine u31 (v:=.bl (mayF rs bs s)) (G1:=G) (λR h=>⟨p,ra,ha,rs,bs,s,sz,rfl,A,c,h⟩) ?_
  (simp![id];repeat(simp only[Go];simp![id]))
  cases hm:mayF rs bs s with
  | false =>
   (simp![id];repeat(simp only[Go];simp![id]))
   rw[hm] at post;exact post G (λ_=>rfl) λz=>by cases z
  | true =>
   (simp![id];repeat(simp only[Go];simp![id]))
   rw[hm] at post;have hlt:s<rs.length:=by
    by_cases q:s<rs.length
    ·exact q
    ·unfold mayF at hm;rw[K9 (by omega)] at hm;cases hm
   have hg:=B6 hlt;have hok:=c.ro _ (P7 hlt)
   (simp![A.ob,A.ro,u34,ue2 hg];repeat(simp only[Go];simp![A.ob,A.ro,u34,ue2 hg]))
   have step:∀(row:Row),rs[s]=row->row.ok sz->(nxF rs bs s=(s+1,stp 1 bs row))->∃R1,ve3 [row.d,.ref ha,.int 1] G R1/\∀d G',R1 d G'->∃fs',G' p=some (.ins u35 fs')/\fs'=flds ra ha s/\R (.bl true) (gup G' p (.ins u35 (flds ra ha (s+1)))):=by
    intro row _ hrok hnx;refine u48 (post:=λd G'=>d=.non/\Upd1 ha (stp 1 bs row) G G') (λR h=>⟨row,ha,sz,1,bs,rfl,.inl rfl,hrok,c.bo,A.he,λG' u=>h _ _ ⟨rfl,u⟩⟩) ?_;rintro d G' ⟨rfl,u⟩;refine⟨flds ra ha s,by rw[u.kp p hph];exact A.ob,rfl,?_⟩;refine post _ (λz=>by cases z) λ_=>?_
    rw[hnx];refine⟨⟨u01,by rw[u06 (D6 hpr),u.kp ra A.ne];exact A.ro,by rw[u06 (D6 hph)];exact u.at_,A.ne⟩,λb h1 h2=>by rw[u06 h1,u.kp b h2]⟩
   have fin:∀{row:Row} {tl:D->Gp->Prop},(∃R1,ve3 [row.d,.ref ha,.int 1] G R1/\∀d G',R1 d G'->∃fs',G' p=some (.ins u35 fs')/\fs'=flds ra ha s/\R (.bl true) (gup G' p (.ins u35 (flds ra ha (s+1))))) ->
     (∀d G',(∃fs',G' p=some (.ins u35 fs')/\fs'=flds ra ha s/\R (.bl true) (gup G' p (.ins u35 (flds ra ha (s+1)))))->tl d G')->∃R1,ve3 [row.d,.ref ha,.int 1] G R1/\∀d G',R1 d G'->tl d G':=λ⟨R1,a,b⟩ h=>⟨R1,a,λd G' q=>h d G' (b d G' q)⟩
   have es:((s:Int)+1)=((s+1:Nat):Int):=by omega
   rcases wo9 rs[s] with⟨x,m,k,hrow⟩|⟨w,rest,hd,hw,hnx⟩
   ·rw[hrow]
    rw[hrow] at hok
    (simp![Row.d,u24,A.ob,u34];repeat(simp only[Go];simp![Row.d,u24,A.ob,u34]))
    refine u31 (v:=.bl (decide (gt bs x=m))) (G1:=G) (λR h=>⟨.go x m k,ha,x,bs,m,k,rfl,.inl rfl,A.he,by rw[hl];exact hok.1,h⟩) ?_
    (simp![id];repeat(simp only[Go];simp![id]))
    refine u89 (λh0=>?_) (λh0=>?_)
    ·(simp![A.ob,u34];repeat(simp only[Go];simp![A.ob,u34]))
     refine⟨vb0,?_⟩;refine post _ (λz=>by cases z) λ_=>?_
     have hnx:nxF rs bs s=(k+1,bs):=by unfold nxF;rw[hg,hrow];simp[h0]
     rw[hnx];refine⟨⟨?_,by rw[u06 (D6 hpr)];exact A.ro,by rw[u06 (D6 hph)];exact A.he,A.ne⟩,λb h1 h2=>u06 h1⟩;rw[u01];unfold flds;rw[show((k+1:Nat):Int)=(k:Int)+1 by omega]
    ·(simp![A.ob,u34];repeat(simp only[Go];simp![A.ob,u34]))
     refine fin (row:=.go x m k) (step _ hrow hok (by unfold nxF;rw[hg,hrow];simp[h0,stp])) ?_;rintro d G' ⟨fs',e1,rfl,q⟩
     (simp![e1,u34,es];repeat(simp only[Go];simp![e1,u34,es]))
     exact⟨vb0,q⟩
   ·(simp![hd,hw,A.ob,u34];repeat(simp only[Go];simp![hd,hw,A.ob,u34]))
    rw[<- hd];refine fin (row:=rs[s]) (step _ rfl hok (hnx rs bs s hg)) ?_;rintro d G' ⟨fs',e1,rfl,q⟩
    (simp![e1,u34,es];repeat(simp only[Go];simp![e1,u34,es]))
    exact⟨vb0,q⟩
theorem wn5{n:Nat}:Ok P w mg base (n+1) T.f_jaf vo0:=by
 refine u14 T.f_jaf vr4 (λds G R h=>?_) (λcdv A outer s H E hr =>
   (u07 (u15 (ua4 (x_eq hr) (u73 T.c_Ride.cl T.c_Ride.n_spot (ev 0)) (u18 u77 rfl T.b_len (by decide) (u00 (u73 T.c_Ride.cl T.c_Ride.n_rows (ev 0)) u03)) (nomark _))))) (λds G R h=>?_)
 ·obtain⟨p,ra,ha,rs,bs,s,rfl,_⟩:=h;rfl
 ·obtain⟨p,ra,ha,rs,bs,s,rfl,A,post⟩:=h
  (simp![A.ob,A.ro,u34,B5];repeat(simp only[Go];simp![A.ob,A.ro,u34,B5]))
  have e:decide ((s:Int)=(rs.length:Int))=decide (s=rs.length):=by
   by_cases q:s=rs.length
   ·simp[q]
   ·have:¬ (s:Int)=(rs.length:Int):=by omega
    simp[q,this]
  rw[e];exact post
theorem wn1{n:Nat}(G_jaf:Ok P w mg base n T.f_jaf vo0)(G_jaw:Ok P w mg base n T.f_jaw w95):Ok P w mg base (n+1) T.f_jaj vn9:=by
 refine u14 T.f_jaj sc_jaj (λds G R h=>?_) (λcdv A outer s H E hr =>
   (u02 (s_if (u78 (em0 T.c_Ride.cl T.f_jaf T.m_jaf G_jaf hr (ev 0))) (u07 (u15 e_bl)) u21)
   (u02 (u20 1 sc_jaj.nd (e_ix x_ix (u73 T.c_Ride.cl T.c_Ride.n_rows (ev 0)) (u73 T.c_Ride.cl T.c_Ride.n_spot (ev 0))))
   (u07 (u15 (wr2 (uu5 (ua4 (x_eq hr) (e_ix x_ix (ev 1) u05) u08 (nomark _)) (v24 (ec T.f_jaw T.g_holds G_jaw hr (u00 (ev 1) (u00 (u73 T.c_Ride.cl T.c_Ride.n_held (ev 0)) u03))))))))))) (λds G R h=>?_)
 ·obtain⟨p,ra,ha,rs,bs,s,sz,rfl,_⟩:=h;rfl
 ·obtain⟨p,ra,ha,rs,bs,s,sz,rfl,A,c,post⟩:=h
  (simp![A.ob,u34];repeat(simp only[Go];simp![A.ob,u34]))
  refine u31 (v:=.bl (decide (s=rs.length))) (G1:=G) (λR h=>⟨p,ra,ha,rs,bs,s,rfl,A,h⟩) ?_
  (simp![A.ob,u34];repeat(simp only[Go];simp![A.ob,u34]))
  refine u89 (λh0=>?_) (λh0=>?_)
  ·subst h0
   have:mayF rs bs rs.length=false:=by unfold mayF;rw[K9 (B9 _)]
   rw[this] at post;exact post
  ·have hlt:s<rs.length:=by have:=c.le;omega
   have hg:=B6 hlt;have hok:=c.ro _ (P7 hlt);have hl:=c.bo.len;unfold mayF at post;rw[hg] at post
   (simp![A.ob,A.ro,u34,ue2 hg];repeat(simp only[Go];simp![A.ob,A.ro,u34,ue2 hg]))
   revert hok post
   cases rs[s] with
   | come x m k =>
    intro post hok
    (simp![Row.d,u24,A.ob,u34];repeat(simp only[Go];simp![Row.d,u24,A.ob,u34]))
    refine u31 (v:=.bl (decide (gt bs x=m))) (G1:=G) (λR h=>⟨.come x m k,ha,x,bs,m,k,rfl,.inr rfl,A.he,by rw[hl];exact hok.1,h⟩) ?_;exact post
   | go x m k=>intro post hok;(simp![Row.d,u24];repeat(simp only[Go];simp![Row.d,u24]));exact post
   | add x o=>intro post hok;(simp![Row.d,u24];repeat(simp only[Go];simp![Row.d,u24]));exact post
   | take x o=>intro post hok;(simp![Row.d,u24];repeat(simp only[Go];simp![Row.d,u24]));exact post
   | turn x i cs=>intro post hok;(simp![Row.d,u24];repeat(simp only[Go];simp![Row.d,u24]));exact post
   | swap x y=>intro post hok;(simp![Row.d,u24];repeat(simp only[Go];simp![Row.d,u24]));exact post
theorem wl9{n:Nat}:Ok P w mg base (n+1) T.f_jaw w95:=by
 refine u14 T.f_jaw vq7 (λds G R h=>?_) (λcdv A outer s H E hr =>
   (u07 (u15 (ua4 (x_eq hr) (e_ix x_ix (ev 1) (e_ix x_ix (ev 0) u05)) (e_ix x_ix (ev 0) u05) (nomark _))))) (λds G R h=>?_)
 ·obtain⟨row,a,x,bs,n,k,rfl,_⟩:=h;rfl
 ·obtain⟨row,a,x,bs,m,k,rfl,hrow,ha,hx,post⟩:=h
  rcases hrow with rfl|rfl
  ·(simp![Row.d,ha,u52 hx];repeat(simp only[Go];simp![Row.d,ha,u52 hx]))
   exact post
  ·(simp![Row.d,ha,u52 hx];repeat(simp only[Go];simp![Row.d,ha,u52 hx]))
   exact post
theorem wm3{n:Nat}(G_jbx:Ok P w mg base n T.f_jbx wt7)(G_jcg:Ok P w mg base n T.f_jcg wt3):Ok P w mg base (n+1) T.f_jar ve3:=by
 refine u14 T.f_jar sc_jar (λds G R h=>?_) (λcdv A outer s H E hr =>
   (u07 (s_if (u26 (x_eq hr) (e_ix x_ix (ev 0) u05) u08 (nomark _)) (u07 (ub6 (u16 ue6 (u16 u50 (e_ix x_ix (ev 1) (e_ix x_ix (ev 0) u05)) (u16 uc2 (ev 2) (ec T.f_jbx T.g_operand_value G_jbx hr (u00 (e_ix x_ix (ev 0) u05) (u00 (ev 1) u03))))) (u91 T.k_NUMBERS)) (ui7 (ev 1) (e_ix x_ix (ev 0) u05) ui6))) (u07 (s_if (u26 (x_eq hr) (e_ix x_ix (ev 0) u05) u08 (nomark _)) (u07 (ub6 (u16 ue6 (u16 ui5 (e_ix x_ix (ev 1) (e_ix x_ix (ev 0) u05)) (u16 uc2 (ev 2) (ec T.f_jbx T.g_operand_value G_jbx hr (u00 (e_ix x_ix (ev 0) u05) (u00 (ev 1) u03))))) (u91 T.k_NUMBERS)) (ui7 (ev 1) (e_ix x_ix (ev 0) u05) ui6))) (u07 (s_if (u26 (x_eq hr) (e_ix x_ix (ev 0) u05) u08 (nomark _)) (u07 (u38 (ec T.f_jcg T.g_turn_bit G_jcg hr (u00 (ev 0) (u00 (ev 1) u03))))) (u07 (s_if (u26 (x_eq hr) (e_ix x_ix (ev 0) u05) u08 (nomark _)) (u02 (u20 3 sc_jar.nd (e_ix x_ix (ev 1) (e_ix x_ix (ev 0) u05)))
   (u02 (ub6 (e_ix x_ix (ev 1) (e_ix x_ix (ev 0) u05)) (ui7 (ev 1) (e_ix x_ix (ev 0) u05) ui6))
   (u07 (ub6 (ev 3) (ui7 (ev 1) (e_ix x_ix (ev 0) u05) ui6))))) u21))))))))) (λds G R h=>?_)
 ·obtain⟨row,a,sz,s,bs,rfl,_⟩:=h;rfl
 ·obtain⟨row,a,sz,s,bs,rfl,hs,hok,hb,ha,post⟩:=h
  have hl:=hb.len;have cm:∀y:Int,CMul s y:=λy=>.inl (by rcases hs with rfl|rfl <;> decide)
  have p1:((0:Int)<4294967296)=True:=by decide
  cases row with
  | add x o =>
   have hx':x<bs.length:=by rw[hl];exact hok.1
   (simp![Row.d,u24,ha,u52 hx'];repeat(simp only[Go];simp![Row.d,u24,ha,u52 hx']))
   refine u31 (v:=.int (val bs o)) (G1:=G) (λR h=>⟨o,a,bs,rfl,ha,λy e=>by subst e;rw[hl];exact hok.2.1,h⟩) ?_
   (simp![ha,u52 hx',ua2 hx',setm,cm,p1];repeat(simp only[Go];simp![ha,u52 hx',ua2 hx',setm,cm,p1]))
   exact post _ ⟨u01,λb hb=>u06 hb⟩
  | take x o =>
   have hx':x<bs.length:=by rw[hl];exact hok.1
   (simp![Row.d,u24,ha,u52 hx'];repeat(simp only[Go];simp![Row.d,u24,ha,u52 hx']))
   refine u31 (v:=.int (val bs o)) (G1:=G) (λR h=>⟨o,a,bs,rfl,ha,λy e=>by subst e;rw[hl];exact hok.2.1,h⟩) ?_
   (simp![ha,u52 hx',ua2 hx',setm,cm,p1];repeat(simp only[Go];simp![ha,u52 hx',ua2 hx',setm,cm,p1]))
   exact post _ ⟨u01,λb hb=>u06 hb⟩
  | turn x i cs =>
   (simp![Row.d,u24];repeat(simp only[Go];simp![Row.d,u24]))
   refine u48 (post:=λd G'=>d=.non/\Upd1 a (stp 1 bs (.turn x i cs)) G G') (λR h=>⟨x,i,cs,a,sz,bs,rfl,hok,hb,ha,λG' u=>h _ _ ⟨rfl,u⟩⟩) ?_;rintro d G' ⟨rfl,u⟩;exact post _ u
  | swap x y =>
   have hx':x<bs.length:=by rw[hl];exact hok.1
   have hy':y<bs.length:=by rw[hl];exact hok.2.1
   have hx2:x<(bs.set x (gt bs y)).length:=by rw[J0];exact hx'
   have hy2:y<(bs.set x (gt bs y)).length:=by rw[J0];exact hy'
   (simp![Row.d,u24,ha,u52 hx',u52 hy',ua2 hx',setm,ua2 hy2,u29];repeat(simp only[Go];simp![Row.d,u24,ha,u52 hx',u52 hy',ua2 hx',setm,ua2 hy2,u29]))
   exact post _ ⟨u01,λb hb=>u06 hb⟩
  | go x m k =>
   (simp![Row.d,u24];repeat(simp only[Go];simp![Row.d,u24]))
   exact post _ ⟨ha,λb hb=>rfl⟩
  | come x m k =>
   (simp![Row.d,u24];repeat(simp only[Go];simp![Row.d,u24]))
   exact post _ ⟨ha,λb hb=>rfl⟩
theorem wj6{n:Nat}:Ok P w mg base (n+1) T.f_jbx wt7:=by
 refine u14 T.f_jbx vp9 (λds G R h=>?_) (λcdv A outer s H E hr =>
   (u07 (u15 (e_if (u26 (x_eq hr) (e_ix x_ix (ev 0) u05) u08 (nomark _)) (e_ix x_ix (ev 1) (e_ix x_ix (ev 0) u05)) (e_ix x_ix (ev 0) u05))))) (λds G R h=>?_)
 ·obtain⟨o,a,bs,rfl,_⟩:=h;rfl
 ·obtain⟨o,a,bs,rfl,ha,hy,post⟩:=h
  cases o with
  | num m =>
   (simp![Opd.d,u24];repeat(simp only[Go];simp![Opd.d,u24]))
   exact post
  | box y =>
   (simp![Opd.d,u24,ha,u52 (hy y rfl)];repeat(simp only[Go];simp![Opd.d,u24,ha,u52 (hy y rfl)]))
   exact post
theorem wi7{n:Nat}:Ok P w mg base (n+1) T.f_jcg wt3:=by
 refine u14 T.f_jcg sc_jcg (λds G R h=>?_) (λcdv A outer s H E hr =>
   (u02 (uc6 (u82 (e_ix x_ix (ev 0) u05)) (u19 2 sc_jcg.nd) (u07 (s_if (u26 (x_eq hr) (u16 wa8 (u16 wz2 (e_ix x_ix (ev 1) (e_ix x_ix (ev 2) u05)) (e_ix x_ix (ev 2) u05)) u05) u05 (nomark _)) (u07 wd6) u21)))
   (u07 (ub6 (u16 wa5 (e_ix x_ix (ev 1) (e_ix x_ix (ev 0) u05)) (u16 v37 u05 (e_ix x_ix (ev 0) u05))) (ui7 (ev 1) (e_ix x_ix (ev 0) u05) ui6))))) (λds G R h=>?_)
 ·obtain⟨x,i,cs,a,sz,bs,rfl,_⟩:=h;rfl
 ·obtain⟨x,i,cs,a,sz,bs,rfl,hok,hb,ha,post⟩:=h
  have hl:=hb.len;obtain⟨hx,hi,_,hc⟩:=hok;have hx':x<bs.length:=by omega
  (simp![Row.d];repeat(simp only[Go];simp![Row.d]))
  refine u54 (λr σ G'=>∃(cs':List (Nat×Nat)) (v:Option D),r=cs'.map cd/\(∀c∈cs',c∈cs)/\con bs cs=con bs cs'/\G'=G/\σ=[some (Row.turn x i cs).d,some (.ref a),v]) ⟨cs,none,rfl,λ_ h=>h,rfl,rfl,rfl⟩ ?_ ?_
  ·rintro σ G' ⟨cs',v,e1,_,hcon,rfl,rfl⟩
   have e2:cs'=[]:=by simpa using e1.symm
   subst e2;refine⟨trivial,?_⟩
   (simp![Row.d,ha,u52 hx',ua2 hx',setm,v36];repeat(simp only[Go];simp![Row.d,ha,u52 hx',ua2 hx',setm,v36]))
   refine⟨ws1 (by omega) (by omega),?_⟩;refine post _ ⟨?_,λb hb=>u06 hb⟩;rw[u01]
   show _=some (DO.lst (C33 D.int (if con bs cs=true then _ else _)))
   rw[hcon];rfl
  ·rintro z r σ G' ⟨cs',v,e1,hsub,hcon,rfl,rfl⟩ ih
   cases cs' with
   | nil=>cases e1
   | cons c cs' =>
    cases e1;obtain⟨h1,h2,h3⟩:=hc c (hsub c D7);have hc1:c.1<bs.length:=by omega
    (simp![Row.d,cd,ha,u52 hc1,vd7];repeat(simp only[Go];simp![Row.d,cd,ha,u52 hc1,vd7]))
    refine⟨by omega,?_⟩;refine u89 (λh0=>?_) (λh0=>?_)
    ·refine post _ ⟨?_,λb hb=>rfl⟩
     have:con bs cs=false:=by rw[hcon];unfold con;rw[U6,h0];rfl
     show _=some (DO.lst (C33 D.int (if con bs cs=true then _ else _)))
     rw[this];exact ha
    ·refine ih _ _ ⟨cs',_,rfl,λd hd=>hsub d (C6 _ hd),?_,rfl,rfl⟩
     rw[hcon];unfold con;rw[U6];simp[h0]
theorem wj2{n:Nat}(G_jai:Ok P w mg base n T.f_jai w99)(G_jak:Ok P w mg base (n+1) T.f_jak w98)(G_jag:Ok P w mg base (n+1) T.f_jag wa0)(G_jah:Ok P w mg base (n+1) T.f_jah ww0)(G_jaf:Ok P w mg base (n+1) T.f_jaf vo0)(G_jaj:Ok P w mg base (n+1) T.f_jaj vn9)(G_jcn:Ok P w mg base (n+1) T.f_jcn w88):Ok P w mg base (n+1+1) T.f_jcb w90:=by
 refine u14 T.f_jcb sc_jcb (λds G R h=>?_) (λcdv A outer s H E hr =>
   (u02 (u20 3 sc_jcb.nd (emkd T.mk_Ride T.c_Ride.m T.d_jai G_jai hr (u00 (ev 0) (u00 (ev 1) u03))))
   (u02 (u20 4 sc_jcb.nd u05)
   (u02 (vv9 (t_w (w_and (u26 (x_lt) (ev 4) (ev 2) (nomark _)) (v42 (u78 (em0 T.c_Ride.cl T.f_jah T.m_jah G_jah hr (ev 3)))))) (u07 (x02 4 sc_jcb.nd u05 uo3)))
   (u02 (u20 5 sc_jcb.nd (ec T.f_jcn T.g_word_of G_jcn hr (u00 (em0 T.c_Ride.cl T.f_jaf T.m_jaf G_jaf hr (ev 3)) (u00 u08 (u00 (em0 T.c_Ride.cl T.f_jaj T.m_jaj G_jaj hr (ev 3)) u03)))))
   (u07 (u15 (u23 (u00 (ev 5) (u00 (em0 T.c_Ride.cl T.f_jak T.m_jak G_jak hr (ev 3)) (u00 (em0 T.c_Ride.cl T.f_jag T.m_jag G_jag hr (ev 3)) (u00 (ev 4) u03)))))))))))) (λds G R h=>?_)
 ·obtain⟨c0,rc,bx,rs,bs,most,sz,rfl,_⟩:=h;rfl
 ·obtain⟨c0,rc,bx,rs,bs,most,sz,rfl,hrc,hbx,c,hp,post⟩:=h
  simp![id];intro p hp0;refine ws4 (s:=0) hp0 hrc hbx λra ha G1 nra nha A1 g1=>?_
  dsimp![id];dsimp![id];refine v40 (λm σ G'=>∃(k s:Nat) (cs:List Int),m=most-k/\RnI true rs most 0 bs k s cs/\Cde sz rs cs s/\RideAt u35 G' p ra ha rs cs s/\Kept p ha G1 G'/\σ=[some (.tup [c0,.ref rc]),some (.ref bx),some (.int (most:Int)),some (.ref p),some (.int (k:Int)),none]) (m:=most)
   ⟨0,0,bs,rfl,RnI.init,c,A1,Kept.refl,rfl⟩ ?_
  rintro m σ G' N ⟨k,s,cs,em,hR,cc,A,kp,rfl⟩ ih;have stop:∀(e:rn true rs most 0 bs=(k,s,cs)),Go ((dSeq (dAsg (dCall w88 [] (u60 (ui8 u35 "at_end" vo0 [] (dVar 3) dNil) (u60 (dC (.str "end")) (u60 (ui8 u35 "may_forth" vn9 [] (dVar 3) dNil) dNil)))) (uh3 5)) (dRet (dTup (u60 (dVar 5) (u60 (ui8 u35 "place" w98 [] (dVar 3) dNil) (u60 (ui8 u35 "boxes" wa0 [] (dVar 3) dNil) (u60 (dVar 4) dNil))))))) { nx:=λ_ G'=>R .non G',rt:=R}) [some (.tup [c0,.ref rc]),some (.ref bx),some (.int (most:Int)),some (.ref p),some (.int (k:Int)),none] G':=by
   intro e;dsimp![A.ob,u34];refine u31 (v:=.bl (decide (s=rs.length))) (G1:=G') (λR h=>⟨p,ra,ha,rs,cs,s,rfl,A,h⟩) ?_;simp![A.ob,u34];refine u31 (v:=.bl (mayF rs cs s)) (G1:=G') (λR h=>⟨p,ra,ha,rs,cs,s,sz,rfl,A,cc,h⟩) ?_;simp![id];refine u31 (v:=.str (wrd true rs cs s)) (G1:=G') (λR h=>⟨_,_,_,rfl,by
    have ew:(if decide (s=rs.length)=true then("end" :Str) else if mayF rs cs s=true then "tired" else "torn")=wrd true rs cs s:=by
     unfold wrd
     by_cases h0:s=rs.length
     ·rw[decide_eq_true h0,if_pos rfl]
      exact(if_pos (show s=(if true=true then rs.length else 0) from h0)).symm
     ·rw[decide_eq_false h0,if_neg C7]
      exact(if_neg (show¬ s=(if true=true then rs.length else 0) from h0)).symm
    rw[ew];exact h⟩) ?_
   dsimp![A.ob,u34];refine u31 (v:=.int (s:Int)) (G1:=G') (λR h=>⟨p,ra,ha,rs,cs,s,rfl,A,h⟩) ?_;simp![A.ob,u34];refine u48 (post:=λd G2=>∃q1,d=.ref q1/\G' q1=none/\G2=gup G' q1 (.lst (cs.map .int))) (λR h=>⟨p,ra,ha,rs,cs,s,rfl,A,λq1 e=>h _ _ ⟨q1,rfl,e,rfl⟩⟩) ?_;rintro d G2 ⟨q1,rfl,hq1,rfl⟩;simp![id];refine⟨by decide,?_⟩;have gk:∀b o,G b=some o->G' b=some o:=λb o e=>kp.kp b o (gne e hp0) (gne e nha) (g1.kp _ _ e)
   have hGq:G q1=none:=by
    cases ez:G q1 with
    | none=>rfl
    | some o=>rw[gk q1 o ez] at hq1;cases hq1
   have:=post q1 (gup G' q1 (.lst (cs.map .int))) hGq (by rw[e];exact u01) ⟨λb o eb=>by rw[u06 (gne (gk b o eb) hq1)];exact gk b o eb⟩;rw[e] at this;exact this
  simp![id];refine u89 (λhk=>?_) (λhk=>stop (hR.stop (.inl λz=>hk (by omega))));simp![A.ob,u34];refine u48 (post:=λd G2=>(mayX true rs cs s=false/\d=.bl false/\G2=G')\/(mayX true rs cs s=true/\d=.bl true/\RideAt u35 G2 p ra ha rs (nxX true rs cs s).2 (nxX true rs cs s).1/\∀b,b≠p->b≠ha->G2 b=G' b))
   (λR h=>⟨p,ra,ha,rs,cs,s,sz,rfl,A,cc,λG2 h0 h1=>by
    cases hm:mayF rs cs s with
    | false=>exact h _ _ (.inl ⟨hm,rfl,h0 hm⟩)
    | true=>exact h _ _ (.inr ⟨hm,rfl,(h1 hm).1,(h1 hm).2⟩)⟩) ?_
  rintro d G2 (⟨hm,rfl,rfl⟩|⟨hm,rfl,A2,e2⟩)
  ·simp![id]
   exact stop (hR.stop (.inr hm))
  ·simp![id]
   have hk':k<most:=by omega
   exact ih _ _ (most-(k+1)) (by omega) ⟨k+1,_,_,rfl,hR.step hk' hm,(wz7 hp cc hm).1,A2,kp.eqs e2,rfl⟩
theorem wi2{n:Nat}:Ok P w mg base (n+1) T.f_jcn w88:=by
 refine u14 T.f_jcn vp7 (λds G R h=>?_) (λcdv A outer s H E hr =>
   (u02 (s_if (u78 (ev 0)) (u07 (u15 (ev 1))) u21)
   (u07 (u15 (e_if (u78 (ev 2)) u08 u08))))) (λds G R h=>?_)
 ·obtain⟨a,c,w,rfl,_⟩:=h;rfl
 ·obtain⟨a,c,w,rfl,post⟩:=h
  cases a <;> cases c <;> ((simp![id];repeat(simp only[Go];simp![id]));exact post)
theorem wl2{n:Nat}:Ok P w mg base (n+1) T.f_jbd ue8:=by
 refine u14 T.f_jbd sc_jbd (λds G R h=>?_) (λcdv A outer s H E hr =>
   (u02 (ub6 (ev 0) (ur1 (n:=3) rfl (u40 (u19 2 sc_jbd.nd) (u40 (u19 3 sc_jbd.nd) (u40 (u19 4 sc_jbd.nd) ue4)))))
   (u02 (s_if (u26 (x_eq hr) (ev 4) u05 (nomark _)) (u02 (ub6 (u16 u50 (ev 3) u05) (ui7 (ev 0) u05 ui6))
   (u02 (u20 5 sc_jbd.nd (u16 u50 (u16 uc2 u05 (ev 3)) u05))
   (u02 (s_if (u26 (x_gt) (u18 u77 rfl T.b_len (by decide) (u00 (ev 2) u03)) u05 (nomark _)) (u07 (u20 5 sc_jbd.nd (e_ix x_ix (ev 2) (u16 ue6 (ev 3) (u18 u77 rfl T.b_len (by decide) (u00 (ev 2) u03)))))) u21)
   (u02 (u20 4 sc_jbd.nd (u18 wz4 rfl T.b_abs (by decide) (u00 (ev 5) u03)))
   (u07 (s_if (t_w (w_or (u26 (x_ge) (ev 3) (u18 u77 rfl T.b_len (by decide) (u00 (ev 2) u03)) (nomark _)) (ug1 (u26 (x_lt) (ev 4) (u16 wz3 u05 u05) (nomark _))))) (u02 (u20 6 sc_jbd.nd (u16 ue6 (u16 u50 (u16 u50 (u16 uc2 (u16 ue6 (ev 5) u05) (u16 u50 u05 (ev 3))) (u16 uc2 u05 (ev 3))) u05) u05))
   (u02 (u20 6 sc_jbd.nd (u16 ue6 (u16 uc2 (ev 6) (ev 6)) u05))
   (u07 (u15 (u16 ue6 (u16 ue6 (u16 uc2 (ev 6) (ev 6)) u05) (ev 1)))))) u21)))))) u21)
   (u02 (ub6 (u18 vf1 rfl T.b_divmod (by decide) (u00 (ev 4) (u00 (ev 1) u03))) (ur1 (n:=2) rfl (u40 (ui7 (ev 0) u05 ui6) (u40 (u19 7 sc_jbd.nd) ue4))))
   (u07 (u15 (ev 7))))))) (λds G R h=>?_)
 ·obtain⟨⟨st,m,rfl,_⟩,_⟩:=h;rfl
 ·obtain⟨⟨st,m,rfl,⟨a,ns,k,r,hst,ha,hk,hr0,hne,hlen⟩,hm0,hm1⟩,post⟩:=h
  have fin:∀(v k' r':Int),0<=v->v<m->0<=k'->0<=r'->R (.int v) (gup G st (.lst [.ref a,.int k',.int r'])):=λv k' r' h1 h2 h3 h4=>post _ _ ⟨st,m,v,rfl,
   ⟨⟨a,ns,k',r',u01,by rw[u06 hne];exact ha,h3,h4,hne,hlen⟩,λb o hb e=>by rw[u06 hb];exact e⟩,rfl,h1,h2⟩
  have tail:∀(y k' r':Int),0<=k'->0<=r'->R (.int (y%m)) (gup G st (.lst [.ref a,.int k',.int r'])):=λy k' r' h1 h2=>fin _ _ _ (Y3 _ (by omega)) (V8 _ hm0) h1 h2
  have cd:∀c:Int,CDiv c m:=λc=>⟨hm0,hm1⟩
  have cm:∀c y:Int,CMul (c%2147483629) y:=λc y=>ud1 (by omega) (by omega)
  have cm2:∀c y:Int,CMul (c%2147483587) y:=λc y=>ud1 (by omega) (by omega)
  have c7:∀y:Int,CMul 7 y:=λy=>ud1 (by decide) (by decide)
  have c79:∀y:Int,CMul 7919 y:=λy=>ud1 (by decide) (by decide)
  have cp:CPow 10 18:=⟨by decide,by decide,by decide⟩;have p1:((0:Int)<2147483629)=True:=by decide
  have p2:((0:Int)<2147483587)=True:=by decide
  have p3:((0:Int)<1999999973)=True:=by decide
  have p4:((0:Int)<m)=True:=eq_true hm0
  by_cases hn:ns=[]
  ·subst hn
   (simp![hst,ha,u06 hne,u29,cd,cm,cm2,c7,c79,cp,p1,p2,p3,p4];repeat(simp only[Go];simp![hst,ha,u06 hne,u29,cd,cm,cm2,c7,c79,cp,p1,p2,p3,p4]))
   refine u89 (λh0=>?_) (λh0=>?_)
   ·simp only[Int.lt_irrefl,Int.natCast_zero,decide_false,V7,if_false]
    refine u89 (λh1=>?_) (λh1=>?_)
    ·exact tail _ _ _ (by omega) hr0
    ·exact absurd hk h1
   ·exact tail _ _ _ hk (A93 hr0 (by omega))
  ·have hpos:0<ns.length:=List.length_pos_iff.mpr hn
   have hl:((ns.map D.int).length:Int)=(ns.length:Int):=by simp
   obtain⟨c,hc⟩:∃c,atI (ns.map D.int) (k%(ns.length:Int))=some (.int c):=⟨_,w83 (Y3 _ (by omega)) (V8 _ (by omega))⟩;have p5:((0:Int)<(ns.length:Int))=True:=eq_true (by omega)
   (simp![hst,ha,u06 hne,u29,cd,cm,cm2,c7,c79,cp,p1,p2,p3,p4,hl,hc,p5];repeat(simp only[Go];simp![hst,ha,u06 hne,u29,cd,cm,cm2,c7,c79,cp,p1,p2,p3,p4,hl,hc,p5]))
   refine u89 (λh0=>?_) (λh0=>?_)
   ·refine u89 (λh1=>?_) (λh1=>?_)
    ·exact tail _ _ _ (by omega) hr0
    ·refine u89 (λh2=>?_) (λh2=>?_)
     ·exact tail _ _ _ (by omega) hr0
     ·refine tail _ _ _ (by omega) (A93 ?_ (by omega))
      split <;> omega
   ·exact tail _ _ _ hk (A93 hr0 (by omega))
theorem wk7{n:Nat}(G_jbd:Ok P w mg base n T.f_jbd ue8):Ok P w mg base (n+1) T.f_jbj wu3:=by
 refine u14 T.f_jbj sc_jbj (λds G R h=>?_) (λcdv A outer s H E hr =>
   @(u02 @(u20 2 sc_jbj.nd u08)
   @(u02 @(u20 3 sc_jbj.nd @(u46 @(ve0 u03)))
   @(u02 @(uc6 (ua3 rfl T.b_range @(u00 (ev 1) u03)) (u19 4 sc_jbj.nd) @(u02 @(u20 5 sc_jbj.nd @(wr4 u08 @(u00 @(u59 (N':=["_law_j", "_law_letters", "_law_state"]) (ix:=[none,some 2,some 0]) (blk (osc:=u04 v58) (N:=["_law_state", "_law_many", "_law_letters", "_law_names_here", "_law_k", "_law_name", "_law_begin", "_law_j", "_law_words", "_law_first"]) rfl rfl (by decide)) (ua3 rfl T.b_range @(u00 @(u16 u50 u05 (ec T.f_jbd T.g_law_draw G_jbd hr @(u00 (ev 0) @(u00 u05 u03)))) u03)) (λ_ _ _ _=>(u19 0 (show(["_law_j", "_law_letters", "_law_state"]:List Str).Nodup by decide))) (λ_ _ _ _=>u44) (λ_ _ _ _=>@(e_ix x_ix (ev 1) (ec T.f_jbd T.g_law_draw G_jbd hr @(u00 (ev 2) @(u00 u05 u03)))))) u03)))
   @(u02 @(u20 6 sc_jbj.nd @(e_sl wz1 (ev 5) uk6 (uk5 u05)))
   @(u02 @(uc6 (ua3 rfl T.b_range @(u00 u05 u03)) (u19 7 sc_jbj.nd) @(u07 @(s_if (u26 (x_in hr) (ev 5) (ev 3) (by with_unfolding_all rfl)) @(u07 @(u20 5 sc_jbj.nd @(u16 u50 @(u16 u50 (ev 6) u08) @(e_ix x_ix (ev 2) (ev 7))))) u21)))
   @(u07 @(u38 (ua8 (ev 3) @(u00 (ev 5) u03))))))))
   @(u02 @(s_if (u26 (x_eq hr) (ec T.f_jbd T.g_law_draw G_jbd hr @(u00 (ev 0) @(u00 u05 u03))) u05 (nomark _)) (by(with_unfolding_all change Ss3' _ _ _);exact(uw3 (wd5 8 sc_jbj.nd (vd9 (vd9 ws8))) (uw3 (S3'.of @(u20 9 sc_jbj.nd (ec T.f_jbd T.g_law_draw G_jbd hr @(u00 (ev 0) @(u00 u05 u03))))) (vv5 (S3'.of @(u15 @(u27 uf9 rfl T.b_tuple (by decide) @(u00 @(u59 (N':=["_law_k", "_law_words", "_law_first"]) (ix:=[none,some 8,some 9]) (blk (osc:=u04 v58) (N:=["_law_state", "_law_many", "_law_letters", "_law_names_here", "_law_k", "_law_name", "_law_begin", "_law_j", "_law_words", "_law_first"]) rfl rfl (by decide)) (ua3 rfl T.b_range @(u00 (ev 1) u03)) (λ_ _ _ _=>(u19 0 (show(["_law_k", "_law_words", "_law_first"]:List Str).Nodup by decide))) (λ_ _ _ _=>u44) (λ_ _ _ _=>@(e_ix x_ix (ev 1) @(u16 ue6 @(u16 u50 (ev 2) @(u16 uc2 u05 (ev 0))) u05)))) u03)))))))) u21)
   @(u07 @(u15 @(u27 uf9 rfl T.b_tuple (by decide) @(u00 @(e_sl x_sl (ev 3) (uk5 u05) uk6) u03))))))))) (λds G R h=>?_)
 ·obtain⟨st,m,rfl,_⟩:=h;rfl
 ·obtain⟨st,m,rfl,S,hm1,hm2,post⟩:=h
  have hab:(C1 "abcdefghijklmnopqrstuvwxyz").length<=sizeLine:=by decide
  simp![id];dsimp![id];refine⟨by decide,λnh hnh=>?_⟩;have nn:nh≠st:=S.ne hnh;obtain⟨six,hsix⟩:∃six:List Str,six=[C1 "wide",C1 "boxes",C1 "choose",C1 "else",C1 "end",C1 "times"]:=⟨_,rfl⟩;have s1:six.length=6:=by rw[hsix];rfl
  have s2:six.Nodup:=by rw[hsix];decide
  rw[show[D.str "wide",D.str "boxes",D.str "choose",D.str "else",D.str "end",D.str "times"]=six.map D.str by rw[hsix];rfl];clear hsix;have A0:Adv st G (gup G nh (.lst (six.map D.str))):=(Adv.refl S).new hnh;dsimp![id];refine⟨⟨by omega,by omega⟩,?_⟩;generalize hN:Go (dSeq _ _ _)=N;refine u54 (λr σ G'=>∃(i c:Nat) (ns:List Str) (v4 v5 v6 v7:Option D),i+c=m/\r=rngD (i:Int) c/\Adv st G G'/\G' nh=some (.lst ((six++ns).map D.str))/\ns.length=i/\(six++ns).Nodup/\(∀w∈ns,w.length<=20)/\σ=[some (.ref st),some (.int (m:Int)),some (.str (C1 "abcdefghijklmnopqrstuvwxyz")),some (.ref nh),v4,v5,v6,v7,none,none]) ⟨0,m,[],none,none,none,none,by omega,rfl,A0,by rw[F7];exact u01,rfl,by rw[F7];exact s2,λw hw=>(by cases hw),rfl⟩ ?_ ?_
  ·rintro σ G1 ⟨i,c,ns,v4,v5,v6,v7,e,e2,A1,k1,hl,hnd,hw,rfl⟩
   have hc:c=0:=by
    cases c with
    | zero=>rfl
    | succ c=>rw[u33] at e2;cases e2
   subst hc;refine⟨trivial,?_⟩;rw[<- hN];dsimp![id];refine u12 A1.at_ (by decide) (by decide) λx1 G2 a2 b1 b2=>?_
   have A2:=A1.trans a2;have k2:=a2.kp _ _ nn k1;simp![id];refine u89 (λq=>?_) (λq=>?_)
   ·simp![id]
    refine⟨by decide,λpw hpw=>?_⟩;rw[show[D.str "box",D.str "num",D.str "is",D.str "op",D.str "go",D.str "add",D.str "take",D.str "turn",D.str "swap",D.str "come",D.str "lay",D.str "show"]=words12.map D.str from rfl];have A3:=A2.new (o:=.lst (words12.map D.str)) hpw;have nw:=A2.at_.ne hpw
    dsimp![id];refine u12 A3.at_ (by decide) (by decide) λx2 G4 a4 c1 c2=>?_
    obtain⟨x2,rfl⟩:=u83 c1;have A4:=A3.trans a4;have k4:=a4.kp _ _ nw u01;simp![id];dsimp![id];refine⟨⟨by omega,by omega⟩,λp hp=>?_⟩;have np:=A4.at_.ne hp
    have nwp:pw≠p:=gne k4 hp;refine u28 (λr σ G'=>∃(j c:Nat) (v:Option D),j+c=m/\r=rngD (j:Int) c/\G'=gup G4 p (.lst (((J6 j).map λk=>words12.getD ((x2+5*k)%12) (C1 "")).map .str))/\σ=[v,some (.ref pw),some (.int (x2:Int))]) ⟨0,m,none,by omega,rfl,rfl,rfl⟩ ?_ ?_
    ·rintro σ G5 ⟨j,c,v,e5,e6,rfl,rfl⟩
     have hc:c=0:=by
      cases c with
      | zero=>rfl
      | succ c=>rw[u33] at e6;cases e6
     refine⟨trivial,?_⟩;have hx:x2<12:=by omega
     have hj:j=m:=by(clear hx e6 nwp np hp k4 c2 c1 nw hpw q k2 b2 b1 e2 hw hl k1 hN s1 nn hnh hab post hm2 hm1;omega)
     subst hj;have hok:=N0.mp (N0.mp vf3 x2 (O9.mpr hx)) j (O9.mpr (by omega));rw[L7] at hok;unfold u86;simp only[u01,u13];exact post _ _ (by rw[B5,N5]) (λb hb=>of_decide_eq_true (N0.mp hok.2 b hb)) (of_decide_eq_true hok.1) (A4.new hp)
    ·rintro z r σ G5 ⟨j,c,v,e5,e6,rfl,rfl⟩ ih
     cases c with
     | zero=>cases e6
     | succ c =>
      rw[u33] at e6;cases e6;refine⟨trivial,?_⟩;have kw:gup G4 p (.lst (((J6 j).map λk=>words12.getD ((x2+5*k)%12) (C1 "")).map .str)) pw=some (.lst (words12.map D.str)):=by rw[u06 nwp];exact k4
      have hi:((x2:Int)+5*(j:Int))%12=(((x2+5*j)%12:Nat):Int):=by(clear kw ih e5 nwp np hp k4 c2 c1 nw hpw q k2 b2 b1 e2 e hw hl k1 hN s1 nn hnh hab post hm2 hm1;omega)
      have hq:(x2+5*j)%12<12:=A75 _ (by decide);have hat:atI (words12.map D.str) (((x2+5*j)%12:Nat):Int)=some (.str (words12.getD ((x2+5*j)%12) (C1 ""))):=by
       generalize (x2+5*j)%12=t at hq;refine u72 ?_;rw[F6,L4,B6 (by exact hq)];rfl
      simp![kw,hi,hat];refine⟨ud1 (by decide) (by decide),by decide,?_,?_⟩
      ·rw[B5,B5,N5]
       exact C4 (m:=1000) (by omega) (by decide)
      ·rw[u29]
       refine ih _ _ ⟨j+1,c,_,by(clear hat hq hi kw ih nwp np hp k4 c2 c1 nw hpw q k2 b2 b1 e2 hw hl k1 hN s1 nn hnh hab post hm2 hm1;omega),by congr 1,?_,rfl⟩;rw[A08,D2,D2];rfl
   ·dsimp![k2]
    intro p hp;rw[show((6:Int))=((6:Nat):Int) from rfl,ur9,<- List.map_drop,show(six++ns).drop 6=ns by rw[List.drop_append_of_le_length (by omega),Q8 (by omega),F8]];exact post ns _ (by omega) hw (W8.mp hnd).2.1 (A2.new hp)
  ·rintro z r σ G1 ⟨i,c,ns,v4,v5,v6,v7,e,e2,A1,k1,hl,hnd,hw,rfl⟩ ih
   cases c with
   | zero=>cases e2
   | succ c =>
    rw[u33] at e2;cases e2;refine⟨trivial,?_⟩;simp![id];refine u12 A1.at_ (by decide) (by decide) λx1 G2 a2 b1 b2=>?_
    have A2:=A1.trans a2;have k2:=a2.kp _ _ nn k1;obtain⟨sz,hsz,hz1,hz2⟩:∃sz:Nat,1+x1=(sz:Int)/\1<=sz/\sz<=8:=⟨(1+x1).toNat,by(clear k2 ih e hw hl k1 hN s1 nn hnh hab post hm2 hm1;omega),by(clear k2 ih e hw hl k1 hN s1 nn hnh hab post hm2 hm1;omega),by(clear k2 ih e hw hl k1 hN s1 nn hnh hab post hm2 hm1;omega)⟩;simp![hsz];refine⟨⟨by(clear hz2 hz1 k2 ih e hw hl k1 hN s1 nn hnh hab post hm2 hm1;omega),by(clear hz2 hz1 k2 ih e hw hl k1 hN s1 nn hnh hab post hm2 hm1;omega)⟩,λp hp=>?_⟩;have np:=A2.at_.ne hp
    have fp:G p=none:=A2.none hp np;have npn:nh≠p:=gne k2 hp;have happ:∀a b:Str,(a++b).length=a.length+b.length:=λa b=>by
     show(a.cps++b.cps).size=_
     rw[A42];rfl
    generalize hN2:Go (dSeq (dAsg (dSl xSlS _ _ _) _) _ _)=N2;refine u28 (λr σ G'=>∃(j c':Nat) (ws:List Str) (v:Option D),j+c'=sz/\r=rngD (j:Int) c'/\Adv st G G'/\G' nh=some (.lst ((six++ns).map D.str))/\G' p=some (.lst (ws.map .str))/\ws.length=j/\(∀w∈ws,w.length=1)/\σ=[v,some (.str (C1 "abcdefghijklmnopqrstuvwxyz")),some (.ref st)]) ⟨0,sz,[],none,by omega,rfl,A2.new hp,by rw[u06 npn];exact k2,u01,rfl,by simp,rfl⟩ ?_ ?_
    ·rintro σ G3 ⟨j,c',ws,v,e5,e6,A3,k3,kp3,hlw,hw1,rfl⟩
     have hc:c'=0:=by
      cases c' with
      | zero=>rfl
      | succ c=>rw[u33] at e6;cases e6
     have hjl:(jn W4 ws).length=sz:=by rw[wp6,wp5 hw1];(clear hw1 kp3 k3 e6 hN2 happ npn fp np hp hz2 hz1 hsz k2 b2 b1 ih e hw hl k1 hN s1 nn hnh hab post hm2 hm1;omega)
     have hfold:X7 ((ws.toArray).foldl (·+·.length+W4.length) 0)=false:=by
      have:∀(l:List Str) (n:Nat),(∀w∈l,w.length=1)->l.foldl (·+·.length+W4.length) n=n+l.length:=by
       intro l
       induction l with
       | nil=>intro n _;rfl
       | cons w l ih=>intro n h;rw[A84,ih _ λv hv=>h v (C6 _ hv),h w (D7 ..),C0];show n+1+0+l.length=_;omega
      rw[List.foldl_toArray,this ws 0 hw1];unfold X7;exact decide_eq_false (B73.mpr (L5 (C4 (m:=1000) (by(clear this hw1 kp3 k3 e6 hN2 happ npn fp np hp hz2 hz1 k2 ih e hw hl k1 hN s1 nn hnh hab post hm2 hm1;omega)) (by decide))))
     refine⟨trivial,W4,p,ws,rfl,rfl,by rw[kp3];rfl,hfold,by rw[hjl];exact L5 (C4 (m:=1000) (by(clear hfold hw1 kp3 k3 e6 hN2 happ npn fp np hp hz2 hz1 k2 ih e hw hl k1 hN s1 nn hnh hab post hm2 hm1;omega)) (by decide)),?_⟩;obtain⟨nm,hnm⟩:∃nm,nm=jn W4 ws:=⟨_,rfl⟩;rw[<- hnm] at hjl⊢;rw[<- hN2];dsimp![id];refine⟨nm,rfl,L5 (C4 (m:=1000) (by(clear hnm hfold hw1 kp3 k3 e6 hN2 happ npn fp np hp hz2 hz1 k2 ih e hw hl k1 hN s1 nn hnh hab post hm2 hm1;omega)) (by decide)),λbg hbg=>?_⟩;dsimp![id];refine⟨⟨by decide,by decide⟩,?_⟩;generalize hN3:Go (uu8 (dBM "list" ud8 _ _) _)=N3;refine u54 (λr σ G'=>∃(t c'':Nat) (nm:Str) (v7:Option D),t+c''=26/\r=rngD (t:Int) c''/\G'=G3/\nm.length<=20/\(nm∉six++ns\/∀i,i<t->cand bg i∈six++ns)/\σ=[some (.ref st),some (.int (m:Int)),some (.str (C1 "abcdefghijklmnopqrstuvwxyz")),some (.ref nh),some (.int (i:Int)),some (.str nm),some (.str bg),v7,none,none]) ⟨0,26,nm,_,by omega,rfl,rfl,by(clear hN3 hbg hnm hfold hw1 kp3 k3 e6 hN2 happ npn fp np hp hz2 hz1 k2 ih e hw hl k1 hN s1 nn hnh hab post hm2 hm1;omega),.inr λi hi=>absurd hi (Nat.not_lt_zero _),rfl⟩ ?_ ?_
     ·rintro σ G4 ⟨t,c'',nm,v7',e7,e8,rfl,hn7,hfr,rfl⟩
      have hc:c''=0:=by
       cases c'' with
       | zero=>rfl
       | succ c=>rw[u33] at e8;cases e8
      refine⟨trivial,?_⟩;have ht:t=26:=by omega
      subst ht;have hfree:=vc9 (by rw[B0];omega) hfr;rw[<- hN3];dsimp![k3];refine⟨by rw[B5,B0];exact C4 (m:=1000) (by omega) (by decide),ih _ _ ⟨i+1,c,ns++[nm],_,_,_,_,by omega,by congr 1,A3.own hnh k3 nn,by rw[u01,<- E1,D2 (l₁:=six++ns)];rfl,by simp[hl],?_,?_,rfl⟩⟩
      ·rw[<- E1]
       refine W8.mpr ⟨hnd,M8.mpr ⟨by simp,List.nodup_nil⟩,λa ha b hb e=>hfree ?_⟩;rw[<- D9.mp hb,<- e];exact ha
      ·intro w hw'
       rcases K2.mp hw' with h|h
       ·exact hw w h
       ·rw[D9.mp h];exact hn7
     ·rintro z r σ G4 ⟨t,c'',nm,v7',e7,e8,rfl,hn7,hfr,rfl⟩ ih2
      cases c'' with
      | zero=>cases e8
      | succ c'' =>
       rw[u33] at e8;cases e8;refine⟨trivial,?_⟩;dsimp![id];unfold xInB;simp only[k3,u13,hso22];refine u89 (λq=>?_) (λq=>?_)
       ·have hin:nm∈six++ns:=by simpa using q
        have hch:=abc_at (x:=(t:Int)) (by omega) (by omega);rw[T7] at hch;unfold xAdd xIx;simp only[hch];have hz:(C1 "z").length=1:=rfl;refine⟨L5 (C4 (m:=1000) (by(clear hch ih2 e7 hfr hn7 kp3 k3 hN3 hnm hfold hw1 e6 hN2 happ npn fp np hp hz2 hz1 k2 ih e hw hl k1 hN s1 nn hnh hab post hm2 hm1;omega)) (by decide)),hab,?_,?_⟩
        ·rw[happ,hz]
         exact L5 (C4 (m:=1000) (by show bg.length+1+1<=1000;(clear hz hch ih2 e7 hfr hn7 kp3 k3 hN3 hnm hfold hw1 e6 hN2 happ npn fp np hp hz2 hz1 k2 ih e hw hl k1 hN s1 nn hnh hab post hm2 hm1;omega)) (by decide))
        ·refine ih2 _ _ ⟨t+1,c'',cand bg t,_,by omega,by congr 1,rfl,?_,?_,rfl⟩
         ·unfold cand
          rw[happ,happ,hz]
          show bg.length+1+1<=20
          (clear hz hch ih2 e7 hfr hn7 kp3 k3 hN3 hnm hfold hw1 e6 hN2 happ npn fp np hp hz2 hz1 k2 ih e hw hl k1 hN s1 nn hnh hab post hm2 hm1;omega)
         ·by_cases hct:cand bg t∈six++ns
          ·refine .inr λi hi=>?_
           rcases A77 i t with h|h
           ·rcases hfr with h'|h'
            ·exact absurd hin h'
            ·exact h' i h
           ·rw[show i=t by(clear hz hch ih2 hfr hn7 kp3 k3 hN3 hbg hnm hjl hfold hc hw1 hlw e6 e5 hN2 happ npn fp np hp hz2 hz1 hsz k2 b2 b1 ih e hw hl k1 hN s1 nn hnh hab post hm2 hm1;omega)];exact hct
          ·exact .inl hct
       ·have hin:nm∉six++ns:=by simpa using q
        exact ih2 _ _ ⟨t+1,c'',nm,_,by omega,by congr 1,rfl,hn7,.inl hin,rfl⟩
    ·rintro z r σ G3 ⟨j,c',ws,v,e5,e6,A3,k3,kp3,hlw,hw1,rfl⟩ ih2
     cases c' with
     | zero=>cases e6
     | succ c' =>
      rw[u33] at e6;cases e6;refine⟨trivial,?_⟩;simp![id];refine u12 A3.at_ (by decide) (by decide) λx3 G4 a4 c1 c2=>?_
      have hch:=abc_at c1 c2;have A4:=A3.trans a4;have k4:=a4.kp _ _ nn k3;have kp4:=a4.kp _ _ np kp3;refine⟨hab,?_⟩;rw[hch];simp![kp4];refine⟨by rw[B5];exact C4 (m:=1000) (by(clear kp4 k4 hch c2 c1 ih2 hw1 kp3 k3 hN2 happ npn fp np hp hz2 hz1 k2 ih e hw hl k1 hN s1 nn hnh hab post hm2 hm1;omega)) (by decide),ih2 _ _ ⟨j+1,c',ws++[⟨#[97+x3.toNat]⟩],_,by omega,by congr 1,A4.own fp kp4 np,by rw[u06 npn];exact k4,by rw[u01,D2];rfl,by simp[hlw],?_,rfl⟩⟩;intro w hw'
      rcases K2.mp hw' with h|h
      ·exact hw1 w h
      ·rw[D9.mp h];rfl
theorem wk6{n:Nat}(G_jbd:Ok P w mg base n T.f_jbd ue8):Ok P w mg base (n+1) T.f_jbk vn6:=by
 refine u14 T.f_jbk sc_jbk (λds G R h=>?_) (λcdv A outer s H E hr =>
   (u02 (u20 2 sc_jbk.nd (ec T.f_jbd T.g_law_draw G_jbd hr (u00 (ev 0) (u00 u05 u03))))
   (u02 (s_if (u26 (x_eq hr) (ev 2) u05 (nomark _)) (u07 (u15 (e_ix x_ix (u46 (u00 u05 (u00 (u16 ui5 (u16 v37 u05 (ev 1)) u05) u03))) (ec T.f_jbd T.g_law_draw G_jbd hr (u00 (ev 0) (u00 u05 u03)))))) u21)
   (u02 (s_if (u26 (x_eq hr) (ev 2) u05 (nomark _)) (u07 (u15 (u16 ue6 (ec T.f_jbd T.g_law_draw G_jbd hr (u00 (ev 0) (u00 u05 u03))) (u16 v37 u05 (ev 1))))) u21)
   (u07 (u15 (ec T.f_jbd T.g_law_draw G_jbd hr (u00 (ev 0) (u00 (u16 v37 u05 (ev 1)) u03))))))))) (λds G R h=>?_)
 ·obtain⟨st,W,rfl,_⟩:=h;rfl
 ·obtain⟨st,W,rfl,S,hW,post⟩:=h
  have hP:=pw W;have hC:CPow 1 (W:Int):=⟨by omega,by omega,by decide⟩;have hp:=p16 hW;have h0:=Y4 W;obtain⟨P,hPe⟩:∃P,P=2^W:=⟨_,rfl⟩;rw[<- hPe] at hP hp h0 post;simp![id];refine u12 S (by decide) (by decide) λx1 G1 a1 b1 b2=>?_
  simp![id];dsimp![hP];refine u89 (λq0=>?_) (λq0=>?_)
  ·refine⟨hC,by decide,λp hp1=>?_⟩
   have A2:=a1.new (o:=.lst [D.int 0,D.int ((P:Int)-1)]) hp1;have n2:=a1.at_.ne hp1
   refine u12 A2.at_ (by decide) (by decide) λx2 G3 a3 c1 c2=>?_
   have k3:=a3.kp _ _ n2 u01;obtain⟨v,ev,hv⟩:∃v:Nat,atI [D.int 0,D.int ((P:Int)-1)] x2=some (.int (v:Int))/\v<P:=by
    have:x2=0\/x2=1:=by omega
    rcases this with e|e <;> subst e
    ·exact⟨0,rfl,h0⟩
    ·exact⟨P-1,by show some (D.int ((P:Int)-1))=_;rw[show((P-1:Nat):Int)=(P:Int)-1 by omega],by omega⟩
   simp![k3,ev];exact post v _ hv (A2.trans a3)
  ·dsimp![hP]
   refine u89 (λq1=>?_) (λq1=>?_)
   ·refine u12 a1.at_ (by decide) (by decide) λx2 G3 a3 c1 c2=>?_
    simp![id];refine⟨hC,by omega,?_⟩;obtain⟨x2,rfl⟩:=u83 c1;rw[<- Z8];exact post _ _ (A75 _ h0) (a1.trans a3)
   ·dsimp![hP]
    refine⟨hC,?_⟩;refine u12 a1.at_ (by omega) (by omega) λx2 G3 a3 c1 c2=>?_
    obtain⟨x2,rfl⟩:=u83 c1;exact post _ _ (by omega) (a1.trans a3)
theorem wl6{n:Nat}(G_jbd:Ok P w mg base n T.f_jbd ue8)(G_jbk:Ok P w mg base n T.f_jbk vn6):Ok P w mg base (n+1) T.f_jaz vn7:=by
 refine u14 T.f_jaz vq4 (λds G R h=>?_) (λcdv A outer s H E hr =>
   (u02 (s_if (u26 (x_eq hr) (ec T.f_jbd T.g_law_draw G_jbd hr (u00 (ev 0) (u00 u05 u03))) u05 (nomark _)) (u07 (u15 (ec T.f_jbk T.g_law_number G_jbk hr (u00 (ev 0) (u00 (ev 2) u03))))) u21)
   (u07 (u15 (e_ix x_ix (ev 1) (ec T.f_jbd T.g_law_draw G_jbd hr (u00 (ev 0) (u00 (u18 u77 rfl T.b_len (by decide) (u00 (ev 1) u03)) u03)))))))) (λds G R h=>?_)
 ·obtain⟨st,W,bs,rfl,_⟩:=h;rfl
 ·obtain⟨st,W,bs,rfl,S,hW,h1,h2,post⟩:=h
  simp![id];refine u12 S (by decide) (by decide) λx1 G1 a1 b1 b2=>?_
  simp![B5];refine u89 (λh0=>?_) (λh0=>?_)
  ·exact ws3 a1.at_ hW λi G2 hi a2=>post (.num i) G2 hi (a1.trans a2)
  ·dsimp![B5]
   refine u12 a1.at_ (by omega) (by omega) λx2 G3 a3 c1 c2=>?_
   obtain⟨x2,rfl⟩:=u83 c1;obtain⟨b,hb⟩:∃b,bs[x2]?=some b:=⟨_,B6 (by omega)⟩;have eb:atI (bs.map D.str) (x2:Int)=some (.str b):=u72 (by rw[F6,hb];rfl);simp![eb];exact post (.box b) _ (J5 hb) (a1.trans a3)
theorem wj9{n dp:Nat}(G_jbt:Ok P w mg base n T.f_jbt (ve2 dp)):Ok P w mg base (n+1) T.f_jbt (ve2 (dp+1)):=by
 refine u14 T.f_jbt sc_jbt (λds G R h=>?_) (λcdv A outer s H E hr =>
   (u02 (u20 1 sc_jbt.nd u05)
   (u02 (uc6 (u82 (ev 0)) (u19 2 sc_jbt.nd) (u02 (u20 1 sc_jbt.nd (u16 u50 (ev 1) u05))
   (u07 (s_if (u26 (x_eq hr) (e_ix x_ix (ev 2) u05) u08 (nomark _)) (u07 (u20 1 sc_jbt.nd (u16 u50 (u16 u50 (ev 1) (ec T.f_jbt T.g_law_weight G_jbt hr (u00 (e_ix x_ix (ev 2) u05) u03))) (ec T.f_jbt T.g_law_weight G_jbt hr (u00 (e_ix x_ix (ev 2) u05) u03))))) u21))))
   (u07 (u15 (ev 1)))))) (λds G R h=>?_)
 ·obtain⟨d,rs,rfl,_⟩:=h;rfl
 ·obtain⟨d,rs,rfl,h0,hnt,hdp,hsz,post⟩:=h
  simp![id];simp only[Go,dSeq];refine va8 h0 rfl λok hok0=>?_
  generalize hN:Go (dRet _ _)=N;refine u54 (λr σ G'=>∃(l t:List Rowp) (v2:Option D),l++t=rs/\r=u25 t/\G'=G/\σ=[some d,some (.int (szL l:Int)),v2]) ⟨[],rs,none,rfl,rfl,rfl,rfl⟩ ?_ ?_
  ·rintro σ G1 ⟨l,t,v2,e,e2,rfl,rfl⟩
   have ht:t=[]:=by
    cases t with
    | nil=>rfl
    | cons x t=>cases e2
   subst ht;rw[F7] at e;subst e;refine⟨hok0 _ h0,?_⟩;rw[<- hN];dsimp![id];exact post
  ·rintro z r σ G1 ⟨l,t,v2,e,e2,rfl,rfl⟩ ih
   cases t with
   | nil=>cases e2
   | cons r0 t =>
    cases e2;refine⟨hok0 _ h0,?_⟩;have hm:r0∈rs:=by rw[<- e];simp
    have hnr:=ux4 hnt hm;have hdr:=ug7 (A43 hdp) r0 hm;have hsl:szL rs=szL l+(szR r0+szL t):=by rw[<- e,u97];rfl
    have nxt:∀{k:Int},k=((szL l+szR r0:Nat):Int)->∃(l' t':List Rowp) (v2:Option D),l'++t'=rs/\u25 t=u25 t'/\G1=G1/\[some d,some (.int k),some (rowD r0)]=[some d,some (.int (szL l':Int)),v2]:=λ{k} ek=>⟨l++[r0],t,some (rowD r0),by rw[<- e];simp,rfl,rfl,by rw[ek,u97];rfl⟩
    cases r0 with
    | is x a =>
     have d1:(C1 "is" = C1 "choose")=False:=eq_false (by decide);simp![rowD];dsimp![d1];exact ih _ _ (nxt (by show _=((szL l+1:Nat):Int);omega))
    | op x o a c =>
     have d1:(C1 "op" = C1 "choose")=False:=eq_false (by decide);simp![rowD];dsimp![d1];exact ih _ _ (nxt (by show _=((szL l+1:Nat):Int);omega))
    | cho a ys ns =>
     obtain⟨hny,hnn⟩:ntL ys/\ntL ns:=hnr;have hd':1+max (depL ys) (depL ns)<=dp:=hdr;have hs1:szR (.cho a ys ns)=1+szL ys+szL ns:=rfl;simp![rowD];dsimp![id];refine u31 (v:=.int (szL ys:Int)) (G1:=G1) (λR h=>⟨.tup (u25 ys),ys,rfl,rfl,hny,by omega,by omega,h⟩) ?_;simp![id];refine u31 (v:=.int (szL ns:Int)) (G1:=G1) (λR h=>⟨.tup (u25 ns),ns,rfl,rfl,hnn,by omega,by omega,h⟩) ?_;simp![id];exact ih _ _ (nxt (by rw[hs1];omega))
    | tim k ys=>exact hnr.elim
theorem wk3{n dp:Nat}(G_jbd:Ok P w mg base n T.f_jbd ue8)(G_jbm:Ok P w mg base n T.f_jbm (wu1 dp))(G_jbt:Ok P w mg base n T.f_jbt w93):Ok P w mg base (n+1) T.f_jbo (v30 (dp+1)):=by
 refine u14 T.f_jbo sc_jbo (λds G R h=>?_) (λcdv A outer s H E hr =>
   (u02 (u20 5 sc_jbo.nd (u46 u03))
   (u02 (uc6 (ua3 rfl T.b_range (u00 (ec T.f_jbd T.g_law_draw G_jbd hr (u00 (ev 0) (u00 (u16 u50 u05 (u18 wa6 rfl T.b_min (by decide) (u00 (ev 4) (u00 u05 u03)))) u03))) u03)) (u19 6 sc_jbo.nd) (u02 (u20 7 sc_jbo.nd (u16 ui5 (ev 4) (ec T.f_jbt T.g_law_weight G_jbt hr (u00 (ev 5) u03))))
   (u07 (s_if (u26 (x_gt) (ev 7) u05 (nomark _)) (u07 (u38 (ua8 (ev 5) (u00 (ec T.f_jbm T.g_law_piece G_jbm hr (u00 (ev 0) (u00 (ev 1) (u00 (ev 2) (u00 (ev 3) (u00 (ev 7) u03)))))) u03)))) u21))))
   (u07 (u15 (u27 uf9 rfl T.b_tuple (by decide) (u00 (ev 5) u03))))))) (λds G R h=>?_)
 ·obtain⟨st,W,deep,room,bs,rfl,_⟩:=h;rfl
 ·obtain⟨st,W,deep,room,bs,rfl,S,hW,h1,h2,hd,hd5,hroom,post⟩:=h
  simp![id];refine⟨by decide,λq hq=>?_⟩;have nq:=S.ne hq;dsimp![id];have A1:=(Adv.refl S).new (o:=.lst []) hq;refine u12 A1.at_ (by split <;> omega) (by split <;> omega) λx1 G1 a1 b1 b2=>?_
  have b3:x1<=4:=by
   revert b2
   split <;> intro b2 <;> omega
  obtain⟨cnt,rfl⟩:=u83 b1;have k1:=a1.kp _ _ nq u01;have A2:=A1.trans a1;simp![id];refine⟨⟨by omega,by omega⟩,?_⟩;generalize hN:Go (dRet _ _)=N;refine u54 (λr σ G'=>∃(i c:Nat) (rs:List Rowp) (v6 v7:Option D),i+c=cnt/\r=rngD (i:Int) c/\Adv st G G'/\G' q=some (.lst (u25 rs))/\okL W bs rs/\ntL rs/\szL rs<=room/\depL rs<=deep/\(u25 rs).length<=i/\σ=[some (.ref st),some (.tup (bs.map .str)),some (.int (W:Int)),some (.int (deep:Int)),some (.int (room:Int)),some (.ref q),v6,v7]) ⟨0,cnt,[],none,none,by omega,rfl,A2,k1,trivial,trivial,N4 _,N4 _,B9 _,rfl⟩ ?_ ?_
  ·rintro σ G2 ⟨i,c,rs,v6,v7,e,e2,A3,k3,o1,o2,o3,o4,o5,rfl⟩
   refine⟨trivial,?_⟩;rw[<- hN];dsimp![k3];exact post rs G2 o1 o2 o3 o4 A3
  ·rintro z r σ G2 ⟨i,c,rs,v6,v7,e,e2,A3,k3,o1,o2,o3,o4,o5,rfl⟩ ih
   cases c with
   | zero=>cases e2
   | succ c =>
    rw[u33] at e2;cases e2;refine⟨trivial,?_⟩;simp![id];refine u31 (v:=.int (szL rs:Int)) (G1:=G2) (λR h=>⟨.ref q,rs,rfl,by show u13 (G2 q)=_;rw[k3];rfl,o2,by omega,by omega,h⟩) ?_;simp![id];dsimp![id];refine u89 (λg=>?_) (λg=>?_)
    ·rw[show((room:Int)-(szL rs:Int))=((room-szL rs:Nat):Int) by(clear ih e o5 o4 o3 k3 hN k1 b3 b2 b1 nq hq post hroom hd5 hd h2 h1 hW;omega)]
     simp![k3];refine u49 ⟨st,W,deep,room-szL rs,bs,rfl,A3.at_,hW,h1,h2,by omega,hd5,by(clear ih e o5 o4 o3 k3 hN k1 b3 b2 b1 nq hq post hroom hd5 hd h2 h1 hW;omega),by(clear ih e o5 o4 o3 k3 hN k1 b3 b2 b1 nq hq post hd5 hd h2 h1 hW;omega),λr0 G3 p1 p2 p3 p4 a3=>?_⟩;have k4:=a3.kp _ _ nq k3;have A4:=A3.trans a3;simp![k4];have er:u25 rs++[rowD r0]=u25 (rs++[r0]):=by rw[u58,u58,D2];rfl
     rw[er];have hl6:(u25 (rs++[r0])).length=(u25 rs).length+1:=by rw[<- er,B0];rfl
     refine⟨C4 (m:=1000) (by(clear er k4 p4 p3 g ih o4 o3 k3 hN k1 b2 nq hq post hroom hd5 hd h2 h1 hW;omega)) (by decide),ih _ _ ⟨i+1,c,rs++[r0],_,_,by(clear hl6 er k4 p4 p3 g ih o5 o4 o3 k3 hN k1 b3 b2 b1 nq hq post hroom hd5 hd h2 h1 hW;omega),by congr 1,A4.own hq k4 nq,u01,okL_app.mpr ⟨o1,p1,trivial⟩,ntL_app.mpr ⟨o2,p2,trivial⟩,?_,?_,by(clear er k4 p4 p3 g ih e o4 o3 k3 hN k1 b3 b2 b1 nq hq post hroom hd5 hd h2 h1 hW;omega),rfl⟩⟩
     ·rw[u97];show szL rs+(szR r0+0)<=room;(clear hl6 er k4 p4 ih e o5 o4 o3 k3 hN k1 b3 b2 b1 nq hq post hroom hd5 hd h2 h1 hW;omega)
     ·rw[ud0];show max (depL rs) (max (depR r0) 0)<=deep;(clear hl6 er k4 p3 g ih e o5 o3 k3 hN k1 b3 b2 b1 nq hq post hroom hd5 hd h2 h1 hW;omega)
    ·exact ih _ _ ⟨i+1,c,rs,_,_,by(clear g ih o5 o4 o3 k3 hN k1 b3 b2 b1 nq hq post hroom hd5 hd h2 h1 hW;omega),by congr 1,A3,k3,o1,o2,o3,o4,by omega,rfl⟩
theorem wk2{n:Nat}(G_jbd:Ok P w mg base n T.f_jbd ue8):Ok P w mg base (n+1) T.f_jbq wu0:=by
 refine u14 T.f_jbq sc_jbq (λds G R h=>?_) (λcdv A outer s H E hr =>
   (u02 (u20 2 sc_jbq.nd (u16 u50 (ev 1) (ec T.f_jbd T.g_law_draw G_jbd hr (u00 (ev 0) (u00 (u16 u50 u05 (e_ix x_ix (u46 (u00 u05 (u00 u05 u03))) (ec T.f_jbd T.g_law_draw G_jbd hr (u00 (ev 0) (u00 u05 u03))))) u03)))))
   (u02 (u20 3 sc_jbq.nd (v25 hr rfl T.b_range rfl T.b_list (u00 (ev 2) u03)))
   (u07 (u15 (u46 (u00 (u59 (N':=["_law_k", "_law_left", "_law_state"]) (ix:=[none,some 3,some 0]) (blk (osc:=u04 vg1) (N:=["_law_state", "_law_many", "_law_fresh", "_law_left"]) rfl rfl (by decide)) (ua3 rfl T.b_range (u00 (ev 1) u03)) (λ_ _ _ _=>(u19 0 (show(["_law_k", "_law_left", "_law_state"]:List Str).Nodup by decide))) (λ_ _ _ _=>u44) (λ_ _ _ _=>(wr1 (ev 1) (u00 (ec T.f_jbd T.g_law_draw G_jbd hr (u00 (ev 2) (u00 (u18 u77 rfl T.b_len (by decide) (u00 (ev 1) u03)) u03))) u03)))) (u00 (ev 2) u03)))))))) (λds G R h=>?_)
 ·obtain⟨st,m,rfl,_⟩:=h;rfl
 ·obtain⟨st,m,rfl,S,hm,post⟩:=h
  simp![id];refine⟨by decide,λp hp=>?_⟩;have A1:Adv st G (gup G p (.lst [D.int 4,D.int 40])):=(Adv.refl S).new hp;have np:p≠st:=S.ne hp;refine u12 A1.at_ (by decide) (by decide) λx1 G2 a2 b1 b2=>?_
  have k2:=a2.kp _ _ np u01;obtain⟨v,ev,hv1,hv2⟩:∃v:Int,atI [D.int 4,D.int 40] x1=some (.int v)/\4<=v/\v<=40:=by
   have:x1=0\/x1=1:=by omega
   rcases this with e|e <;> subst e
   ·exact⟨4,rfl,by decide,by decide⟩
   ·exact⟨40,rfl,by decide,by decide⟩
  simp![k2,ev];have A2:=A1.trans a2;refine u12 A2.at_ (by omega) (by omega) λx2 G3 a3 c1 c2=>?_
  obtain⟨x2,rfl⟩:=u83 c1;have A3:=A2.trans a3;obtain⟨fr,hfr,hf1,hf2⟩:∃fr:Nat,(m:Int)+(x2:Int)=(fr:Int)/\m<=fr/\fr<=100:=⟨m+x2,by omega,by omega,by omega⟩;simp![hfr];dsimp![uh8];refine⟨⟨by omega,by omega⟩,λpL hpL=>?_⟩;have er:rngD 0 ((fr:Int)-0).toNat=(J6 fr).map nD:=by
   rw[show((fr:Int)-0).toNat=fr by(clear hpL hf1 hfr c2 c1 hv2 hv1 ev k2 b2 b1 np hp post hm;omega)];unfold rngD;exact P6 λk _=>by show D.int (0+(k:Int))=D.int (k:Int);rw[Int.zero_add]
  rw[er];have nL:pL≠st:=A3.at_.ne hpL
  have A4:=A3.new (o:=.lst ((J6 fr).map nD)) hpL;dsimp![id];refine⟨⟨by omega,by omega⟩,λp3 hp3=>?_⟩;have n3:p3≠st:=A4.at_.ne hp3
  have n3L:pL≠p3:=gne u01 hp3;have fpL:G pL=none:=A3.none hpL nL;have fp3:G p3=none:=A4.none hp3 n3;refine u28 (λr σ G'=>∃(i c:Nat) (left pl:List Nat) (v0:Option D),i+c=m/\r=rngD (i:Int) c/\Adv st G G'/\G' pL=some (.lst (left.map nD))/\G' p3=some (.lst (pl.map nD))/\pl.length=i/\left.length+i=fr/\(pl++left).Nodup/\(∀x∈pl++left,x<fr)/\σ=[v0,some (.ref pL),some (.ref st)]) ⟨0,m,J6 fr,[],none,by omega,rfl,A4.new hp3,by rw[u06 n3L];exact u01,u01,rfl,by rw[N5];rfl,by rw[F8];exact B53,λx hx=>by rw[F8] at hx;exact O9.mp hx,rfl⟩ ?_ ?_
  ·rintro σ G5 ⟨i,c,left,pl,v0,e,e2,A5,kL,k3,hl1,hl2,hnd,hlt,rfl⟩
   have hc:c=0:=by
    cases c with
    | zero=>rfl
    | succ c=>rw[u33] at e2;cases e2
   subst hc;refine⟨trivial,?_⟩;simp![id];refine⟨by decide,λq hq=>?_⟩;refine post q p3 fr pl _ (A5.new hq) (A5.at_.ne hq) n3 fp3 u01 (by rw[u06 (gne k3 hq)];exact k3) (by omega) (W8.mp hnd).1 (λx hx=>hlt x (A02 _ hx)) hf2
  ·rintro z r σ G5 ⟨i,c,left,pl,v0,e,e2,A5,kL,k3,hl1,hl2,hnd,hlt,rfl⟩ ih
   cases c with
   | zero=>cases e2
   | succ c =>
    rw[u33] at e2;cases e2;refine⟨trivial,?_⟩;have lz:(left.length<=sizeLine)=True:=eq_true (D4 (m:=1000) (by omega) (by decide));simp![kL,B5,lz];refine u12 A5.at_ (by omega) (by omega) λx5 G6 a6 d1 d2=>?_
    obtain⟨x5,rfl⟩:=u83 d1;have kL6:=a6.kp _ _ nL kL;have k36:=a6.kp _ _ n3 k3;have hx5:x5<left.length:=by omega
    refine⟨pL,x5,left.map nD,nD left[x5],rfl,rfl,kL6,by rw[F6,B6 hx5];rfl,by rw[B5];omega,?_⟩;rw[Rw.map_erase];simp![u06 (D6 n3L),k36];have A6:=(A5.trans a6).own (ys:=(left.eraseIdx x5).map nD) fpL kL6 nL;have k37:gup G6 pL (.lst ((left.eraseIdx x5).map nD)) p3=some (.lst (pl.map nD)):=by rw[u06 (D6 n3L)];exact k36
    have hper:(pl++[left[x5]]++left.eraseIdx x5).Perm (pl++left):=by
     rw[E1];exact C19 _ (ul3 hx5)
    refine⟨C4 (m:=1000) (by rw[B5];omega) (by decide),ih _ _ ⟨i+1,c,left.eraseIdx x5,pl++[left[x5]],_,by omega,rfl,A6.own fp3 k37 n3,by rw[u06 n3L];exact u01,by rw[u01,D2];rfl,by rw[B0,hl1];rfl,by rw[List.length_eraseIdx_of_lt hx5];(clear k37 k36 kL6 lz ih e hlt hl1 k3 kL fp3 fpL n3L n3 hp3 nL er hpL hf2 hf1 hfr c2 c1 hv2 hv1 ev k2 b2 b1 np hp post hm;omega),hper.nodup_iff.mpr hnd,λx hx=>hlt x (hper.mem_iff.mp hx),rfl⟩⟩
theorem wl4{n:Nat}(G_jbd:Ok P w mg base n T.f_jbd ue8):Ok P w mg base (n+1) T.f_jbb wu9:=by
 refine u14 T.f_jbb vq3 (λds G R h=>?_) (λcdv A outer s H E hr =>
   (u07 (u15 (u16 u50 (u16 uc2 (ec T.f_jbd T.g_law_draw G_jbd hr (u00 (ev 0) (u00 u05 u03))) u05) (ec T.f_jbd T.g_law_draw G_jbd hr (u00 (ev 0) (u00 u05 u03))))))) (λds G R h=>?_)
 ·obtain⟨st,rfl,_⟩:=h;rfl
 ·obtain⟨st,rfl,S,post⟩:=h
  simp![id];refine u12 S (by decide) (by decide) λx1 G1 a1 b1 b2=>?_
  simp![id];refine⟨ud1 (by omega) (by omega),?_⟩;refine u12 a1.at_ (by decide) (by decide) λx2 G2 a2 c1 c2=>?_
  simp![id];exact post _ _ (a1.trans a2) (by omega) (by omega)
theorem wl3{n:Nat}(G_jbd:Ok P w mg base n T.f_jbd ue8)(G_jbb:Ok P w mg base n T.f_jbb wu9):Ok P w mg base (n+1) T.f_jbc wu8:=by
 refine u14 T.f_jbc sc_jbc (λds G R h=>?_) (λcdv A outer s H E hr =>
   (u02 (vr9 4 sc_jbc.nd (N':=["_law_k", "_law_state"]) (ix:=[none,some 0]) (blk (osc:=u04 vg2) (N:=["_law_state", "_law_places_here", "_law_values_here", "_law_fresh", "_law_boxes_here", "_law_spot", "_law_value"]) rfl rfl (by decide)) (ua3 rfl T.b_range (u00 (ev 3) u03)) (λ_ _ _ _=>(u19 0 (show(["_law_k", "_law_state"]:List Str).Nodup by decide))) (λ_ _ _ _=>u44) (λ_ _ _ _=>(e_ix x_ix (u46 (u00 u05 (u00 (ec T.f_jbb T.g_law_big G_jbb hr (u00 (ev 1) u03)) u03))) (ec T.f_jbd T.g_law_draw G_jbd hr (u00 (ev 1) (u00 u05 u03))))))
   (u02 (uc6 (wq5 rfl T.b_zip (u00 (ev 1) (u00 (ev 2) u03))) (ur1 (n:=2) rfl (u40 (u19 5 sc_jbc.nd) (u40 (u19 6 sc_jbc.nd) ue4))) (u07 (ub6 (ev 6) (ui7 (ev 4) (ev 5) ui6))))
   (u07 (u15 (ev 4)))))) (λds G R h=>?_)
 ·obtain⟨st,pa,va,fr,pl,vs,rfl,_⟩:=h;rfl
 ·obtain⟨st,pa,va,fr,pl,vs,rfl,S,npa,nva,hpa,hva,hl,hnd,hlt,hv,hf,hl6,post⟩:=h
  simp![id];refine⟨⟨by omega,by omega⟩,λp hp=>?_⟩;have np:p≠st:=S.ne hp;have npp:pa≠p:=gne hpa hp;have nvp:va≠p:=gne hva hp;have A0:Adv st G (gup G p (.lst [])):=(Adv.refl S).new hp;refine u28 (λr σ G'=>∃(i c:Nat) (bx:List Int) (v0:Option D),i+c=fr/\r=rngD (i:Int) c/\Adv st G G'/\bx.length=i/\(∀u∈bx,0<=u/\u<4294967296)/\G' p=some (.lst (bx.map .int))/\σ=[v0,some (.ref st)]) ⟨0,fr,[],none,by omega,rfl,A0,rfl,λu hu=>(by cases hu),u01,rfl⟩ ?_ ?_
  ·rintro σ G1 ⟨i,c,bx,v0,e,e2,A1,hb1,hb2,k1,rfl⟩
   have hc:c=0:=by
    cases c with
    | zero=>rfl
    | succ c=>rw[u33] at e2;cases e2
   subst hc;obtain rfl:i=fr:=by omega
   refine⟨trivial,?_⟩;have hpa1:=A1.kp _ _ npa hpa;have hva1:=A1.kp _ _ nva hva;dsimp![wZt,sqD,hpa1,hva1];refine u54 (λr σ G'=>∃(l1 t1 l2 t2:List Nat) (b:List Int) (v5 v6:Option D),l1++t1=pl/\l2++t2=vs/\l1.length=l2.length/\r=zpD (t1.map nD) (t2.map nD)/\Adv st G G'/\BsOk i b/\Held l1 l2 b/\G' p=some (.lst (b.map .int))/\G' pa=some (.lst (pl.map nD))/\G' va=some (.lst (vs.map nD))/\σ=[some (.ref st),some (.ref pa),some (.ref va),some (.int (i:Int)),some (.ref p),v5,v6]) ⟨[],pl,[],vs,bx,none,none,rfl,rfl,rfl,rfl,A1,⟨hb1,hb2⟩,(λk p v h=>by simp at h),k1,hpa1,hva1,rfl⟩ ?_ ?_
   ·rintro σ G2 ⟨l1,t1,l2,t2,b,v5,v6,e1,e2,hll,e3,A2,hb,hh,k2,hp2,hv2,rfl⟩
    have ht:t1=[]:=by
     have h1:=congrArg J1 e1;have h2:=congrArg J1 e2;rw[B0] at h1 h2;cases t1 with
     | nil=>rfl
     | cons x t1 =>
      cases t2 with
      | nil=>simp at h1 h2;omega
      | cons y t2=>cases e3
    have ht2:t2=[]:=by
     have h1:=congrArg J1 e1;have h2:=congrArg J1 e2;rw[B0] at h1 h2;rw[ht] at h1;have:t2.length=0:=by simp at h1;omega
     exact F4 this
    subst ht ht2;rw[F7] at e1 e2;subst e1 e2;refine⟨⟨by rw[hp2];rfl,by rw[hv2];rfl⟩,?_⟩;dsimp![id];exact post p b G2 A2 np k2 hb hh
   ·rintro z r σ G2 ⟨l1,t1,l2,t2,b,v5,v6,e1,e2,hll,e3,A2,hb,hh,k2,hp2,hv2,rfl⟩ ih
    cases t1 with
    | nil=>cases e3
    | cons x t1 =>
     cases t2 with
     | nil=>cases e3
     | cons y t2 =>
      cases e3;refine⟨⟨by rw[hp2];rfl,by rw[hv2];rfl⟩,?_⟩;have hx:=hlt x (by rw[<- e1];simp);have hy:=hv y (by rw[<- e2];simp);have hxl:x<b.length:=by rw[hb.len];exact hx
      have ex:nD x=.int (x:Int):=rfl;have ey:nD y=.int (y:Int):=rfl;simp![ex,ey,k2,ua2 hxl,setm];have h1:=congrArg J1 e1;rw[B0,C0] at h1;refine ih _ _ ⟨l1++[x],t1,l2++[y],t2,b.set x (y:Int),_,_,by rw[<- e1];simp,by rw[<- e2];simp,by rw[B0,B0,hll];rfl,rfl,A2.own hp k2 np,⟨by rw[J0];exact hb.len,λu hu=>?_⟩,λk p' v' q1 q2=>?_,u01,by rw[u06 npp];exact hp2,by rw[u06 nvp];exact hv2,rfl⟩
      ·rcases N1 hu with z|z
       ·exact hb.rng u z
       ·rw[z];omega
      ·rw[u84 hxl]
       by_cases hk:k<l1.length
       ·rw[E9 hk] at q1
        rw[E9 (by omega)] at q2
        by_cases hne:p'=x
        ·subst hne
         rw[if_pos rfl,hnd k l1.length p' v' y (by rw[<- e1,E9 hk];exact q1) (by rw[<- e1,F0 (B9 _),V9];rfl) (by rw[<- e2,E9 (by omega)];exact q2) (by rw[<- e2,hll,F0 (B9 _),V9];rfl)]
        ·rw[if_neg hne]
         exact hh k p' v' q1 q2
       ·have hk2:k=l1.length:=by
         have:=(J7.mp q1).1;rw[B0] at this;have:k<l1.length+1:=this;omega
        subst hk2;rw[F0 (B9 _),V9] at q1;rw[F0 (by omega),hll,V9] at q2;cases q1;cases q2;rw[if_pos rfl]
  ·rintro z r σ G1 ⟨i,c,bx,v0,e,e2,A1,hb1,hb2,k1,rfl⟩ ih
   cases c with
   | zero=>cases e2
   | succ c =>
    rw[u33] at e2;cases e2;refine⟨trivial,?_⟩;simp![id];refine u49 ⟨st,rfl,A1.at_,λv G2 a2 v1 v2=>?_⟩;simp![id];refine⟨by decide,λp3 hp3=>?_⟩;have A2:=A1.trans a2;have A3:=A2.new (o:=.lst [D.int 0,D.int v]) hp3;have n3:=A2.at_.ne hp3
    refine u12 A3.at_ (by decide) (by decide) λx4 G4 a4 d1 d2=>?_
    have k4:=a4.kp _ _ n3 u01;obtain⟨u,eu,u1,u2⟩:∃u:Int,atI [D.int 0,D.int v] x4=some (.int u)/\0<=u/\u<4294967296:=by
     have:x4=0\/x4=1:=by(clear k4 n3 hp3 v2 v1 ih e k1 hb2 hb1 nvp npp np hp post hl6 hf hv hlt hl hva hpa nva npa;omega)
     rcases this with e|e <;> subst e
     ·exact⟨0,rfl,by decide,by decide⟩
     ·exact⟨v,rfl,v1,v2⟩
    have A4:=A3.trans a4;have kp4:G4 p=some (.lst (bx.map .int)):=a4.kp _ _ np (by rw[u06 (gne (a2.kp _ _ np k1) hp3)];exact a2.kp _ _ np k1);simp![k4,eu,kp4];refine⟨C4 (m:=9000) (by rw[B5];omega) (by decide),ih _ _ ⟨i+1,c,bx++[u],_,by omega,rfl,A4.own hp kp4 np,by rw[B0,hb1];rfl,λw hw=>?_,by rw[u01,D2];rfl,rfl⟩⟩
    rcases K2.mp hw with h|h
    ·exact hb2 w h
    ·rw[D9.mp h];exact⟨u1,u2⟩
theorem wk0{n:Nat}(G_jbk:Ok P w mg base n T.f_jbk vn6):Ok P w mg base (n+1) T.f_jbs wt8:=by
 refine u14 T.f_jbs vq2 (λds G R h=>?_) (λcdv A outer s H E hr =>
   (u07 (u15 (u59 (N':=["_law_x", "_law_state", "_law_wide"]) (ix:=[none,some 0,some 2]) (blk (osc:=u04 vf9) (N:=["_law_state", "_law_names_here", "_law_wide"]) rfl rfl (by decide)) (u82 (ev 1)) (λ_ _ _ _=>(u19 0 (show(["_law_x", "_law_state", "_law_wide"]:List Str).Nodup by decide))) (λ_ _ _ _=>u44) (λ_ _ _ _=>(ec T.f_jbk T.g_law_number G_jbk hr (u00 (ev 1) (u00 (ev 2) u03)))))))) (λds G R h=>?_)
 ·obtain⟨st,W,bs,rfl,_⟩:=h;rfl
 ·obtain⟨st,W,bs,rfl,S,hW,h2,post⟩:=h
  simp![id];intro p hp;have np:p≠st:=S.ne hp;have A0:Adv st G (gup G p (.lst [])):=(Adv.refl S).new hp;refine u28 (λr σ G'=>∃(l t:List Str) (us:List Nat) (v0:Option D),l++t=bs/\r=t.map D.str/\Adv st G G'/\us.length=l.length/\(∀u∈us,u<2^W)/\G' p=some (.lst (us.map nD))/\σ=[v0,some (.ref st),some (.int (W:Int))]) ⟨[],bs,[],none,rfl,rfl,A0,rfl,λu hu=>(by cases hu),u01,rfl⟩ ?_ ?_
  ·rintro σ G1 ⟨l,t,us,v0,el,e2,A1,hl,hu,k1,rfl⟩
   have ht:t=[]:=by simpa using e2.symm
   subst ht;rw[F7] at el;subst el;exact⟨trivial,post p us G1 A1 np hp k1 ⟨hl,hu⟩⟩
  ·rintro z t σ G1 ⟨l,t,us,v0,el,e2,A1,hl,hu,k1,rfl⟩ ih
   cases t with
   | nil=>cases e2
   | cons x0 t =>
    cases e2;refine⟨trivial,?_⟩;have hlen:=congrArg J1 el;rw[B0,C0] at hlen;simp![id];refine ws3 A1.at_ hW λi G2 hi a2=>?_
    have k2:=a2.kp _ _ np k1;simp![k2];have A2:=A1.trans a2;refine⟨C4 (m:=1000) (by rw[B5];omega) (by decide),ih _ _ ⟨l++[x0],t,us++[i],_,by rw[<- el];simp,rfl,A2.own hp k2 np,by rw[B0,B0,hl];rfl,λu hu'=>?_,by rw[u01,D2];rfl,rfl⟩⟩
    rcases K2.mp hu' with h|h
    ·exact hu u h
    ·rw[D9.mp h];exact hi
theorem wk5{n:Nat}:Ok P w mg base (n+1) T.f_jbl wu2:=by
 refine u14 T.f_jbl sc_jbl (λds G R h=>?_) (λcdv A outer s H E hr =>
   (u02 (u20 4 sc_jbl.nd (u16 v37 u05 (ev 3)))
   (u02 (s_if (u26 (x_eq hr) (ev 0) u08 (nomark _)) (u07 (u15 (u16 ue6 (u16 u50 (ev 1) (ev 2)) (ev 4)))) u21)
   (u02 (s_if (u26 (x_eq hr) (ev 0) u08 (nomark _)) (u07 (u15 (u16 ue6 (u16 ui5 (ev 1) (ev 2)) (ev 4)))) u21)
   (u02 (s_if (u26 (x_eq hr) (ev 0) u08 (nomark _)) (u07 (u15 (u16 wa8 (ev 1) (ev 2)))) u21)
   (u02 (s_if (u26 (x_eq hr) (ev 0) u08 (nomark _)) (u07 (u15 (u16 x_or (ev 1) (ev 2)))) u21)
   (u02 (s_if (u26 (x_eq hr) (ev 0) u08 (nomark _)) (u07 (u15 (u16 wa5 (ev 1) (ev 2)))) u21)
   (u02 (s_if (u26 (x_eq hr) (ev 0) u08 (nomark _)) (u07 (u15 (u27 ug0 rfl T.b_int (by decide) (u00 (ua4 (x_lt) (ev 1) (ev 2) (nomark _)) u03)))) u21)
   (u07 (u15 (u27 ug0 rfl T.b_int (by decide) (u00 (ua4 (x_eq hr) (ev 1) (ev 2) (nomark _)) u03)))))))))))) (λds G R h=>?_)
 ·obtain⟨W,a,b,o,rfl,_⟩:=h;rfl
 ·obtain⟨W,a,b,o,rfl,ho,hW,ha,hb,post⟩:=h
  have hP:=pw W;have h0:(0:Int)<((2^W:Nat):Int):=by have:=Y4 W;omega
  have hC:CPow 1 (W:Int):=⟨by omega,by omega,by decide⟩;simp![hP];refine⟨hC,?_⟩
  rcases uf5 ho with rfl|rfl|rfl|rfl|rfl|rfl|rfl
  ·dsimp![id]
   have e:rkB W (C1 "+") a b=(a+b)%2^W:=by unfold rkB;rw[if_pos rfl]
   rw[e,Z8] at post;exact⟨h0,post⟩
  ·dsimp![id]
   rw[if_neg (by decide)];dsimp![id];have e:rkB W (C1 "-") a b=(a+(2^W-b))%2^W:=by unfold rkB;rw[if_neg (by decide),if_pos rfl]
   rw[e,<- submod hb] at post;exact⟨h0,post⟩
  ·dsimp![id]
   rw[if_neg (by decide)];dsimp![id];rw[if_neg (by decide)];dsimp![id];have e:rkB W (C1 "&") a b=a &&& b:=by unfold rkB;rw[if_neg (by decide),if_neg (by decide),if_pos rfl]
   rw[e,<- ui3] at post;exact post
  ·dsimp![id]
   rw[if_neg (by decide)];dsimp![id];rw[if_neg (by decide)];dsimp![id];rw[if_neg (by decide)];dsimp![id];have e:rkB W (C1 "|") a b=a ||| b:=by unfold rkB;rw[if_neg (by decide),if_neg (by decide),if_neg (by decide),if_pos rfl]
   rw[e,<- ux0] at post;exact post
  ·dsimp![id]
   rw[if_neg (by decide)];dsimp![id];rw[if_neg (by decide)];dsimp![id];rw[if_neg (by decide)];dsimp![id];rw[if_neg (by decide)];dsimp![id];have e:rkB W (C1 "^") a b=a ^^^ b:=by unfold rkB;rw[if_neg (by decide),if_neg (by decide),if_neg (by decide),if_neg (by decide),if_pos rfl]
   rw[e,<- v35 ha hb] at post;exact post
  ·dsimp![id]
   rw[if_neg (by decide)];dsimp![id];rw[if_neg (by decide)];dsimp![id];rw[if_neg (by decide)];dsimp![id];rw[if_neg (by decide)];dsimp![id];rw[if_neg (by decide)];dsimp![id];have e:rkB W (C1 "<") a b=if a<b then 1 else 0:=by unfold rkB;rw[if_neg (by decide),if_neg (by decide),if_neg (by decide),if_neg (by decide),if_neg (by decide),if_pos rfl]
   rw[e] at post
   by_cases q:a<b
   ·rw[if_pos q] at post
    rw[if_pos (decide_eq_true (by omega))];exact post
   ·rw[if_neg q] at post
    rw[if_neg (by rw[decide_eq_false (by omega)];decide)];exact post
  ·dsimp![id]
   rw[if_neg (by decide)];dsimp![id];rw[if_neg (by decide)];dsimp![id];rw[if_neg (by decide)];dsimp![id];rw[if_neg (by decide)];dsimp![id];rw[if_neg (by decide)];dsimp![id];rw[if_neg (by decide)];dsimp![id];have e:rkB W (C1 "=") a b=if a=b then 1 else 0:=by unfold rkB;rw[if_neg (by decide),if_neg (by decide),if_neg (by decide),if_neg (by decide),if_neg (by decide),if_neg (by decide)]
   rw[e] at post
   by_cases q:a=b
   ·rw[if_pos q] at post
    rw[if_pos (decide_eq_true (by omega))];exact post
   ·rw[if_neg q] at post
    rw[if_neg (by rw[decide_eq_false (by omega)];decide)];exact post
theorem wk4{n dp:Nat}(G_jbd:Ok P w mg base n T.f_jbd ue8)(G_jaz:Ok P w mg base n T.f_jaz vn7)(G_jbo:Ok P w mg base n T.f_jbo (v30 dp)):Ok P w mg base (n+1) T.f_jbm (wu1 dp):=by
 refine u14 T.f_jbm sc_jbm (λds G R h=>?_) (λcdv A outer s H E hr =>
   (u02 (u20 5 sc_jbm.nd (ec T.f_jbd T.g_law_draw G_jbd hr (u00 (ev 0) (u00 u05 u03))))
   (u02 (u20 6 sc_jbm.nd (e_ix x_ix (ev 1) (ec T.f_jbd T.g_law_draw G_jbd hr (u00 (ev 0) (u00 (u18 u77 rfl T.b_len (by decide) (u00 (ev 1) u03)) u03)))))
   (u02 (u20 7 sc_jbm.nd (ec T.f_jaz T.g_law_atom G_jaz hr (u00 (ev 0) (u00 (ev 1) (u00 (ev 2) u03)))))
   (u02 (s_if (u26 (x_lt) (ev 5) u05 (nomark _)) (u07 (u15 (u23 (u00 u08 (u00 (ev 6) (u00 (ev 7) u03)))))) u21)
   (u02 (s_if (t_w (w_or (u26 (x_lt) (ev 5) u05 (nomark _)) (w_or (u26 (x_eq hr) (ev 3) u05 (nomark _)) (ug1 (u26 (x_lt) (ev 4) u05 (nomark _)))))) (u02 (u20 8 sc_jbm.nd (e_ix x_ix u08 (ec T.f_jbd T.g_law_draw G_jbd hr (u00 (ev 0) (u00 u05 u03)))))
   (u07 (u15 (u23 (u00 u08 (u00 (ev 6) (u00 (ev 8) (u00 (ev 7) (u00 (ec T.f_jaz T.g_law_atom G_jaz hr (u00 (ev 0) (u00 (ev 1) (u00 (ev 2) u03)))) u03))))))))) u21)
   (u02 (u20 9 sc_jbm.nd (u16 ui5 (ev 4) u05))
   (u02 (u20 10 sc_jbm.nd (e_ix x_ix (u46 (u00 (u16 wa7 (ev 9) u05) (u00 (ev 9) (u00 u05 u03)))) (ec T.f_jbd T.g_law_draw G_jbd hr (u00 (ev 0) (u00 u05 u03)))))
   (u02 (u20 11 sc_jbm.nd (ec T.f_jbo T.g_law_pieces G_jbo hr (u00 (ev 0) (u00 (ev 1) (u00 (ev 2) (u00 (u16 ui5 (ev 3) u05) (u00 (ev 10) u03)))))))
   (u07 (u15 (u23 (u00 u08 (u00 (ev 7) (u00 (ev 11) (u00 (ec T.f_jbo T.g_law_pieces G_jbo hr (u00 (ev 0) (u00 (ev 1) (u00 (ev 2) (u00 (u16 ui5 (ev 3) u05) (u00 (u16 ui5 (ev 9) (ev 10)) u03)))))) u03)))))))))))))))) (λds G R h=>?_)
 ·obtain⟨st,W,deep,room,bs,rfl,_⟩:=h;rfl
 ·obtain⟨st,W,deep,room,bs,rfl,S,hW,h1,h2,hd,hd5,hr1,hr2,post⟩:=h
  simp![id];refine u12 S (by decide) (by decide) λx1 G1 a1 b1 b2=>?_
  simp![id];dsimp![B5];refine u12 a1.at_ (by omega) (by omega) λx2 G2 a2 c1 c2=>?_
  obtain⟨x2,rfl⟩:=u83 c1;obtain⟨b,hb⟩:∃b,bs[x2]?=some b:=⟨_,B6 (by omega)⟩;have eb:atI (bs.map D.str) (x2:Int)=some (.str b):=u72 (by rw[F6,hb];rfl);have hbm:=J5 hb;simp![eb];dsimp![id];refine vd2 a2.at_ hW h1 h2 λa G3 ha a3=>?_
  have A3:=(a1.trans a2).trans a3;simp![id];dsimp![id];refine u89 (λq=>?_) (λq=>?_)
  ·exact⟨by decide,post (.is b a) G3 ⟨hbm,ha⟩ trivial hr1 (N4 _) A3⟩
  dsimp![id];generalize hOP:@Exists _ _=OP;have op:OP:=by
   rw[<- hOP];refine u12 A3.at_ (by decide) (by decide) λx3 G4 a4 d1 d2=>?_
   obtain⟨fm,rfl⟩:=u83 d1;obtain⟨o,eo,ho⟩:∃o:Nat,atI (C1 "+-&|^<=").cps.toList (fm:Int)=some o/\(⟨#[o]⟩:Str)∈L3.signs:=by
    have:fm=0\/fm=1\/fm=2\/fm=3\/fm=4\/fm=5\/fm=6:=by(clear hOP q eb hb c2 c1 b2 b1 post hr2 hr1 hd5 hd h2 h1 hW;omega)
    rcases this with e|e|e|e|e|e|e <;> subst e
    ·exact⟨43,by decide,by decide⟩
    ·exact⟨45,by decide,by decide⟩
    ·exact⟨38,by decide,by decide⟩
    ·exact⟨124,by decide,by decide⟩
    ·exact⟨94,by decide,by decide⟩
    ·exact⟨60,by decide,by decide⟩
    ·exact⟨61,by decide,by decide⟩
   have hx:∀(G:Gp) (q:DK),xIx (.str (C1 "+-&|^<=")) (.int (fm:Int)) G q=(((C1 "+-&|^<=").length<=sizeLine)/\q (.str ⟨#[o]⟩) G):=λG q=>by
    show(_/\(match atI (C1 "+-&|^<=").cps.toList (fm:Int) with|some c=>q (.str ⟨#[c]⟩) G|none=>False))=_
    rw[eo]
   simp![hx];refine⟨by decide,?_⟩;dsimp![id];refine vd2 a4.at_ hW h1 h2 λc G5 hc a5=>?_
   simp![id];exact⟨by decide,post (.op b _ a c) G5 ⟨hbm,ho,ha,hc⟩ trivial hr1 (N4 _) ((A3.trans a4).trans a5)⟩
  refine u89 (λ_=>op) λq1=>?_
  simp![id];refine u89 (λ_=>op) λq2=>?_
  simp![id];refine u89 (λ_=>op) λq3=>?_
  dsimp![id];dsimp![id];obtain⟨rm,hrm⟩:∃rm:Nat,room=rm+1:=⟨room-1,by(clear q2 q1 hOP q eb hb c2 c1 b2 b1 post hd5 hd h2 h1 hW;omega)⟩;obtain⟨dm,hdm⟩:∃dm:Nat,deep=dm+1:=⟨deep-1,by(clear hrm q3 q1 hOP q eb hb c2 c1 b2 b1 post hr2 hr1 hd h2 h1 hW;omega)⟩;rw[show((room:Int)-1)=(rm:Int) by omega];refine⟨by unfold vo2;omega,by decide,λq0 hq0=>?_⟩;rw[show((rm:Int) / 2)=((rm / 2:Nat):Int) by omega];have nq:=A3.at_.ne hq0
  have A4:=A3.new (o:=.lst [.int ((rm / 2:Nat):Int),.int (rm:Int),.int 0]) hq0;refine u12 A4.at_ (by decide) (by decide) λx3 G5 a5 d1 d2=>?_
  have k5:=a5.kp _ _ nq u01;have A5:=A4.trans a5;obtain⟨mu,hmu,hmu2⟩:∃mu:Nat,atI [D.int ((rm / 2:Nat):Int),.int (rm:Int),.int 0] x3=some (.int (mu:Int))/\mu<=rm:=by
   have:x3=0\/x3=1\/x3=2:=by(clear k5 nq hq0 hdm hrm q3 q2 q1 hOP q eb hb c2 c1 b2 b1 post hr2 hr1 hd5 hd h2 h1 hW;omega)
   rcases this with rfl|rfl|rfl
   ·exact⟨rm / 2,rfl,Nat.div_le_self _ _⟩
   ·exact⟨rm,rfl,B9 _⟩
   ·exact⟨0,rfl,N4 _⟩
  simp![k5,hmu];have cps:∀{G:Gp} {q:DK} {rr:Nat},rr<=200->StAt G st->(∀(rs:List Rowp) (G':Gp),okL W bs rs->ntL rs->szL rs<=rr->depL rs<=dm->Adv st G G'->q (.tup (u25 rs)) G')->∃R,v30 dp [.ref st,.tup (bs.map .str),.int (W:Int),.int (dm:Int),.int (rr:Int)] G R/\∀d G',R d G'->q d G':=λ{G q rr} hr S k =>
   u48 (post:=λd G'=>∃rs:List Rowp,d=.tup (u25 rs)/\okL W bs rs/\ntL rs/\szL rs<=rr/\depL rs<=dm/\Adv st G G') (λR h=>⟨st,W,dm,rr,bs,rfl,S,hW,h1,h2,by omega,by omega,hr,λrs G' a b c d e=>h _ _ ⟨rs,rfl,a,b,c,d,e⟩⟩) λd G' ⟨rs,e,a,b,c,d',f⟩=>by subst e;exact k rs G' a b c d' f
  dsimp![id];rw[show((deep:Int)-1)=(dm:Int) by omega];refine cps (by(clear cps hmu k5 d2 d1 nq hq0 hdm q2 q1 hOP q eb hb c2 c1 b2 b1 post hd5 hd h2 h1 hW;omega)) A5.at_ λys G6 y1 y2 y3 y4 a6=>?_
  simp![id];dsimp![id];rw[show((deep:Int)-1)=(dm:Int) by omega,show((rm:Int)-(mu:Int))=((rm-mu:Nat):Int) by(clear y4 y3 cps hmu k5 d2 d1 nq hq0 hdm hrm q3 q2 q1 hOP q eb hb c2 c1 b2 b1 post hr2 hr1 hd5 hd h2 h1 hW;omega)];refine cps (by(clear y4 cps hmu k5 d2 d1 nq hq0 hdm q2 q1 hOP q eb hb c2 c1 b2 b1 post hd5 hd h2 h1 hW;omega)) a6.at_ λns G7 n1 n2 n3 n4 a7=>?_
  simp![id];refine⟨by decide,post (.cho a ys ns) G7 ⟨ha,y1,n1⟩ ⟨y2,n2⟩ (by show 1+szL ys+szL ns<=room;(clear n4 y4 cps hmu k5 d2 d1 nq hq0 hdm q3 q2 q1 hOP q eb hb c2 c1 b2 b1 post hr2 hr1 hd5 hd h2 h1 hW;omega)) (by show 1+max (depL ys) (depL ns)<=deep;(clear n3 y3 cps hmu2 hmu k5 d2 d1 nq hq0 hrm q3 q2 q1 hOP q eb hb c2 c1 b2 b1 post hr2 hr1 hd5 hd h2 h1 hW;omega)) ((A5.trans a6).trans a7)⟩
theorem wl1{n dp:Nat}(G_jbl:Ok P w mg base n T.f_jbl wu2)(G_jbe:Ok P w mg base n T.f_jbe (v31 dp)):Ok P w mg base (n+1) T.f_jbe (v31 (dp+1)):=by
 refine u14 T.f_jbe sc_jbe (λds G R h=>?_) (λcdv A outer s H E hr =>
   (u07 (uc6 (u82 (ev 0)) (u19 3 sc_jbe.nd) (u07 (s_if (u26 (x_eq hr) (e_ix x_ix (ev 3) u05) u08 (nomark _)) (u07 (ug3 hr (ev 1) (e_ix x_ix (ev 3) u05) (uy6 hr (ev 1) (e_ix x_ix (ev 3) u05) (e_ix x_ix (ev 3) u05)))) (u07 (s_if (u26 (x_eq hr) (e_ix x_ix (ev 3) u05) u08 (nomark _)) (u07 (ug3 hr (ev 1) (e_ix x_ix (ev 3) u05) (ec T.f_jbl T.g_law_op G_jbl hr (u00 (e_ix x_ix (ev 3) u05) (u00 (uy6 hr (ev 1) (e_ix x_ix (ev 3) u05) (e_ix x_ix (ev 3) u05)) (u00 (uy6 hr (ev 1) (e_ix x_ix (ev 3) u05) (e_ix x_ix (ev 3) u05)) (u00 (ev 2) u03))))))) (u07 (s_if (u26 (x_eq hr) (e_ix x_ix (ev 3) u05) u08 (nomark _)) (u07 (u38 (ec T.f_jbe T.g_law_go G_jbe hr (u00 (e_ix x_ix (ev 3) (u16 u50 u05 (u27 ug0 rfl T.b_int (by decide) (u00 (ua4 (x_eq hr) (uy6 hr (ev 1) (e_ix x_ix (ev 3) u05) (e_ix x_ix (ev 3) u05)) u05 (nomark _)) u03)))) (u00 (ev 1) (u00 (ev 2) u03)))))) (u07 (uc6 (ua3 rfl T.b_range (u00 (e_ix x_ix (ev 3) u05) u03)) (u19 4 sc_jbe.nd) (u07 (u38 (ec T.f_jbe T.g_law_go G_jbe hr (u00 (e_ix x_ix (ev 3) u05) (u00 (ev 1) (u00 (ev 2) u03))))))))))))))))) (λds G R h=>?_)
 ·obtain⟨d,h,W,bs,vs,rs,rfl,_⟩:=h;rfl
 ·obtain⟨d,h,W,bs,vs,rs,rfl,h0,hg,hs,hn,hb,hW1,hW2,hok,hnt,hd,post⟩:=h
  have kd:∀o,sqD (gup G h (.dic o)) d=some (u25 rs):=λo=>vv6 hg h0
  refine va8 h0 rfl λok hok0=>?_
  refine u54 (λr σ G'=>∃(l t:List Rowp) (v3:Option D),l++t=rs/\r=u25 t/\G'=gup G h (.dic (u09 bs (doL W bs l vs)))/\StW W bs (doL W bs l vs)/\σ=[some d,some (.ref h),some (.int (W:Int)),v3,none]) ⟨[],rs,none,rfl,rfl,(vl6 hg).symm,hs,rfl⟩ ?_ ?_
  ·rintro σ G1 ⟨l,t,v3,e,e2,rfl,hsl,rfl⟩
   have ht:t=[]:=by
    cases t with
    | nil=>rfl
    | cons x t=>cases e2
   subst ht;rw[F7] at e;subst e;exact⟨hok0 _ (kd _),post⟩
  ·rintro x r σ G1 ⟨l,t,v3,e,e2,rfl,hsl,rfl⟩ ih
   cases t with
   | nil=>cases e2
   | cons r0 t =>
    cases e2;refine⟨hok0 _ (kd _),?_⟩;have hm:r0∈rs:=by rw[<- e];simp
    have hdr:=ug7 (A43 hd) r0 hm;have hor:=v80 hok hm;have hnr:=ux4 hnt hm;have hdl:doL W bs (l++[r0]) vs=doR W bs r0 (doL W bs l vs):=by rw[vb7];rfl
    generalize hU:doL W bs l vs=U at hsl hdl;have hsn:=vb6 hW1 r0 hor hsl;generalize hFL:forL ok _ _ _ (u25 t)=FL at ih⊢;have nxt:∀v,FL [some d,some (.ref h),some (.int (W:Int)),v,none] (gup G h (.dic (u09 bs (doR W bs r0 U)))):=λv=>ih _ _ ⟨l++[r0],t,v,by rw[<- e];simp,rfl,by rw[hdl],by rw[hdl];exact hsn,rfl⟩
    have hG:gup G h (.dic (u09 bs U)) h=some (.dic (u09 bs U)):=u01;have hdc:=u85 bs U;have look:∀(a:Atm),okA W bs a->∃k,aD a=kD k/\(valK (u09 bs U) k).getD (aD a)=.int ((avB bs U a:Nat):Int):=by
     intro a ha;cases a with
     | num i=>exact⟨.inl (i:Int),rfl,by rw[vf6];rfl⟩
     | box x=>exact⟨.inr x,rfl,by rw[u57 ha hsl.1];rfl⟩
    cases r0 with
    | is x a =>
     obtain⟨hx,ha⟩:x∈bs/\okA W bs a:=hor;obtain⟨k,ek,ev⟩:=look a ha;simp![rowD,v27,ur7];refine⟨⟨h,_,rfl,hG⟩,h,_,k,rfl,ek,hG,?_⟩;rw[ev];refine⟨h,u09 bs U,.inr x,rfl,rfl,hG,C4 (m:=6) (by omega) (by decide),?_⟩;rw[u29,u99 hx hn hsl.1];exact nxt _
    | op x o a c =>
     obtain⟨hx,ho,ha,hc⟩:x∈bs/\o∈L3.signs/\okA W bs a/\okA W bs c:=hor;obtain⟨k,ek,ev⟩:=look a ha;obtain⟨k',ek',ev'⟩:=look c hc;have d1:(C1 "op" = C1 "is")=False:=eq_false (by decide);simp![rowD,v27,ur7,d1];refine⟨⟨h,_,rfl,hG⟩,h,_,k,rfl,ek,hG,?_⟩;rw[ev];refine⟨⟨h,_,rfl,hG⟩,h,_,k',rfl,ek',hG,?_⟩;rw[ev'];refine u31 (v:=.int ((rkB W o (avB bs U a) (avB bs U c):Nat):Int)) (G1:=gup G h (.dic (u09 bs U))) (λR hR=>⟨W,_,_,o,rfl,ho,hW2,ue5 hsl ha,ue5 hsl hc,hR⟩) ?_;simp![id];refine⟨h,u09 bs U,.inr x,rfl,rfl,hG,C4 (m:=6) (by omega) (by decide),?_⟩;rw[u29,u99 hx hn hsl.1];exact nxt _
    | cho a ys ns =>
     obtain⟨ha,oky,okn⟩:okA W bs a/\okL W bs ys/\okL W bs ns:=hor;obtain⟨nty,ntn⟩:ntL ys/\ntL ns:=hnr;obtain⟨k,ek,ev⟩:=look a ha;have d1:(C1 "choose" = C1 "is")=False:=eq_false (by decide);have d2:(C1 "choose" = C1 "op")=False:=eq_false (by decide);have hd':1+max (depL ys) (depL ns)<=dp:=hdr;have crec:∀{ws:List Rowp} {q:DK},depL ws<dp->okL W bs ws->ntL ws->q .non (gup G h (.dic (u09 bs (doL W bs ws U))))->∃R,v31 dp [.tup (u25 ws),.ref h,.int (W:Int)] (gup G h (.dic (u09 bs U))) R/\∀d G',R d G'->q d G':=λ{ws q} hw hko hnw hq=>u31 (v:=.non) (G1:=gup G h (.dic (u09 bs (doL W bs ws U)))) (λR hR=>⟨.tup (u25 ws),h,W,bs,U,ws,rfl,rfl,hG,hsl,hn,hb,hW1,hW2,hko,hnw,hw,by rw[u29];exact hR⟩) hq
     have hdo:doR W bs (.cho a ys ns) U=if avB bs U a=0 then doL W bs ns U else doL W bs ys U:=rfl
     rw[hdo] at nxt;simp![rowD,ur7,d1,d2];refine⟨⟨h,_,rfl,hG⟩,h,_,k,rfl,ek,hG,?_⟩;rw[ev];simp![id]
     by_cases z:avB bs U a=0
     ·rw[decide_eq_true (by omega),if_pos rfl,show((2:Int)+1)=3 from rfl,w84]
      rw[if_pos z] at nxt;exact crec (ws:=ns) (by omega) okn ntn (nxt _)
     ·rw[decide_eq_false (by omega),if_neg (by decide),show((2:Int)+0)=2 from rfl,w85]
      rw[if_neg z] at nxt;exact crec (ws:=ys) (by(clear hdo crec d2 d1 ev ek nxt hdl hdr e look hdc hG ih hFL hU hok0 kd hd hW2 hW1 hb hg h0;omega)) oky nty (nxt _)
    | tim k ys=>exact hnr.elim
theorem wl5{n:Nat}(G_jbe:Ok P w mg base n T.f_jbe wu7):Ok P w mg base (n+1) T.f_jba wv0:=by
 refine u14 T.f_jba sc_jba (λds G R h=>?_) (λcdv A outer s H E hr =>
   (u02 (u20 4 sc_jba.nd (ur4 hr rfl T.b_zip rfl T.b_dict (u00 (ev 1) (u00 (ev 3) u03))))
   (u02 (u38 (ec T.f_jbe T.g_law_go G_jbe hr (u00 (ev 0) (u00 (ev 4) (u00 (ev 2) u03)))))
   (u07 (u15 (u59 (N':=["_law_x", "_law_held"]) (ix:=[none,some 4]) (blk (osc:=u04 vg3) (N:=["_law_rows", "_law_names_here", "_law_wide", "_law_values_here", "_law_held"]) rfl rfl (by decide)) (u82 (ev 1)) (λ_ _ _ _=>(u19 0 (show(["_law_x", "_law_held"]:List Str).Nodup by decide))) (λ_ _ _ _=>u44) (λ_ _ _ _=>(uc0 hr (ev 1) (ev 0))))))))) (λds G R h=>?_)
 ·obtain⟨pa,va,W,bs,vs,rs,rfl,_⟩:=h;rfl
 ·obtain⟨pa,va,W,bs,vs,rs,rfl,hpa,hva,hs,hn,hb,hW1,hW2,hok,hnt,hd,post⟩:=h
  have hkb:(bs.map R7).map kD=bs.map D.str:=by rw[A72];rfl
  simp![uf8];refine⟨bs.map R7,vs.map nD,by rw[hkb];rfl,by show u13 (G va)=_;rw[hva];rfl,by rw[B5,B5];exact hs.1.symm,by rw[B5];omega,λp hp=>?_⟩;rw[uk3 hs.1 hn];dsimp![id];refine u31 (v:=.non) (G1:=gup G p (.dic (u09 bs (doL W bs rs vs)))) (λR h=>⟨.ref pa,p,W,bs,vs,rs,rfl,by show u13 (gup G p _ pa)=_;rw[u06 (gne hpa hp),hpa];rfl,u01,hs,hn,hb,hW1,hW2,hok,hnt,C4 hd (by decide),by rw[u29];exact h⟩) ?_;have hs2:=ur6 hW1 rs hok hs;have g1:Grow G (gup G p (.dic (u09 bs (doL W bs rs vs)))):=Grow.refl.new hp;generalize doL W bs rs vs=U at *;obtain⟨G1,hG1⟩:∃G1,G1=gup G p (.dic (u09 bs U)):=⟨_,rfl⟩;have w1:G1 p=some (.dic (u09 bs U)):=by rw[hG1];exact u01
  rw[<- hG1] at g1⊢;clear hG1;simp![id];dsimp![id];intro p1 hp1;refine u28 (λr σ G'=>∃(l t:List Str) (v0:Option D),l++t=bs/\r=t.map D.str/\G'=gup G1 p1 (.lst ((l.map (gtB bs U)).map nD))/\σ=[v0,some (.ref p)]) ⟨[],bs,none,rfl,rfl,rfl,rfl⟩ ?_ ?_
  ·rintro σ G4 ⟨l,t,v0,el,e2,rfl,rfl⟩
   have ht:t=[]:=by simpa using e2.symm
   subst ht;rw[F7] at el;subst el;refine⟨trivial,?_⟩;rw[um8 hn hs2.1];exact post p1 _ (g1.none hp1) u01 (g1.new hp1)
  ·rintro z t σ G4 ⟨l,t,v0,el,e2,rfl,rfl⟩ ih
   cases t with
   | nil=>cases e2
   | cons x0 t =>
    cases e2;refine⟨trivial,?_⟩;have hm:x0∈bs:=by rw[<- el];simp
    have hlen:=congrArg J1 el;rw[B0,C0] at hlen;simp![ur8];refine⟨p,u09 bs U,.inr x0,_,rfl,rfl,by rw[u06 (gne w1 hp1)];exact w1,u57 hm hs2.1,?_⟩;simp![u01];refine⟨C4 (m:=1000) (by rw[B5,B5];omega) (by decide),ih _ _ ⟨l++[x0],t,_,by rw[<- el];simp,rfl,?_,rfl⟩⟩;rw[u29,D2,D2];rfl
theorem wk1{n:Nat}(G_jcb:Ok P w mg base n T.f_jcb w90):Ok P w mg base (n+1) T.f_jbr wt9:=by
 refine u14 T.f_jbr sc_jbr (λds G R h=>?_) (λcdv A outer s H E hr =>
   (u02 (ub6 (ev 0) (ur1 (n:=4) rfl (u40 (u19 5 sc_jbr.nd) (u40 (u19 6 sc_jbr.nd) (u40 (u19 7 sc_jbr.nd) (u40 (u19 8 sc_jbr.nd) ue4))))))
   (u02 (ub6 (ec T.f_jcb T.g_run_forth G_jcb hr (u00 (u23 (u00 (ev 7) (u00 (ev 5) u03))) (u00 (u16 u50 (ev 1) (u16 uc2 (u46 (u00 u05 u03)) (u16 ui5 (ev 7) (ev 3)))) (u00 (u16 u50 (ev 8) u05) u03)))) (ur1 (n:=4) rfl (u40 (u19 9 sc_jbr.nd) (u40 (u19 10 sc_jbr.nd) (u40 (u19 11 sc_jbr.nd) (u40 (u19 12 sc_jbr.nd) ue4))))))
   (u02 (s_if (t_w (w_or (u26 (x_ne hr) (u23 (u00 (ev 9) (u00 (ev 10) (u00 (ev 12) u03)))) (u23 (u00 u08 (u00 (u18 u77 rfl T.b_len (by decide) (u00 (ev 5) u03)) (u00 (ev 8) u03)))) (nomark _)) (ug1 (u26 (x_ne hr) (e_sl x_sl (ev 11) uk6 (uk5 (ev 3))) (ev 1) (nomark _))))) (u07 (u15 e_bl)) u21)
   (u07 (u15 (ua4 (x_eq hr) (u59 (N':=["_law_spot", "_law_found"]) (ix:=[none,some 11]) (blk (osc:=u04 vg0) (N:=["_law_told", "_law_boxes_here", "_law_places_here", "_law_fresh", "_law_due", "_law_rows", "_law_spots", "_law_after", "_law_wanted", "_law_word", "_law_place", "_law_found", "_law_many"]) rfl rfl (by decide)) (u82 (ev 6)) (λ_ _ _ _=>(u19 0 (show(["_law_spot", "_law_found"]:List Str).Nodup by decide))) (λ_ _ _ _=>u44) (λ_ _ _ _=>(e_ix x_ix (ev 1) (ev 0)))) (ev 4) (nomark _)))))))) (λds G R h=>?_)
 ·obtain⟨q1,q2,ba,pa,da,W,fr,bs,pl,vs,bx,rs,rfl,_⟩:=h;rfl
 ·obtain⟨q1,q2,ba,pa,da,W,fr,bs,pl,vs,bx,rs,rfl,k1,k2,kba,kda,hpl,hs,hbx,hheld,hfr,hok,hnt,hsz,hb,hW1,hW,post⟩:=h
  obtain⟨wk,pc⟩:=w_ps hW1 hW rs (a:=0) hok hnt hpl hs;have hle:=u81 hW hb rs (a:=0) (fr:=fr) hok hnt hpl.l1;generalize wcL W bs rs 0 pl fr=X at *;obtain⟨new,pl3,f3,stp⟩:=X;obtain⟨m1,m2,m3,m4,m5⟩:new.length<=22*szL rs/\f3<=fr+9*szL rs/\fr<=f3/\pl3.length=bs.length/\stp<=22*szL rs:=hle;have wk:Wk 0 fr f3 new stp (Held pl vs) (λ_ b'=>Held pl3 (doL W bs rs vs) b'):=wk;have pc:Plc bs pl3 (doL W bs rs vs) f3:=pc;have k1:G q1=some (.lst (new.map Row.d)):=k1;have k2:G q2=some (.lst (pl3.map nD)):=k2;simp![id];dsimp![kba];obtain⟨zn,hzn,hzn2⟩:∃zn:Nat,((f3:Int)-(fr:Int)).toNat=zn/\fr+zn=f3:=⟨f3-fr,by(clear k2 k1 m5 m4 m2 m1 post hW hW1 hb hsz hfr kda kba;omega),by(clear k2 k1 m5 m4 m2 m1 post hW hW1 hb hsz hfr kda kba;omega)⟩;rw[hzn];refine⟨by decide,by decide,λp8 hp8=>⟨⟨by omega,by omega,D4 (m:=9000) (by omega) (by decide)⟩,λp9 hp9=>?_⟩⟩;rw[U0];have hbl:=hbx.len;have n8:ba≠p8:=gne kba hp8;have n9:ba≠p9:=λz=>by rw[<- z,u06 n8,kba] at hp9;cases hp9
  refine ud3 (by rw[u06 n9,u06 n8];exact kba) u01 (by rw[B5,J9];exact D4 (m:=9000) (by(clear n9 n8 hp9 hp8 hzn k2 k1 m5 m4 m3 m1 post hW hW1 hb kda kba;omega)) (by decide)) λp10 hp10=>?_
  have ezz:bx.map D.int++C2 zn (D.int 0)=(bx++C2 zn 0).map D.int:=by rw[D2,B27]
  rw[ezz];obtain⟨G7,hG7⟩:∃G7,G7=gup (gup (gup G p8 (.lst [D.int 0])) p9 (.lst (C2 zn (D.int 0)))) p10 (.lst ((bx++C2 zn 0).map D.int)):=⟨_,rfl⟩;have g7:Grow G G7:=by rw[hG7];exact((Grow.refl.new hp8).trans (Grow.refl.new hp9)).trans (Grow.refl.new hp10)
  have k10:G7 p10=some (.lst ((bx++C2 zn 0).map D.int)):=by rw[hG7];exact u01
  rw[<- hG7];clear hG7;obtain⟨bb,hbb⟩:∃bb,bb=bx++C2 zn (0:Int):=⟨_,rfl⟩;rw[<- hbb] at k10;have gtl:∀i,i<fr->gt bb i=gt bx i:=λi hi=>by
   rw[hbb];unfold gt;rw[L4,L4,E9 (by omega)]
  have gth:∀i,fr<=i->gt bb i=0:=λi hi=>by
   rw[hbb];unfold gt;rw[L4,F0 (by omega)]
   by_cases h:i-bx.length<zn
   ·rw[V2,if_pos h];rfl
   ·rw[V2,if_neg h];rfl
  have bok:BsOk f3 bb:=by
   refine⟨by rw[hbb,B0,J9];omega,λv hv=>?_⟩;rw[hbb] at hv
   rcases K2.mp hv with h|h
   ·exact hbx.rng v h
   ·rw[(A37.mp h).2];omega
  obtain⟨b',rok,rkeep,rheld,rch⟩:=wk.run f3 new bb (λj r e=>by rw[Q9];exact e) bok (B9 _) gth (u45 hheld hpl.lt gtl);have hrn:rn true new (stp+9) 0 bb=(stp,new.length,b'):=by
   rw[rch 9,Q9,v65 (by
    show mayF new b' new.length=false
    unfold mayF;rw[K9 (B9 _)])]
   rfl
  rw[show((stp:Int)+9)=((stp+9:Nat):Int) by omega];refine ws2 (most:=stp+9) (sz:=f3) (g7.kp _ _ k1) k10 ⟨bok,wk.ok,N4 _⟩ wk.pr.pairs λq8 G8 f8 k8 g8=>?_
  rw[hrn] at k8⊢;have k8:G8 q8=some (.lst (b'.map .int)):=k8;have ewd:outD true new (stp,new.length,b') q8=.tup [.str "end",.int (new.length:Int),.ref q8,.int (stp:Int)]:=by
   show D.tup [.str (wrd true new b' new.length),_,_,_]=_
   unfold wrd;rw[if_pos rfl,if_pos rfl];rfl
  rw[ewd];have g78:Grow G G8:=g7.trans g8;have ka1:=g78.kp _ _ k1;have ka2:=g78.kp _ _ k2;have kba:=g78.kp _ _ kba;have kda:=g78.kp _ _ kda;have rl:=rok.len;have etk:b'.take fr=bx:=by
   apply B42;intro i
   by_cases hi:i<fr
   ·rw[A45 hi,B6 (by(clear kda kba ka2 ka1 ewd k8 f8 hrn rkeep gth gtl hbb k10 ezz hp10 n9 n8 hp9 hp8 hzn k2 k1 m5 m4 m1 post hW hW1 hb hfr;omega)),B6 (by omega)]
    have:=rkeep i (.inl hi);rw[gtl i hi,ur3 (by(clear this kda kba ka2 ka1 ewd k8 f8 hrn rkeep gth gtl hbb k10 ezz hp10 n9 n8 hp9 hp8 hzn k2 k1 m5 m4 m1 post hW hW1 hb hfr;omega)),ur3 (by omega)] at this;rw[this]
   ·rw[K9 (by rw[Z6];(clear kda kba ka2 ka1 ewd k8 f8 hrn rkeep gth gtl hbb k10 ezz hp10 n9 n8 hp9 hp8 hzn k2 k1 m5 m4 m2 m1 post hW hW1 hb hsz hfr;omega)),K9 (by omega)]
  have z1:((new.map Row.d).length<=sizeLine)=True:=eq_true (by rw[B5];exact D4 (m:=9000) (by omega) (by decide));simp![id];dsimp![ka1,z1,B5];refine⟨by decide,by decide,w64 ?_⟩;rw[if_neg (by decide)];simp only[k8,u13];intro p11 hp11;have ecut:cutD (b'.map D.int) none (some (fr:Int))=bx.map D.int:=by
   rw[show cutD (b'.map D.int) none (some (fr:Int))=(b'.map D.int).take fr from v28,<- List.map_take,etk]
  rw[ecut];obtain⟨G9,hG9⟩:∃G9,G9=gup G8 p11 (.lst (bx.map D.int)):=⟨_,rfl⟩;have g9:Grow G8 G9:=by rw[hG9];exact Grow.refl.new hp11
  have k11:G9 p11=some (.lst (bx.map D.int)):=by rw[hG9];exact u01
  rw[<- hG9];clear hG9;have ka2:=g9.kp _ _ ka2;have kba:=g9.kp _ _ kba;have kda:=g9.kp _ _ kda;have k9:=g9.kp _ _ k8;have g89:=g78.trans g9;refine uz1 (ks:=bx) (ms:=bx) (by rw[k11];rfl) (by rw[kba];rfl) ?_;rw[decide_eq_true rfl,if_neg (by decide)];dsimp![ka2];intro p12 hp12;refine u28 (λr σ G'=>∃(l t:List Nat) (v0:Option D),l++t=pl3/\r=t.map nD/\G'=gup G9 p12 (.lst ((l.map λp=>gt b' p).map D.int))/\σ=[v0,some (.ref q8)]) ⟨[],pl3,none,rfl,rfl,rfl,rfl⟩ ?_ ?_
  ·rintro σ G10 ⟨l,t,v0,el,e2,rfl,rfl⟩
   have ht:t=[]:=by simpa using e2.symm
   subst ht;rw[F7] at el;subst el;have g10:Grow G9 (gup G9 p12 (.lst ((l.map λp=>gt b' p).map D.int))):=Grow.refl.new hp12;refine⟨by rw[g10.kp _ _ ka2];rfl,?_⟩;have elist:(l.map λp=>gt b' p)=(doL W bs rs vs).map λ(k:Nat)=>(k:Int):=by
    apply B42;intro k;rw[F6,F6];have hll:l.length=(doL W bs rs vs).length:=pc.l1.trans pc.l2.symm
    by_cases hk:k<l.length
    ·have q1:=B6 hk
     have q2:=B6 (l:=doL W bs rs vs) (i:=k) (by omega);rw[q1,q2];exact congrArg some (rheld k _ _ q1 q2)
    ·rw[K9 (by omega),K9 (by omega)];rfl
   simp![id];refine uz1 (ks:=l.map λp=>gt b' p) (ms:=(doL W bs rs vs).map λ(k:Nat)=>(k:Int)) (by rw[u01];rfl) (by rw[g10.kp _ _ kda,wo3];rfl) ?_;rw[decide_eq_true elist];exact post _ (g89.trans g10)
  ·rintro z t σ G10 ⟨l,t,v0,el,e2,rfl,rfl⟩ ih
   cases t with
   | nil=>cases e2
   | cons x0 t =>
    cases e2;have g10:Grow G9 (gup G9 p12 (.lst ((l.map λp=>gt b' p).map D.int))):=Grow.refl.new hp12;refine⟨by rw[g10.kp _ _ ka2];rfl,?_⟩;have hx0:x0<b'.length:=by rw[rl];exact pc.lt x0 (by rw[<- el];simp)
    have hlen:=congrArg J1 el;rw[B0,C0,pc.l1] at hlen;have e0:nD x0=.int (x0:Int):=rfl;have k9':=g10.kp _ _ k9;simp![e0,k9',u52 hx0,u01];refine⟨C4 (m:=9000) (by rw[B5,B5];omega) (by decide),ih _ _ ⟨l++[x0],t,_,by rw[<- el];simp,rfl,?_,rfl⟩⟩;rw[u29,D2,D2];rfl
theorem wj8{n:Nat}:Ok P w mg base (n+1) T.f_jbv w92:=by
 refine u14 T.f_jbv vq1 (λds G R h=>?_) (λcdv A outer s H E hr =>
   (u07 (u15 (uu5 (u18 uc3 rfl T.b_isinstance (by decide) (u00 (ev 0) (u00 (ub3 (T := "int") T.b_int (by decide)) u03))) (v24 (wr2 (u18 uc3 rfl T.b_isinstance (by decide) (u00 (ev 0) (u00 (ub3 (T := "bool") T.b_bool (by decide)) u03))))))))) (λds G R h=>?_)
 ·obtain⟨i,rfl,_⟩:=h;rfl
 ·obtain⟨i,rfl,post⟩:=h
  simp![un1];refine⟨.inl trivial,?_⟩;rw[if_pos (by decide)];exact⟨.inr (.inr (.inl trivial)),post⟩
theorem wl0{n:Nat}(G_jbv:Ok P w mg base n T.f_jbv w92):Ok P w mg base (n+1) T.f_jbg wu6:=by
 refine u14 T.f_jbg sc_jbg (λds G R h=>?_) (λcdv A outer s H E hr =>
   (u02 (s_if (t_w (w_or (uc5 (u78 (u18 u94 rfl T.b_isinstance (by decide) (u00 (ev 0) (u00 (ub3 (T := "tuple") T.b_tuple (by decide)) u03))))) (w_or (u26 (x_lt) (u18 u77 rfl T.b_len (by decide) (u00 (ev 0) u03)) u05 (nomark _)) (ug1 (u26 (ul7 hr) (e_ix x_ix (ev 0) u05) (u23 (ve0 u03)) (by with_unfolding_all rfl)))))) (u07 (u15 e_bl)) u21)
   (u02 (u20 1 sc_jbg.nd (u27 u53 rfl T.b_list (by decide) (u00 (e_sl x_sl (ev 0) (uk5 u05) uk6) u03)))
   (u02 (s_if (u26 (x_eq hr) (e_ix x_ix (ev 0) u05) u08 (nomark _)) (u02 (s_if (t_w (w_or (uc5 (u78 (u18 u94 rfl T.b_isinstance (by decide) (u00 (e_ix x_ix (ev 0) u05) (u00 (ub3 (T := "tuple") T.b_tuple (by decide)) u03))))) (ug1 (uc5 (u78 (u18 ut1 rfl T.b_all (by decide) (u00 (u59 (N':=["_law_cond"]) (ix:=[none]) (blk (osc:=u04 v60) (N:=["_law_row", "_law_parts", "_law_cond"]) rfl rfl (by decide)) (u82 (e_ix x_ix (ev 0) u05)) (λ_ _ _ _=>(u19 0 (show(["_law_cond"]:List Str).Nodup by decide))) (λ_ _ _ _=>u44) (λ_ _ _ _=>(u18 u94 rfl T.b_isinstance (by decide) (u00 (ev 0) (u00 (ub3 (T := "tuple") T.b_tuple (by decide)) u03))))) u03))))))) (u07 (u15 e_bl)) u21)
   (u02 (u20 1 sc_jbg.nd (e_sl x_sl (ev 1) uk6 (uk5 u05)))
   (u07 (uc6 (u82 (e_ix x_ix (ev 0) u05)) (u19 2 sc_jbg.nd) (u07 (u20 1 sc_jbg.nd (u16 u50 (ev 1) (u27 u53 rfl T.b_list (by decide) (u00 (ev 2) u03))))))))) u21)
   (u02 (s_if (u26 (x_in hr) (e_ix x_ix (ev 0) u05) (u23 (u00 u08 (u00 u08 u03))) (by with_unfolding_all rfl)) (u02 (s_if (t_w (w_or (uc5 (u78 (u18 u94 rfl T.b_isinstance (by decide) (u00 (e_ix x_ix (ev 0) u05) (u00 (ub3 (T := "tuple") T.b_tuple (by decide)) u03))))) (ug1 (u26 (ul7 hr) (e_ix x_ix (e_ix x_ix (ev 0) u05) u05) (u23 (u00 u08 (u00 u08 u03))) (by with_unfolding_all rfl))))) (u07 (u15 e_bl)) u21)
   (u07 (u20 1 sc_jbg.nd (u16 u50 (u46 (u00 (e_ix x_ix (ev 0) u05) u03)) (u27 u53 rfl T.b_list (by decide) (u00 (e_sl x_sl (e_ix x_ix (ev 0) u05) (uk5 u05) uk6) u03)))))) u21)
   (u07 (u15 (u18 ut1 rfl T.b_all (by decide) (u00 (u59 (N':=["_law_part"]) (ix:=[none]) (blk (osc:=u04 v60) (N:=["_law_row", "_law_parts", "_law_cond"]) rfl rfl (by decide)) (u82 (ev 1)) (λ_ _ _ _=>(u19 0 (show(["_law_part"]:List Str).Nodup by decide))) (λ_ _ _ _=>u44) (λ_ _ _ _=>(ec T.f_jbv T.g_law_whole G_jbv hr (u00 (ev 0) u03)))) u03))))))))) (λds G R h=>?_)
 ·obtain⟨r,sz,rfl,_⟩:=h;rfl
 ·obtain⟨r,sz,rfl,hr,post⟩:=h
  have is:∀(ds:List D) (G:Gp) (q:DK),q (.bl true) G->uf1 [.tup ds,.ty "tuple"] G q:=λ_ _ _ h=>⟨.inr (.inr (.inr (.inr (.inl rfl)))),h⟩
  have no6:∀(w:Str) (G:Gp) (q:DK),w∈[("add" :Str), "take", "turn", "swap", "go", "come"]->q (.bl false) G->xInB true (.str w) (.tup [.str "add",.str "take",.str "turn",.str "swap",.str "go",.str "come"]) G q:=λw G q hw h=>by
   show q (.bl (!decide (w∈[("add" :Str), "take", "turn", "swap", "go", "come"]))) G
   rw[decide_eq_true hw];exact h
  have in2:∀(a b w:Str) (n:Bool) (G:Gp) (q:DK),q (.bl (if n then !decide (w∈[a,b]) else decide (w∈[a,b]))) G->xInB n (.str w) (.tup [.str a,.str b]) G q:=λa b w n G q h=>by cases n <;> exact h
  obtain⟨w,ps,ed,hw,hp2,hp3⟩:∃w ps,r.d=.tup (.str w::ps)/\w∈[("add" :Str), "take", "turn", "swap", "go", "come"]/\2<=ps.length/\ps.length<=3:=by
   cases r <;> exact⟨_,_,rfl,by simp,by simp,by simp⟩
  rw[ed];simp![id];refine is _ _ _ ?_;dsimp only;rw[if_neg (by decide),if_neg (by rw[decide_eq_false (by omega)];decide)];refine⟨by decide,no6 w _ _ hw ?_⟩;dsimp![id];have cu:cutD (D.str w::ps) (some 1) none=ps:=ur9 (n:=1);rw[cu];refine⟨λz=>absurd z.1 (by rw[show HT.sIx (ps.length+1) 0 (some 1)=min 1 (ps.length+1) from HT.sIx_nat _ _ 1];omega),λp hp=>?_⟩;have g1:Grow G (gup G p (.lst ps)):=Grow.refl.new hp;have k1:gup G p (.lst ps) p=some (.lst ps):=u01;generalize gup G p (.lst ps)=G1 at *;dsimp![id];generalize hM:Go (dSeq (dIfS (dB (dOp (xInB false) _ _)) _ _) _ _)=M;have mid:∀(p:Addr) (qs:List D) (v:Option D) (G2:Gp),Grow G G2->G2 p=some (.lst qs)->((∃zs:List Int,qs=zs.map .int/\zs.length<=10)/\w∉[C1 "add",C1 "take"]\/(∃(x:Nat) (o:Opd),ps=[.int (x:Int),o.d])/\w∈[C1 "add",C1 "take"])->M [some (.tup (.str w::ps)),some (.ref p),v] G2:=by
   intro p qs v G2 g2 k2 hc;rw[<- hM];clear hM;dsimp![id];generalize hL:Go (dRet (dCB xAll _) _)=L;have fin:∀(p:Addr) (zs:List Int) (G2:Gp),Grow G G2->G2 p=some (.lst (zs.map .int))->zs.length<=10->L [some (.tup (.str w::ps)),some (.ref p),v] G2:=by
    intro p zs G2 g2 k2 hz;rw[<- hL];clear hL;dsimp![k2,u13];intro p3 hp3;refine u28 (λr σ G'=>∃(l t:List Int) (v:Option D),l++t=zs/\r=t.map .int/\G'=gup G2 p3 (.lst (C2 l.length (.bl true)))/\σ=[v]) ⟨[],zs,none,rfl,rfl,rfl,rfl⟩ ?_ ?_
    ·rintro σ G3 ⟨l,t,v,e,e2,rfl,rfl⟩
     refine⟨by rw[u06 (gne k2 hp3),k2],?_⟩;simp![u01,u36,u66];rw[uc1];exact post _ (g2.new hp3)
    ·rintro z r σ G3 ⟨l,t,v,e,e2,rfl,rfl⟩ ih
     cases t with
     | nil=>cases e2
     | cons c t =>
      cases e2;refine⟨by rw[u06 (gne k2 hp3),k2],?_⟩;have hlen:=congrArg J1 e;rw[B0,C0] at hlen;simp![id];refine u31 (v:=.bl true) (λR h=>⟨c,rfl,h⟩) ?_;simp![u01];refine⟨C4 (m:=1000) (by rw[J9];omega) (by decide),ih _ _ ⟨l++[c],t,_,by rw[<- e,E1];rfl,rfl,?_,rfl⟩⟩;rw[u29,B0,R8,T9]
   refine⟨by decide,in2 _ _ _ _ _ _ ?_⟩
   rcases hc with⟨⟨zs,rfl,hz⟩,hn⟩|⟨⟨x,o,rfl⟩,hn⟩
   ·rw[decide_eq_false hn]
    simp![id];exact fin p zs G2 g2 k2 hz
   ·rw[decide_eq_true hn]
    obtain⟨s,y,eo,hs⟩:∃(s:Str) (y:Int),o.d=.tup [.str s,.int y]/\s∈[C1 "box",C1 "num"]:=by cases o <;> exact⟨_,_,rfl,by simp⟩
    rw[eo];simp![id];refine is _ _ _ ?_;simp![id];refine⟨by decide,in2 _ _ _ _ _ _ ?_⟩;rw[decide_eq_true hs];simp![id];dsimp![id];refine⟨by decide,λp3 hp3=>⟨by decide,λp4 hp4=>?_⟩⟩;rw[show cutD [D.str s,D.int y] (some 1) none=[D.int y] from rfl];refine ud3 (xs:=[.int (x:Int)]) (ys:=[.int y]) (by rw[u06 (gne u01 hp4)];exact u01) u01 (by simp) λp5 hp5=>?_
    rw[eo] at fin;exact fin p5 [(x:Int),y] _ (((g2.new hp3).new hp4).new hp5) u01 (by simp)
  cases r with
  | add x o =>
   cases ed;rw[if_neg (by decide)];exact mid p _ _ G1 g1 k1 (.inr ⟨⟨x,o,rfl⟩,by simp⟩)
  | take x o =>
   cases ed;rw[if_neg (by decide)];exact mid p _ _ G1 g1 k1 (.inr ⟨⟨x,o,rfl⟩,by simp⟩)
  | swap x y =>
   cases ed;rw[if_neg (by decide)];exact mid p _ _ G1 g1 k1 (.inl ⟨⟨[(x:Int),(y:Int)],rfl,by simp⟩,by decide⟩)
  | go x n k =>
   cases ed;rw[if_neg (by decide)];exact mid p _ _ G1 g1 k1 (.inl ⟨⟨[(x:Int),n,(k:Int)],rfl,by simp⟩,by decide⟩)
  | come x n k =>
   cases ed;rw[if_neg (by decide)];exact mid p _ _ G1 g1 k1 (.inl ⟨⟨[(x:Int),n,(k:Int)],rfl,by simp⟩,by decide⟩)
  | turn x i cs =>
   cases ed;rw[if_pos (by decide)];simp![id];refine is _ _ _ ?_;simp![id];intro p3 hp3;have hcs:cs.length<=2:=hr.2.2.1;refine u28 (λr σ G'=>∃(l t:List (Nat×Nat)) (v:Option D),l++t=cs/\r=t.map cd/\G'=gup G1 p3 (.lst (C2 l.length (.bl true)))/\σ=[v]) ⟨[],cs,none,rfl,rfl,rfl,rfl⟩ ?_ ?_
   ·rintro σ G3 ⟨l,t,v,e,e2,rfl,rfl⟩
    refine⟨trivial,?_⟩;have g3:Grow G1 (gup G1 p3 (.lst (C2 l.length (.bl true)))):=Grow.refl.new hp3;have k3:=g3.kp _ _ k1;simp![u01,u36,u66];rw[uc1];generalize gup G1 p3 (.lst (C2 l.length (.bl true)))=G3 at *;simp![id];dsimp![k3,u13];intro p4 hp4;rw[show cutD [D.int (x:Int),D.int (i:Int),D.tup (cs.map cd)] none (some 2)=[(x:Int),(i:Int)].map D.int from rfl];have g4:Grow G3 (gup G3 p4 (.lst ([(x:Int),(i:Int)].map D.int))):=Grow.refl.new hp4;have k4:gup G3 p4 (.lst ([(x:Int),(i:Int)].map D.int)) p4=some (.lst ([(x:Int),(i:Int)].map D.int)):=u01;generalize gup G3 p4 (.lst ([(x:Int),(i:Int)].map D.int))=G4 at *;dsimp![id];refine u54 (λr σ G'=>∃(l t:List (Nat×Nat)) (q:Addr) (zs:List Int) (v:Option D),l++t=cs/\r=t.map cd/\Grow G G'/\G' q=some (.lst (zs.map .int))/\zs.length=2+2*l.length/\σ=[some (.tup (.str "turn" ::[.int (x:Int),.int (i:Int),.tup (cs.map cd)])),some (.ref q),v]) ⟨[],cs,p4,_,none,rfl,rfl,(g1.trans g3).trans g4,k4,rfl,rfl⟩ ?_ ?_
    ·rintro σ G5 ⟨l,t,q,zs,v,e,e2,g5,k5,hz,rfl⟩
     have hlen:=congrArg J1 e;rw[B0] at hlen;exact⟨trivial,mid q _ _ G5 g5 k5 (.inl ⟨⟨zs,rfl,by omega⟩,by decide⟩)⟩
    ·rintro z r σ G5 ⟨l,t,q,zs,v,e,e2,g5,k5,hz,rfl⟩ ih
     cases t with
     | nil=>cases e2
     | cons c t =>
      cases e2;have hlen:=congrArg J1 e;rw[B0,C0] at hlen;refine⟨trivial,?_⟩;simp![cd];intro q2 hq2;refine ud3 (xs:=zs.map .int) (ys:=[D.int (c.1:Int),.int (c.2:Int)]) (by rw[u06 (gne k5 hq2)];exact k5) u01 (by rw[B5];show _+2<=_;omega) λq3 hq3=>?_
      exact ih _ _ ⟨l++[c],t,q3,zs++[(c.1:Int),(c.2:Int)],_,by rw[<- e,E1];rfl,rfl,(g5.new hq2).new hq3,by rw[u01,D2];rfl,by rw[B0,B0];simp;omega,rfl⟩
   ·rintro z r σ G3 ⟨l,t,v,e,e2,rfl,rfl⟩ ih
    cases t with
    | nil=>cases e2
    | cons c t =>
     cases e2;refine⟨trivial,?_⟩;have hlen:=congrArg J1 e;rw[B0,C0] at hlen;simp![id];refine is _ _ _ ?_;simp![u01];refine⟨C4 (m:=1000) (by rw[J9];omega) (by decide),ih _ _ ⟨l++[c],t,_,by rw[<- e,E1];rfl,rfl,?_,rfl⟩⟩;rw[u29,B0,R8,T9]
theorem wk9{n:Nat}(G_jas:Ok P w mg base n T.f_jas wv6)(G_jbv:Ok P w mg base n T.f_jbv w92)(G_jbg:Ok P w mg base n T.f_jbg wu6):Ok P w mg base (n+1) T.f_jbh wu5:=by
 refine u14 T.f_jbh sc_jbh (λds G R h=>?_) (λcdv A outer s H E hr =>
   (u02 (s_if (t_w (w_or (uc5 (u78 (u18 u94 rfl T.b_isinstance (by decide) (u00 (ev 0) (u00 (ub3 (T := "tuple") T.b_tuple (by decide)) u03))))) (ug1 (u26 (x_ne hr) (u18 u77 rfl T.b_len (by decide) (u00 (ev 0) u03)) u05 (nomark _))))) (u07 (u15 e_bl)) u21)
   (u02 (ub6 (ev 0) (ur1 (n:=4) rfl (u40 (u19 4 sc_jbh.nd) (u40 (u19 5 sc_jbh.nd) (u40 (u19 6 sc_jbh.nd) (u40 (u19 7 sc_jbh.nd) ue4))))))
   (u02 (s_if (t_w (w_or (uc5 (u78 (u18 uc3 rfl T.b_isinstance (by decide) (u00 (ev 4) (u00 (ub3 (T := "list") T.b_list (by decide)) u03))))) (w_or (uc5 (u78 (u18 uc3 rfl T.b_isinstance (by decide) (u00 (ev 5) (u00 (ub3 (T := "list") T.b_list (by decide)) u03))))) (w_or (uc5 (u78 (ec T.f_jbv T.g_law_whole G_jbv hr (u00 (ev 6) u03)))) (ug1 (uc5 (u78 (ec T.f_jbv T.g_law_whole G_jbv hr (u00 (ev 7) u03))))))))) (u07 (u15 e_bl)) u21)
   (u02 (s_if (t_w (w_or (u26 (x_gt) (u18 u77 rfl T.b_len (by decide) (u00 (ev 4) u03)) (u16 uc2 u05 (ev 2)) (nomark _)) (w_or (u26 (x_lt) (ev 6) (ev 1) (nomark _)) (w_or (u26 (x_gt) (ev 6) (u16 u50 (ev 1) (u16 uc2 u05 (ev 2))) (nomark _)) (ug1 (u26 (x_ne hr) (u18 u77 rfl T.b_len (by decide) (u00 (ev 5) u03)) (ev 3) (nomark _))))))) (u07 (u15 e_bl)) u21)
   (u02 (s_if (t_w (w_or (uc5 (u78 (u18 ut1 rfl T.b_all (by decide) (u00 (u59 (N':=["_law_row"]) (ix:=[none]) (blk (osc:=u04 v59) (N:=["_law_told", "_law_fresh", "_law_heavy", "_law_many", "_law_rows", "_law_spots", "_law_after", "_law_wanted"]) rfl rfl (by decide)) (u82 (ev 4)) (λ_ _ _ _=>(u19 0 (show(["_law_row"]:List Str).Nodup by decide))) (λ_ _ _ _=>u44) (λ_ _ _ _=>(ec T.f_jbg T.g_law_is_row G_jbg hr (u00 (ev 0) u03)))) u03)))) (ug1 (u26 (vf0) (ec T.f_jas T.g_check_code G_jas hr (u00 (u23 (u00 (ev 6) (u00 (ev 4) u03))) u03)) x28 (nomark _))))) (u07 (u15 e_bl)) u21)
   (u07 (u15 (u18 ut1 rfl T.b_all (by decide) (u00 (u59 (N':=["_law_spot", "_law_after"]) (ix:=[none,some 6]) (blk (osc:=u04 v59) (N:=["_law_told", "_law_fresh", "_law_heavy", "_law_many", "_law_rows", "_law_spots", "_law_after", "_law_wanted"]) rfl rfl (by decide)) (u82 (ev 5)) (λ_ _ _ _=>(u19 0 (show(["_law_spot", "_law_after"]:List Str).Nodup by decide))) (λ_ _ _ _=>u44) (λ_ _ _ _=>(uu5 (ec T.f_jbv T.g_law_whole G_jbv hr (u00 (ev 0) u03)) (v24 (w67 (x_le) (x_lt) u05 (ev 0) (ev 1)))))) u03)))))))))) (λds G R h=>?_)
 ·obtain⟨W,fr,bs,pl,rs,a1,a2,rfl,_⟩:=h;rfl
 ·obtain⟨W,fr,bs,pl,rs,a1,a2,rfl,A,O,post⟩:=h
  have is:∀(ds:List D) (G:Gp) (q:DK),q (.bl true) G->uf1 [.tup ds,.ty "tuple"] G q:=λ_ _ _ h=>⟨.inr (.inr (.inr (.inr (.inl rfl)))),h⟩
  obtain⟨wk,pc⟩:=w_ps O.w1 O.w2 rs (a:=0) (pl:=pl) (vs:=C2 bs.length 0) (fr:=fr) O.ok O.nt ⟨O.l,J9,O.lt⟩ ⟨J9,λv hv=>by rw[(A37.mp hv).2];exact Y4 W⟩;have hle:=u81 O.w2 O.b rs (a:=0) (fr:=fr) O.ok O.nt O.l;have hr:=A.r;have hp:=A.p;unfold uz9;generalize wcL W bs rs 0 pl fr=X at *;obtain⟨new,pl3,f3,stp⟩:=X;obtain⟨m1,m2,m3,m4,m5⟩:new.length<=22*szL rs/\f3<=fr+9*szL rs/\fr<=f3/\pl3.length=bs.length/\stp<=22*szL rs:=hle;have wok:∀r∈new,r.ok f3:=wk.ok;have wpr:PairAt 0 new:=wk.pr;have hlt:∀x∈pl3,x<f3:=pc.lt;have hr:G a1=some (.lst (new.map Row.d)):=hr;have hp:G a2=some (.lst (pl3.map nD)):=hp;have hs:=O.s;have hb:=O.b;clear wk pc A;simp![id];refine is _ _ _ ?_;simp![id];dsimp![id];refine⟨by decide,?_⟩;dsimp![un1,hr,hp];rw[if_neg (by decide)];refine⟨.inr (.inr (.inr (.inl trivial))),?_⟩;rw[if_neg (by decide)];refine u31 (v:=.bl true) (λR h=>⟨_,rfl,h⟩) ?_;simp![id];refine u31 (v:=.bl true) (λR h=>⟨_,rfl,h⟩) ?_;simp![id];dsimp![hr,hp,u13,B5];refine⟨ud1 (by omega) (by omega),?_⟩;rw[if_neg (by rw[decide_eq_false (by omega)];decide),if_neg (by rw[decide_eq_false (by omega)];decide)];refine⟨ud1 (by omega) (by omega),?_⟩;rw[if_neg (by rw[decide_eq_false (by omega)];decide),if_neg (by rw[decide_eq_true (by omega)];decide)];dsimp![hr,u13];intro p3 hp3;refine u28 (λr σ G'=>∃(l t:List Row) (v:Option D),l++t=new/\r=t.map Row.d/\Grow G G'/\G' p3=some (.lst (C2 l.length (.bl true)))/\σ=[v]) ⟨[],new,none,rfl,rfl,Grow.refl.new hp3,u01,rfl⟩ ?_ ?_
  ·rintro σ G3 ⟨l,t,v,e,e2,g3,k3,rfl⟩
   have hr3:=g3.kp _ _ hr;refine⟨by rw[hr3],?_⟩;simp![k3,u36,u66];rw[uc1];simp![id];refine⟨by decide,?_⟩;refine u49 ⟨a1,new,f3,rfl,hr3,wok,wpr.pairs,λG4 g4=>?_⟩;have hp4:=g4.kp _ _ (g3.kp _ _ hp);simp![id];dsimp![hp4,u13];intro p5 hp5;refine u28 (λr σ G'=>∃(l t:List Nat) (v:Option D),l++t=pl3/\r=t.map nD/\G'=gup G4 p5 (.lst (C2 l.length (.bl true)))/\σ=[v,some (.int (f3:Int))]) ⟨[],pl3,none,rfl,rfl,rfl,rfl⟩ ?_ ?_
   ·rintro σ G5 ⟨l,t,v,e,e2,rfl,rfl⟩
    refine⟨by rw[u06 (gne hp4 hp5),hp4],?_⟩;simp![u01,u36,u66];rw[uc1];exact post _ ((g3.trans g4).new hp5)
   ·rintro z r σ G5 ⟨l,t,v,e,e2,rfl,rfl⟩ ih
    cases t with
    | nil=>cases e2
    | cons c t =>
     cases e2;refine⟨by rw[u06 (gne hp4 hp5),hp4],?_⟩;have hlen:=congrArg J1 e;rw[B0,C0] at hlen;have hc:=hlt c (by rw[<- e];simp);have ec:nD c=.int (c:Int):=rfl;have d1:((0:Int)<=(c:Int))=True:=eq_true (by omega);have d2:((c:Int)<(f3:Int))=True:=eq_true (by omega);simp![id];refine u31 (v:=.bl true) (λR h=>⟨(c:Int),by rw[ec],h⟩) ?_;simp![vc6,ec,d1,d2,u01];refine⟨C4 (m:=1000) (by rw[J9];omega) (by decide),ih _ _ ⟨l++[c],t,_,by rw[<- e,E1];rfl,rfl,?_,rfl⟩⟩;rw[u29,B0,R8,T9]
  ·rintro z r σ G3 ⟨l,t,v,e,e2,g3,k3,rfl⟩ ih
   cases t with
   | nil=>cases e2
   | cons c t =>
    cases e2;refine⟨by rw[g3.kp _ _ hr],?_⟩;have hlen:=congrArg J1 e;rw[B0,C0] at hlen;simp![id];refine u49 ⟨c,f3,rfl,wok c (by rw[<- e];simp),λG4 g4=>?_⟩;simp![g4.kp _ _ k3];refine⟨C4 (m:=9000) (by rw[J9];omega) (by decide),ih _ _ ⟨l++[c],t,_,by rw[<- e,E1];rfl,rfl,(g3.trans g4).own hp3,?_,rfl⟩⟩;rw[u01,B0,R8,T9]
theorem wk8{n:Nat}(G_jbd:Ok P w mg base n T.f_jbd ue8)(G_jaz:Ok P w mg base n T.f_jaz vn7):Ok P w mg base (n+1) T.f_jbi wu4:=by
 refine u14 T.f_jbi sc_jbi (λds G R h=>?_) (λcdv A outer s H E hr =>
   (u02 (u20 3 sc_jbi.nd (u46 u03))
   (u02 (uc6 (ua3 rfl T.b_range (u00 u05 u03)) (u19 4 sc_jbi.nd) (u02 (u20 5 sc_jbi.nd (e_ix x_ix (ev 1) (ec T.f_jbd T.g_law_draw G_jbd hr (u00 (ev 0) (u00 (u18 u77 rfl T.b_len (by decide) (u00 (ev 1) u03)) u03)))))
   (u02 (u20 6 sc_jbi.nd (ec T.f_jaz T.g_law_atom G_jaz hr (u00 (ev 0) (u00 (ev 1) (u00 (ev 2) u03)))))
   (u07 (u38 (ua8 (ev 3) (u00 (e_ix x_ix (u46 (u00 (u23 (u00 u08 (u00 (ev 5) (u00 (ev 6) u03)))) (u00 (u23 (u00 u08 (u00 (ev 5) (u00 u08 (u00 (ev 6) (u00 (e_ix x_ix (ev 1) u05) u03)))))) u03))) (ec T.f_jbd T.g_law_draw G_jbd hr (u00 (ev 0) (u00 u05 u03)))) u03)))))))
   (u07 (u15 (ev 3)))))) (λds G R h=>?_)
 ·obtain⟨st,W,bs,rfl,_⟩:=h;rfl
 ·obtain⟨st,W,bs,rfl,S,hW,h1,h2,post⟩:=h
  simp![id];refine⟨by decide,λp hp=>?_⟩;have np:=S.ne hp;have A1:Adv st G (gup G p (.lst [])):=(Adv.refl S).new hp;have k1:gup G p (.lst []) p=some (.lst []):=u01;generalize gup G p (.lst [])=G1 at *;dsimp![id];refine⟨⟨by decide,by decide⟩,?_⟩;refine u54 (λr σ G'=>∃(i c:Nat) (rs:List Rowp) (v4 v5 v6:Option D),i+c=120/\r=rngD (i:Int) c/\Adv st G G'/\G' p=some (.lst (u25 rs))/\okL W bs rs/\ntL rs/\szL rs=i/\depL rs=0/\rs.length=i/\σ=[some (.ref st),some (.tup (bs.map .str)),some (.int (W:Int)),some (.ref p),v4,v5,v6]) ⟨0,120,[],none,none,none,rfl,rfl,A1,k1,trivial,trivial,rfl,rfl,rfl,rfl⟩ ?_ ?_
  ·rintro σ G2 ⟨i,c,rs,v4,v5,v6,e,e2,A2,k2,o1,o2,o3,o4,o5,rfl⟩
   refine⟨trivial,?_⟩;dsimp![id];exact post p rs G2 hp o1 o2 (by(clear o4 k2 e2 k1 np hp post h2 h1 hW;omega)) o4 (by(clear o4 k2 e2 k1 np hp post h2 h1 hW;omega)) np k2 A2
  ·rintro z r σ G2 ⟨i,c,rs,v4,v5,v6,e,e2,A2,k2,o1,o2,o3,o4,o5,rfl⟩ ih
   cases c with
   | zero=>cases e2
   | succ c =>
    rw[u33] at e2;cases e2;refine⟨trivial,?_⟩;generalize hFL:forL _ _ _ _ (rngD _ c)=FL at ih⊢;simp![B5];refine u12 A2.at_ (by omega) (by omega) λx G3 a3 b1 b2=>?_
    obtain⟨y,hy,ey⟩:=at_getD (xs:=bs.map D.str) (v:=x) b1 (by rw[B5];exact b2);obtain⟨w,hw,rfl⟩:=P1.mp hy;obtain⟨b0,bt,eb⟩:∃b0 bt,bs=b0::bt:=by
     cases bs with
     | nil=>simp at h1
     | cons a b=>exact⟨a,b,rfl⟩
    have e0:atI (bs.map D.str) 0=some (.str b0):=by rw[eb];exact vn3
    simp![ey];dsimp![id];refine vd2 a3.at_ hW h1 h2 λa G4 ha a4=>?_
    have A4:=(A2.trans a3).trans a4;have k4:=a4.kp _ _ np (a3.kp _ _ np k2);simp![id];dsimp![e0];refine⟨by rw[k4];trivial,by decide,by decide,by decide,λp5 hp5=>?_⟩;have A5:=A4.new (o:=.lst [rowD (.is w a),rowD (.op w "<" a (.box b0))]) hp5;have n5:=A4.at_.ne hp5
    refine u12 A5.at_ (by decide) (by decide) λx6 G6 a6 c1 c2=>?_
    have k6:=a6.kp _ _ n5 (show gup G4 p5 (.lst [rowD (.is w a),rowD (.op w "<" a (.box b0))]) p5=_ from u01);have kp6:=a6.kp _ _ np (show gup G4 p5 (.lst [rowD (.is w a),rowD (.op w "<" a (.box b0))]) p=some (.lst (u25 rs)) by rw[u06 (gne k4 hp5)];exact k4);obtain⟨r,er,hr1,hr2,hr3,hr4⟩:∃r:Rowp,atI [rowD (.is w a),rowD (.op w "<" a (.box b0))] x6=some (rowD r)/\okR W bs r/\ntR r/\szR r=1/\depR r=0:=by
     have:x6=0\/x6=1:=by(clear kp6 k6 n5 hp5 k4 e0 eb ey b2 b1 ih hFL e o5 o4 o3 k2 k1 np hp post h2 h1 hW;omega)
     rcases this with rfl|rfl
     ·exact⟨.is w a,rfl,⟨hw,ha⟩,trivial,rfl,rfl⟩
     ·exact⟨.op w "<" a (.box b0),rfl,⟨hw,by simp[L3.signs],ha,by rw[eb];exact D7⟩,trivial,rfl,rfl⟩
    simp![k6,u36,er,kp6];refine⟨C4 (m:=1000) (by rw[u98];omega) (by decide),ih _ _ ⟨i+1,c,rs++[r],_,_,_,by omega,rfl,(A5.trans a6).own hp kp6 np,by rw[u01,ug4];rfl,okL_app.mpr ⟨o1,hr1,trivial⟩,ntL_app.mpr ⟨o2,hr2,trivial⟩,by rw[u97,o3];show i+(szR r+0)=_;omega,by rw[ud0,o4];show max 0 (max (depR r) 0)=0;(clear hr3 er kp6 k6 c2 c1 n5 hp5 k4 e0 eb ey b2 b1 ih hFL e o5 o4 o3 k2 k1 np hp post h2 h1 hW;omega),by rw[B0,o5];rfl,rfl⟩⟩
theorem wi1{n:Nat}(G_jch:Ok P w mg base n T.f_jch vn4)(G_jbd:Ok P w mg base n T.f_jbd ue8)(G_jbj:Ok P w mg base n T.f_jbj wu3)(G_jbt:Ok P w mg base n T.f_jbt w93)(G_jbo:Ok P w mg base n T.f_jbo w94)(G_jbq:Ok P w mg base n T.f_jbq wu0)(G_jbc:Ok P w mg base n T.f_jbc wu8)(G_jbs:Ok P w mg base n T.f_jbs wt8)(G_jba:Ok P w mg base n T.f_jba wv0)(G_jbr:Ok P w mg base n T.f_jbr wt9)(G_jbh:Ok P w mg base n T.f_jbh wu5)(G_jbi:Ok P w mg base n T.f_jbi wu4):Ok P w mg base (n+1) T.f_law ws9:=by
 refine u14 T.f_law sc_law (λds G R h=>?_) (λcdv A outer s H E hr =>
   (u02 (u20 1 sc_law.nd (u46 (u00 (ev 0) (u00 u05 (u00 u05 u03)))))
   (u02 (u20 2 sc_law.nd (u16 u50 u05 (ec T.f_jbd T.g_law_draw G_jbd hr (u00 (ev 1) (u00 u05 u03)))))
   (u02 (u20 3 sc_law.nd (ec T.f_jbj T.g_law_names G_jbj hr (u00 (ev 1) (u00 (u16 u50 u05 (ec T.f_jbd T.g_law_draw G_jbd hr (u00 (ev 1) (u00 u05 u03)))) u03))))
   (u02 (u20 4 sc_law.nd (e_ix x_ix (u46 (u00 u05 (u00 u05 u03))) (u27 ug0 rfl T.b_int (by decide) (u00 (ua4 (x_eq hr) (ec T.f_jbd T.g_law_draw G_jbd hr (u00 (ev 1) (u00 u05 u03))) u05 (nomark _)) u03))))
   (u02 (u20 5 sc_law.nd (u16 u50 (u27 u53 rfl T.b_list (by decide) (u00 (ec T.f_jbo T.g_law_pieces G_jbo hr (u00 (ev 1) (u00 (ev 3) (u00 (ev 2) (u00 u05 (u00 (ev 4) u03)))))) u03)) (u27 u53 rfl T.b_list (by decide) (u00 (ec T.f_jbo T.g_law_pieces G_jbo hr (u00 (ev 1) (u00 (ev 3) (u00 (ev 2) (u00 u05 (u00 (u16 wa7 (ev 4) u05) u03)))))) u03))))
   (u02 (s_if (u26 (x_eq hr) (ec T.f_jbd T.g_law_draw G_jbd hr (u00 (ev 1) (u00 u05 u03))) u05 (nomark _)) (u07 (u20 5 sc_law.nd (u16 u50 (ev 5) (ec T.f_jbi T.g_law_many_pieces G_jbi hr (u00 (ev 1) (u00 (ev 3) (u00 (ev 2) u03))))))) u21)
   (u02 (ub6 (ec T.f_jbq T.g_law_places G_jbq hr (u00 (ev 1) (u00 (u18 u77 rfl T.b_len (by decide) (u00 (ev 3) u03)) u03))) (ur1 (n:=2) rfl (u40 (u19 6 sc_law.nd) (u40 (u19 7 sc_law.nd) ue4))))
   (u02 (u20 7 sc_law.nd (u16 u50 (ev 7) (u16 uc2 u05 (u27 ug0 rfl T.b_int (by decide) (u00 (ua4 (x_eq hr) (ec T.f_jbd T.g_law_draw G_jbd hr (u00 (ev 1) (u00 u05 u03))) u05 (nomark _)) u03)))))
   (u02 (u20 8 sc_law.nd (u46 (u00 u05 (u00 u05 u03))))
   (u02 (s_if (u26 (x_eq hr) (ec T.f_jbd T.g_law_draw G_jbd hr (u00 (ev 1) (u00 u05 u03))) u05 (nomark _)) (u07 (u20 8 sc_law.nd (u46 (u00 (ec T.f_jbd T.g_law_draw G_jbd hr (u00 (ev 1) (u00 (u18 u77 rfl T.b_len (by decide) (u00 (ev 3) u03)) u03))) (u00 (ec T.f_jbd T.g_law_draw G_jbd hr (u00 (ev 1) (u00 (u18 u77 rfl T.b_len (by decide) (u00 (ev 3) u03)) u03))) u03))))) u21)
   (u02 (ub6 (e_ix x_ix (ev 6) (e_ix x_ix (ev 8) u05)) (ui7 (ev 6) (e_ix x_ix (ev 8) u05) ui6))
   (u02 (u20 9 sc_law.nd (u46 (u00 (u27 u53 rfl T.b_list (by decide) (u00 (ev 5) u03)) (u00 (u27 u53 rfl T.b_list (by decide) (u00 (ev 6) u03)) u03))))
   (u02 (u20 10 sc_law.nd (ec T.f_jch T.g_weave G_jch hr (u00 (e_ix x_ix (ev 9) u05) (u00 (ev 3) (u00 (ev 2) (u00 (e_ix x_ix (ev 9) u05) (u00 (ev 7) u03)))))))
   (u02 (s_if (t_w (w_or (u26 (x_ne hr) (ev 9) (u46 (u00 (ev 5) (u00 (ev 6) u03))) (nomark _)) (ug1 (uc5 (u78 (ec T.f_jbh T.g_law_is_told G_jbh hr (u00 (ev 10) (u00 (ev 7) (u00 (ec T.f_jbt T.g_law_weight G_jbt hr (u00 (ev 5) u03)) (u00 (u18 u77 rfl T.b_len (by decide) (u00 (ev 3) u03)) u03)))))))))) (u07 (u15 e_bl)) u21)
   (u02 (uc6 (ua3 rfl T.b_range (u00 u05 u03)) (u19 11 sc_law.nd) (u02 (u20 12 sc_law.nd (ec T.f_jbs T.g_law_values G_jbs hr (u00 (ev 1) (u00 (ev 3) (u00 (ev 2) u03)))))
   (u02 (ub6 (e_ix x_ix (ev 12) (e_ix x_ix (ev 8) u05)) (ui7 (ev 12) (e_ix x_ix (ev 8) u05) ui6))
   (u02 (u20 13 sc_law.nd (ec T.f_jbc T.g_law_boxes G_jbc hr (u00 (ev 1) (u00 (ev 6) (u00 (ev 12) (u00 (ev 7) u03))))))
   (u07 (s_if (uc5 (u78 (ec T.f_jbr T.g_law_run G_jbr hr (u00 (ev 10) (u00 (ev 13) (u00 (ev 6) (u00 (ev 7) (u00 (ec T.f_jba T.g_law_behind G_jba hr (u00 (ev 5) (u00 (ev 3) (u00 (ev 2) (u00 (ev 12) u03))))) u03)))))))) (u07 (u15 e_bl)) u21))))))
   (u02 (u20 14 sc_law.nd (u23 (u00 (u27 u53 rfl T.b_list (by decide) (u00 (e_ix x_ix (ev 10) u05) u03)) (u00 (u27 u53 rfl T.b_list (by decide) (u00 (e_ix x_ix (ev 10) u05) u03)) (u00 (e_ix x_ix (ev 10) u05) (u00 (e_ix x_ix (ev 10) u05) u03))))))
   (u02 (u38 (ua8 (e_ix x_ix (ev 10) u05) (u00 (u23 (u00 u08 (u00 u05 (u00 (u23 (u00 u08 (u00 u05 u03))) u03)))) u03)))
   (u02 (u38 (vm0 (e_ix x_ix (ev 10) u05)))
   (u07 (u15 (uu5 (ua4 (x_eq hr) (ec T.f_jch T.g_weave G_jch hr (u00 (u27 u53 rfl T.b_list (by decide) (u00 (ev 5) u03)) (u00 (ev 3) (u00 (ev 2) (u00 (e_ix x_ix (ev 9) u05) (u00 (ev 7) u03)))))) (ev 14) (nomark _)) (v24 (ua4 (x_eq hr) (ev 9) (u46 (u00 (ev 5) (u00 (ev 6) u03))) (nomark _))))))))))))))))))))))))) (λds G R h=>?_)
 ·obtain⟨a,ns,rfl,_⟩:=h;rfl
 ·obtain⟨a,ns,rfl,ha,hns,post⟩:=h
  simp![id];refine⟨by decide,λst hst=>?_⟩;have hast:a≠st:=gne ha hst;have S0:StAt (gup G st (.lst [.ref a,.int 0,.int 0])) st:=⟨a,ns,0,0,u01,by rw[u06 hast];exact ha,by omega,by omega,hast,hns⟩;generalize gup G st (.lst [.ref a,.int 0,.int 0])=G0 at *;refine go_i ?_;simp![id];refine u12 S0 (by decide) (by decide) λx1 G1 a1 b1 b2=>?_
  obtain⟨x1,rfl⟩:=u83 b1;obtain⟨W,hW,w1,w2⟩:∃W:Nat,1+(x1:Int)=(W:Int)/\1<=W/\W<=16:=⟨1+x1,by omega,by omega,by omega⟩;simp![hW];refine go_i ?_;simp![id];refine u12 a1.at_ (by decide) (by decide) λx2 G2 a2 c1 c2=>?_
  obtain⟨x2,rfl⟩:=u83 c1;obtain⟨m,hm,m1,m2⟩:∃m:Nat,1+(x2:Int)=(m:Int)/\1<=m/\m<=6:=⟨1+x2,by omega,by omega,by omega⟩;simp![hm];refine u49 ⟨st,m,rfl,a2.at_,m1,m2,λbs G3 hl hbl hn a3=>?_⟩;subst hl;have S3:=a3.at_
  clear hbl a3 a2 a1 S0;simp![id];refine go_i ?_;simp![id];refine⟨by decide,λp4 hp4=>?_⟩;have A4:=(Adv.refl S3).new (o:=.lst [.int 12,.int 30]) hp4;have n4:=S3.ne hp4;refine u12 A4.at_ (by decide) (by decide) λx5 G5 a5 _ _=>?_
  have k5:=a5.kp _ _ n4 (show gup G3 p4 (.lst [.int 12,.int 30]) p4=_ from u01);obtain⟨rm,erm,hrm⟩:∃rm:Nat,atI [D.int 12,.int 30] (if decide (x5=1)=true then 1 else 0)=some (.int (rm:Int))/\rm<=30:=by
   split
   ·exact⟨30,rfl,by decide⟩
   ·exact⟨12,rfl,by decide⟩
  simp![k5,u36,erm];have S5:=a5.at_
  clear a5 A4;have pcs:∀(room:Nat) (G:Gp) (q:DK),StAt G st->room<=30->(∀(rs:List Rowp) (G':Gp),okL W bs rs->ntL rs->szL rs<=room->depL rs<=5->Adv st G G'->q (.tup (u25 rs)) G')->∃R,w94 [.ref st,.tup (bs.map .str),.int (W:Int),.int 5,.int (room:Int)] G R/\∀d G',R d G'->q d G':=λroom G q S hr k =>
   u48 (post:=λd G'=>∃rs:List Rowp,d=.tup (u25 rs)/\okL W bs rs/\ntL rs/\szL rs<=room/\depL rs<=5/\Adv st G G') (λR h=>⟨st,W,5,room,bs,rfl,S,w2,m1,m2,by decide,by decide,by omega,λrs G' y1 y2 y3 y4 y5=>h _ _ ⟨rs,rfl,y1,y2,y3,y4,y5⟩⟩) λd G' ⟨rs,e,y1,y2,y3,y4,y5⟩=>by subst e;exact k rs G' y1 y2 y3 y4 y5
  refine go_i ?_;simp![id];refine pcs rm G5 _ S5 hrm λr1 G6 o1 o2 o3 o4 a6=>?_
  simp![id];intro p7 hp7;have n7:=a6.at_.ne hp7
  refine⟨by unfold vo2;omega,?_⟩;rw[show(rm:Int) / 2=((rm / 2:Nat):Int) by omega];refine pcs (rm / 2) _ _ (a6.new hp7).at_ (by omega) λr2 G8 q1 q2 q3 q4 a8=>?_
  have k8:=a8.kp _ _ n7 (show gup G6 p7 (.lst (u25 r1)) p7=_ from u01);simp![id];intro p9 hp9;have l1:=uy0 r1;have l2:=uy0 r2;refine ud3 (by rw[u06 (gne k8 hp9)];exact k8) u01 (by rw[u98,u98];(clear hp9 k8 q4 n7 hp7 o4 pcs erm k5 n4 hp4 m2 m1 hm c2 c1 w2 w1 hW b2 b1 hast hst post hns ha;omega)) λp10 hp10=>?_
  rw[<- ug4];have A10:=((a8.new (o:=.lst (u25 r2)) hp9).new (o:=.lst (u25 (r1++r2))) hp10);have n10:=(a8.new (o:=.lst (u25 r2)) hp9).at_.ne hp10
  have k10:gup (gup G8 p9 (.lst (u25 r2))) p10 (.lst (u25 (r1++r2))) p10=some (.lst (u25 (r1++r2))):=u01;have S10:=A10.at_
  generalize gup (gup G8 p9 (.lst (u25 r2))) p10 (.lst (u25 (r1++r2)))=G10 at *;have s1:okL W bs (r1++r2):=okL_app.mpr ⟨o1,q1⟩;have s2:ntL (r1++r2):=ntL_app.mpr ⟨o2,q2⟩;have s3:szL (r1++r2)<=45:=by rw[u97];(clear k10 n10 hp10 l2 l1 hp9 k8 q4 n7 hp7 o4 pcs erm k5 n4 hp4 m2 m1 hm c2 c1 w2 w1 hW b2 b1 hast hst post hns ha;omega)
  have s4:depL (r1++r2)<=5:=by rw[ud0];(clear s3 k10 n10 hp10 l2 l1 hp9 k8 q3 n7 hp7 o3 pcs hrm erm k5 n4 hp4 m2 m1 hm c2 c1 w2 w1 hW b2 b1 hast hst post hns ha;omega)
  generalize r1++r2=r3 at *;clear A10 k8 a8 a6 o1 o2 o3 o4 q1 q2 q3 q4 S5 k5;refine go_i ?_;simp![id];refine u12 S10 (by decide) (by decide) λx11 G11 a11 _ _=>?_
  have k11:=a11.kp _ _ n10 k10;simp![id];generalize hN:Go (dSeq _ _ _)=N;have rest:∀(sm:Addr) (rs:List Rowp) (G':Gp),StAt G' st->sm≠st->G' sm=some (.lst (u25 rs))->okL W bs rs->ntL rs->szL rs<=165->depL rs<=5->N [some (.ref a),some (.ref st),some (.int (W:Int)),some (.tup (bs.map .str)),some (.int (rm:Int)),some (.ref sm),none,none,none,none,none,none,none,none,none] G':=by
   intro sm rs G12 S12 nsm ksm t1 t2 t3 t4;rw[<- hN];clear hN;refine go_i ?_;simp![B5];refine u49 ⟨st,bs.length,rfl,S12,m2,λq q1 fr pl G13 A13 nq nq1 fq1 kq kq1 hl hnd hlt hf=>?_⟩;have nsq:q1≠sm:=gne' fq1 ksm;have ksm:=A13.kp _ _ nsm ksm;have S13:=A13.at_
   clear A13 S12;simp![kq];refine go_i ?_;simp![id];refine u12 S13 (by decide) (by decide) λx14 G14 a14 _ _=>?_
   obtain⟨fr2,hfr,hfr2,hfr3⟩:∃fr2:Nat,(fr:Int)+900*(if decide (x14=1)=true then 1 else 0)=(fr2:Int)/\fr<=fr2/\fr2<=1000:=by
    split
    ·exact⟨fr+900,by omega,by omega,by omega⟩
    ·exact⟨fr,by omega,by omega,by omega⟩
   simp![id];refine⟨ud1 (by decide) (by decide),?_⟩;rw[hfr];have ksm:=a14.kp _ _ nsm ksm;have kq1:=a14.kp _ _ nq1 kq1;have S14:=a14.at_
   clear a14 S13;refine go_i ?_;simp![id];refine⟨by decide,λp15 hp15=>?_⟩;have A15:=(Adv.refl S14).new (o:=.lst [.int 0,.int 0]) hp15;have n15:=S14.ne hp15;have k15:gup G14 p15 (.lst [.int 0,.int 0]) p15=some (.lst [.int ((0:Nat):Int),.int ((0:Nat):Int)]):=u01;have nps:p15≠sm:=gne' hp15 ksm;have npq:p15≠q1:=gne' hp15 kq1;have ksm:=A15.kp _ _ nsm ksm;have kq1:=A15.kp _ _ nq1 kq1;have S15:=A15.at_
   generalize gup G14 p15 (.lst [.int 0,.int 0])=G15 at *;clear A15;refine go_i ?_;simp![id];refine u12 S15 (by decide) (by decide) λx16 G16 a16 _ _=>?_
   have ksm:=a16.kp _ _ nsm ksm;have kq1:=a16.kp _ _ nq1 kq1;have k16:=a16.kp _ _ n15 k15;have S16:=a16.at_
   clear a16;simp![B5];generalize hM:Go (dSeq _ _ _)=M;have rest2:∀(al:Addr) (i0 i1:Nat) (G':Gp),StAt G' st->al≠st->al≠sm->al≠q1->G' sm=some (.lst (u25 rs))->G' q1=some (.lst (pl.map nD))->G' al=some (.lst [.int (i0:Int),.int (i1:Int)])->i0<bs.length->i1<bs.length->M [some (.ref a),some (.ref st),some (.int (W:Int)),some (.tup (bs.map .str)),some (.int (rm:Int)),some (.ref sm),some (.ref q1),some (.int (fr2:Int)),some (.ref al),none,none,none,none,none,none] G':=by
    intro al i0 i1 G17 S17 nal nas naq ksm kq1 kal hi0 hi1;obtain⟨p0,ep0⟩:∃p0,pl[i0]?=some p0:=⟨_,B6 (by omega)⟩;have ei:atI (pl.map nD) (i0:Int)=some (.int (p0:Int)):=u72 (by rw[F6,ep0];rfl);have ex:ixN (pl.map nD).length (i1:Int)=some i1:=uy3 (by rw[B5];omega);rw[<- hM];clear hM;refine go_i ?_;simp![kal,kq1,u36,ei,ex];rw[show(pl.map nD).set i1 (.int (p0:Int))=(pl.set i1 p0).map nD by rw[B39];rfl];have cns:∀vs:List Nat,∀v,vs[i0]?=some v->Cns (pl.set i1 p0) (vs.set i1 v):=λvs v h=>w79 hnd ep0 h
    have hl2:(pl.set i1 p0).length=bs.length:=by rw[J0];exact hl
    have hlt2:∀x∈pl.set i1 p0,x<fr2:=λx hx=>by
     rcases N1 hx with h|h
     ·have:=hlt x h;(clear hl2 cns ex ei ep0 hi1 hi0 kal kq1 ksm naq nas nal k16 k15 npq nps n15 hp15 hfr2 nsq hlt hl kq fq1 nq1 nq t4 t3 nsm k11 s4 s3 k10 n10 hp10 l2 l1 hp9 n7 hp7 pcs hrm erm n4 hp4 m2 m1 hm c2 c1 w2 w1 hW b2 b1 hast hst post hns ha;omega)
     ·rw[h];have:=hlt p0 (J5 ep0);(clear h hl2 cns ex ei ep0 hi1 hi0 kal kq1 ksm naq nas nal k16 k15 npq nps n15 hp15 hfr2 nsq hlt hl kq fq1 nq1 nq t4 t3 nsm k11 s4 s3 k10 n10 hp10 l2 l1 hp9 n7 hp7 pcs hrm erm n4 hp4 m2 m1 hm c2 c1 w2 w1 hW b2 b1 hast hst post hns ha;omega)
    have S18:StAt (gup G17 q1 (.lst ((pl.set i1 p0).map nD))) st:=S17.set kq1 nq1;have kq1:gup G17 q1 (.lst ((pl.set i1 p0).map nD)) q1=some (.lst ((pl.set i1 p0).map nD)):=u01;have ksm:gup G17 q1 (.lst ((pl.set i1 p0).map nD)) sm=some (.lst (u25 rs)):=by rw[u06 (D6 nsq)];exact ksm
    have kal:gup G17 q1 (.lst ((pl.set i1 p0).map nD)) al=some (.lst [.int (i0:Int),.int (i1:Int)]):=by rw[u06 naq];exact kal
    generalize gup G17 q1 (.lst ((pl.set i1 p0).map nD))=G18 at *;generalize pl.set i1 p0=pl2 at *;have O:WoOk W fr2 bs pl2 rs:=⟨w1,w2,m2,hn,hl2,hlt2,t1,t2,by omega⟩;refine go_i ?_;simp![ksm,u36];intro h0 hh0;simp![u06 (gne kq1 hh0),kq1,u36];intro h1 hh1;refine⟨by decide,λhd hhd=>?_⟩;obtain⟨G19,hG19⟩:∃G19,G19=gup (gup (gup G18 h0 (.lst (u25 rs))) h1 (.lst (pl2.map nD))) hd (.lst [.ref h0,.ref h1]):=⟨_,rfl⟩;have g19:Grow G18 G19:=by rw[hG19];exact((Grow.refl.new hh0).new hh1).new hhd
    have khd:G19 hd=some (.lst [.ref h0,.ref h1]):=by rw[hG19];exact u01
    have kh1:G19 h1=some (.lst (pl2.map nD)):=by rw[hG19,u06 (gne u01 hhd)];exact u01
    have kh0:G19 h0=some (.lst (u25 rs)):=by rw[hG19,u06 (gne (by rw[u06 (gne u01 hh1)];exact u01) hhd),u06 (gne u01 hh1)];exact u01
    have nh0:h0≠st:=S18.ne hh0;have nh1:h1≠st:=(S18.new hh0).ne hh1;have nhd:hd≠st:=((S18.new hh0).new hh1).ne hhd;have S19:StAt G19 st:=by rw[hG19];exact((S18.new hh0).new hh1).new hhd
    have ksm:=g19.kp _ _ ksm;have kq1:=g19.kp _ _ kq1;have kal:=g19.kp _ _ kal;rw[<- hG19];clear hG19;have wv:∀(G:Gp) (pc:Addr) (q:DK),G pc=some (.lst (u25 rs))->G h1=some (.lst (pl2.map nD))->(∀(c1 c2:Addr) (G':Gp),G c1=none->G c2=none->c1≠c2->WoAt G' W fr2 bs pl2 rs c1 c2->Grow G G'->q (uz9 W fr2 bs pl2 rs c1 c2) G')->∃R,vn4 [.ref pc,.tup (bs.map .str),.int (W:Int),.ref h1,.int (fr2:Int)] G R/\∀d G',R d G'->q d G':=λG pc q k0 k1 k =>
     u48 (post:=λd G'=>∃c1 c2,d=uz9 W fr2 bs pl2 rs c1 c2/\G c1=none/\G c2=none/\c1≠c2/\WoAt G' W fr2 bs pl2 rs c1 c2/\Grow G G') (λR h=>⟨pc,h1,W,fr2,bs,pl2,rs,rfl,k0,k1,hl2,m2,hn,t1,t2,by omega,by omega,w2,λc1 c2 G' z1 z2 z3 z4 z5 z6=>h _ _ ⟨c1,c2,rfl,z1,z2,z3,⟨z4,z5⟩,z6⟩⟩) λd G' ⟨c1,c2,e,z1,z2,z3,z4,z6⟩=>by subst e;exact k c1 c2 G' z1 z2 z3 z4 z6
    refine go_i ?_;simp![khd,u36,vn3,vn2];refine wv G19 h0 _ kh0 kh1 λc1 c2 G20 fc1 fc2 n12 wo g20=>?_
    have S20:StAt G20 st:=(Adv.refl S19).grow g20 |>.at_
    have nc1:c1≠st:=S19.ne fc1;have nc2:c2≠st:=S19.ne fc2;have ksm:=g20.kp _ _ ksm;have kq1:=g20.kp _ _ kq1;have kal:=g20.kp _ _ kal;have khd:=g20.kp _ _ khd;have kh0:=g20.kp _ _ kh0;have kh1:=g20.kp _ _ kh1;simp![id];refine go_i ?_;simp![id];refine⟨by decide,λp21 hp21=>?_⟩;have g21:Grow G20 (gup G20 p21 (.lst [.ref sm,.ref q1])):=Grow.refl.new hp21;refine uz2 (a:=h0) (b:=h1) (c:=sm) (d:=q1) (O:=rs) (pl:=pl2) (by rw[g21.kp _ _ khd];rfl) (by rw[u01];rfl) (by rw[g21.kp _ _ kh0];rfl) (by rw[g21.kp _ _ ksm];rfl) (by rw[g21.kp _ _ kh1];rfl) (by rw[g21.kp _ _ kq1];rfl) t4 ?_;have ksm1:=g21.kp _ _ ksm;generalize gup G20 p21 (.lst [.ref sm,.ref q1])=G21 at *;simp![id];refine u31 (v:=.int (szL rs:Int)) (λR h=>⟨.ref sm,rs,rfl,by show u13 (G21 sm)=_;rw[ksm1];rfl,t2,by omega,by omega,h⟩) ?_;simp![B5];refine u49 ⟨W,fr2,bs,pl2,rs,c1,c2,rfl,⟨g21.kp _ _ wo.r,g21.kp _ _ wo.p⟩,O,λG22 g22=>?_⟩;have g2:=g21.trans g22;have A22:Adv st G20 G22:=(Adv.refl S20).grow g2;clear g2 g21 g22 ksm1;simp![id];refine go_i ?_;simp![id];refine⟨⟨by decide,by decide⟩,?_⟩;generalize hL:Go (dSeq _ _ _)=L;refine u54 (λr σ G'=>∃(i cc:Nat) (v11 v12 v13:Option D),i+cc=3/\r=rngD (i:Int) cc/\Adv st G20 G'/\σ=[some (.ref a),some (.ref st),some (.int (W:Int)),some (.tup (bs.map .str)),some (.int (rm:Int)),some (.ref sm),some (.ref q1),some (.int (fr2:Int)),some (.ref al),some (.ref hd),some (uz9 W fr2 bs pl2 rs c1 c2),v11,v12,v13,none]) ⟨0,3,none,none,none,rfl,rfl,A22,rfl⟩ ?_ ?_
    ·rintro σ G23 ⟨i,cc,v11,v12,v13,_,_,A23,rfl⟩
     refine⟨trivial,?_⟩;rw[<- hL];clear hL;obtain⟨X,hX⟩:∃X,X=wcL W bs rs 0 pl2 fr2:=⟨_,rfl⟩;have wv2:∀(G:Gp) (pc:Addr) (q:DK),G pc=some (.lst (u25 rs))->G h1=some (.lst (pl2.map nD))->(∀(c1 c2:Addr) (G':Gp),G' c1=some (.lst (X.1.map Row.d))->G' c2=some (.lst (X.2.1.map nD))->Grow G G'->q (.tup [.ref c1,.ref c2,.int (X.2.2.1:Int),.int (X.2.2.2:Int)]) G')->∃R,vn4 [.ref pc,.tup (bs.map .str),.int (W:Int),.ref h1,.int (fr2:Int)] G R/\∀d G',R d G'->q d G':=λG pc q k0 k1 k=>wv G pc q k0 k1 λc1 c2 G' _ _ _ w g=>by subst hX;exact k c1 c2 G' w.r w.p g
     have wr:G23 c1=some (.lst (X.1.map Row.d)):=by rw[hX];exact A23.kp _ _ nc1 wo.r
     have wp:G23 c2=some (.lst (X.2.1.map nD)):=by rw[hX];exact A23.kp _ _ nc2 wo.p
     have ksm:=A23.kp _ _ nsm ksm;have kq1:=A23.kp _ _ nq1 kq1;have khd:=A23.kp _ _ nhd khd;have kh0:=A23.kp _ _ nh0 kh0;have kh1:=A23.kp _ _ nh1 kh1;have hle:=u81 w2 m2 rs (a:=0) (fr:=fr2) t1 t2 hl2;have hrl:X.1.length<=22*szL rs:=by rw[hX];exact hle.1
     have old:∀b o,G19 b=some o->b≠c1/\b≠c2:=λb o e=>⟨gne e fc1,gne e fc2⟩
     rw[show uz9 W fr2 bs pl2 rs c1 c2=.tup [.ref c1,.ref c2,.int (X.2.2.1:Int),.int (X.2.2.2:Int)] by rw[hX];rfl];obtain⟨xr,xp,xf,xs⟩:=X;clear hX hle wv wo;dsimp only at *;refine go_i ?_;generalize hZ:dSeq (uu8 _) _=Z;refine rd4 rfl wr wp λb1 b2 hb1 hb2=>?_
     obtain⟨G24,hG24⟩:∃G24,G24=gup (gup G23 b1 (.lst (xr.map Row.d))) b2 (.lst (xp.map nD)):=⟨_,rfl⟩;have g24:Grow G23 G24:=by rw[hG24];exact(Grow.refl.new hb1).new hb2
     have kb2:G24 b2=some (.lst (xp.map nD)):=by rw[hG24];exact u01
     have kb1:G24 b1=some (.lst (xr.map Row.d)):=by rw[hG24,u06 (gne u01 hb2)];exact u01
     have nb:∀b o,G23 b=some o->b1≠b/\b2≠b:=λb o e=>⟨gne' hb1 e,gne' hb2 (by rw[u06 (gne e hb1)];exact e)⟩
     rw[<- hG24];clear hG24;rw[<- hZ];clear hZ;refine go_i ?_;generalize hZ:dSeq (uu8 _) (dRet _)=Z;simp![g24.kp _ _ wr];refine⟨by decide,by decide,C4 (m:=9000) (by rw[B5];omega) (by decide),?_⟩;rw[<- hZ];clear hZ;refine go_i ?_;generalize hZ:(dRet _)=Z;simp![u06 (D6 n12),g24.kp _ _ wp];generalize hxs:(C33 Row.d xr++_:List D)=zs;obtain⟨G25,hG25⟩:∃G25,G25=gup (gup G24 c1 (.lst zs)) c2 (.lst []):=⟨_,rfl⟩;have k25:∀b o,b≠c1->b≠c2->G24 b=some o->G25 b=some o:=λb o h1 h2 e=>by rw[hG25,u06 h2,u06 h1];exact e
     have kc:∀b o,G19 b=some o->G23 b=some o->G25 b=some o:=λb o e e2=>k25 b o (old b o e).1 (old b o e).2 (g24.kp _ _ e2)
     have kb1:=k25 b1 _ (nb _ _ wr).1 (nb _ _ wp).1 kb1;have kb2:=k25 b2 _ (nb _ _ wr).2 (nb _ _ wp).2 kb2;have ksm:=kc _ _ ‹G19 sm=_› ksm;have kq1:=kc _ _ ‹G19 q1=_› kq1;have khd:=kc _ _ ‹G19 hd=_› khd;have kh0:=kc _ _ ‹G19 h0=_› kh0;have kh1:=kc _ _ ‹G19 h1=_› kh1;rw[<- hG25];clear hG25;rw[<- hZ];clear hZ;refine go_i ?_;simp![ksm,u36];intro p26 hp26;have g26:Grow G25 (gup G25 p26 (.lst (u25 rs))):=Grow.refl.new hp26;simp![g26.kp _ _ khd,u36,vn2];refine wv2 _ p26 _ u01 (g26.kp _ _ kh1) λd1 d2 G27 wo2r wo2p g27=>?_
     have g:=g26.trans g27;refine vm7 (rs:=xr) (pl:=xp) (by rw[wo2r];rfl) (by rw[g.kp _ _ kb1];rfl) (by rw[wo2p];rfl) (by rw[g.kp _ _ kb2];rfl) ?_;simp![id];refine⟨by decide,λp28 hp28=>?_⟩;have g:=g.new (o:=.lst [.ref sm,.ref q1]) hp28;refine uz2 (a:=h0) (b:=h1) (c:=sm) (d:=q1) (O:=rs) (pl:=pl2) (by rw[g.kp _ _ khd];rfl) (by rw[u01];rfl) (by rw[g.kp _ _ kh0];rfl) (by rw[g.kp _ _ ksm];rfl) (by rw[g.kp _ _ kh1];rfl) (by rw[g.kp _ _ kq1];rfl) t4 ?_;exact post _
    ·rintro z r σ G23 ⟨i,cc,v11,v12,v13,e,e2,A23,rfl⟩ ih
     cases cc with
     | zero=>cases e2
     | succ cc =>
      rw[u33] at e2;cases e2;refine⟨trivial,?_⟩;generalize hFL:forL _ _ _ _ (rngD _ cc)=FL at ih⊢;clear hL;simp![id];refine u49 ⟨st,W,bs,rfl,A23.at_,w2,m2,λva vs G24 a24 nva fva kva hs=>?_⟩;have A24:=A23.trans a24;have kal:=A24.kp _ _ nal kal;have hp16:=p16 w2;have hvl:vs.length=bs.length:=hs.1;obtain⟨v0,ev0⟩:∃v0,vs[i0]?=some v0:=⟨_,B6 (by omega)⟩;have ei:atI (vs.map nD) (i0:Int)=some (.int (v0:Int)):=u72 (by rw[F6,ev0];rfl);have ex:ixN (vs.map nD).length (i1:Int)=some i1:=uy3 (by rw[B5];omega);simp![id];refine go_i ?_;simp![kal,kva,u36,ei,ex];rw[show(vs.map nD).set i1 (.int (v0:Int))=(vs.set i1 v0).map nD by rw[B39];rfl];have hcn:=cns vs v0 ev0;have hs2:StW W bs (vs.set i1 v0):=⟨by rw[J0];exact hs.1,λu hu=>by
       rcases N1 hu with h|h
       ·exact hs.2 u h
       ·rw[h];exact hs.2 v0 (J5 ev0)⟩
      generalize vs.set i1 v0=us at *;have A25:Adv st G20 (gup G24 va (.lst (us.map nD))):=A24.own (A23.none fva nva) kva nva;have kva:gup G24 va (.lst (us.map nD)) va=some (.lst (us.map nD)):=u01;generalize gup G24 va (.lst (us.map nD))=G25 at *;refine go_i ?_;simp![id];refine u49 ⟨st,q1,va,fr2,pl2,us,rfl,A25.at_,nq1,nva,A25.kp _ _ nq1 kq1,kva,hl2.trans hs2.1.symm,hcn,hlt2,λv hv=>by have:=hs2.2 v hv;omega,hfr3,by omega,λba bx G26 a26 nba kba hbx hheld=>?_⟩;have A26:=A25.trans a26;simp![id];refine go_i ?_;simp![id];refine u49 ⟨sm,va,W,bs,us,rs,rfl,A26.kp _ _ nsm ksm,a26.kp _ _ nva kva,hs2,hn,m2,w1,w2,t1,t2,by omega,λqd G27 _ kqd g27=>?_⟩;have A27:=A26.grow g27;simp![id];refine u49 ⟨c1,c2,ba,q1,qd,W,fr2,bs,pl2,us,bx,rs,rfl,A27.kp _ _ nc1 wo.r,A27.kp _ _ nc2 wo.p,g27.kp _ _ kba,kqd,⟨hl2,hs2.1,hlt2⟩,hs2,hbx,hheld,hfr3,t1,t2,by omega,m2,w1,w2,λG28 g28=>?_⟩;simp![id];exact ih _ _ ⟨i+1,cc,_,_,_,by omega,by congr 1,A27.grow g28,rfl⟩
   by_cases h16:x16=1
   ·rw[if_pos (decide_eq_true h16)]
    refine u12 S16 (by omega) (by omega) λy1 G17 a17 e1 e2=>?_
    refine u12 a17.at_ (by omega) (by omega) λy2 G18 a18 e3 e4=>?_
    obtain⟨i0,rfl⟩:=u83 e1;obtain⟨i1,rfl⟩:=u83 e3;have A18:=a17.trans a18;refine⟨by decide,λp19 hp19=>?_⟩;have A19:=A18.new (o:=.lst [.int (i0:Int),.int (i1:Int)]) hp19;simp![id];have ksm:=A18.kp _ _ nsm ksm;have kq1:=A18.kp _ _ nq1 kq1;exact rest2 p19 i0 i1 _ A19.at_ (A18.at_.ne hp19) (D6 (gne ksm hp19)) (D6 (gne kq1 hp19)) (by rw[u06 (gne ksm hp19)];exact ksm) (by rw[u06 (gne kq1 hp19)];exact kq1) u01 (by omega) (by omega)
   ·rw[if_neg (by rw[decide_eq_false h16];decide)]
    exact rest2 p15 0 0 G16 S16 n15 nps npq ksm kq1 k16 (by omega) (by omega)
  by_cases h11:x11=1
  ·rw[if_pos (decide_eq_true h11)]
   refine u49 ⟨st,W,bs,rfl,a11.at_,w2,m1,m2,λq r4 G12 fq y1 y2 y3 y4 y5 y6 k12 a12=>?_⟩;have l3:=uy0 r3;refine ud3 (a12.kp _ _ n10 k11) k12 (by rw[u98,u98];(clear k12 y6 y4 y3 fq h11 rest hN k11 s4 k10 n10 hp10 l2 l1 hp9 n7 hp7 pcs hrm erm n4 hp4 m2 m1 hm c2 c1 w2 w1 hW b2 b1 hast hst post hns ha;omega)) λp13 hp13=>?_
   rw[<- ug4];simp![id];exact rest p13 (r3++r4) _ (a12.new hp13).at_ (a12.at_.ne hp13) u01 (okL_app.mpr ⟨s1,y1⟩) (ntL_app.mpr ⟨s2,y2⟩) (by rw[u97];omega) (by rw[ud0];(clear hp13 l3 k12 y6 y5 y3 fq h11 rest hN k11 s3 k10 n10 hp10 l2 l1 hp9 n7 hp7 pcs hrm erm n4 hp4 m2 m1 hm c2 c1 w2 w1 hW b2 b1 hast hst post hns ha;omega))
  ·rw[if_neg (by rw[decide_eq_false h11];decide)]
   exact rest p10 r3 G11 a11.at_ n10 k11 s1 s2 (by omega) s4
end
end Law
namespace Law
open PySem PySem.Spec PyProof.Rows L2 L3
def noL:W.Frag->Bool
 | []=>true
 | p::r=>(match p.2.data with|.seq _ _=>(match p.2.cls with|.type s=>!(s == "list")|_=>true)|_=>true)&&noL r
theorem vs4:∀{K:W.Frag} {a:Addr} {o:Obj} {its:Array Value} {n:Nat},noL K=true->K.lookup a=some o->o.cls=.type "list" -> o.data=.seq its n->False
 | [],a,o,its,n,_,e,_,_=>by cases e
 | p::r,a,o,its,n,h,e,h1,h2=>by
  unfold noL at h;rw[L7] at h;rw[E7] at e;split at e
  ·cases e
   have q:=h.1;rw[h2] at q;simp only[h1] at q;exact absurd q (by decide)
  ·exact vs4 h.2 e h1 h2
theorem arZ{P:List Value->Prop}(h:P []):∀us:List Value,us.length=0->P us:=λus e=>by rw[F4 e];exact h
theorem arS{n:Nat}{P:List Value->Prop}(h:∀(a:Value) (us:List Value),us.length=n->P (a::us)):∀us:List Value,us.length=n+1->P us:=λus e=>by
 cases us with
 | nil=>cases e
 | cons a us=>exact h a us (O4 e)
theorem ar1{P:List Value->Prop}(h:∀a0,P [a0]):∀us:List Value,us.length=1->P us:=arS λa0=>arZ (h a0)
theorem ar2{P:List Value->Prop}(h:∀a0 a1,P [a0,a1]):∀us:List Value,us.length=2->P us:=arS λa0=>arS λa1=>arZ (h a0 a1)
theorem ar3{P:List Value->Prop}(h:∀a0 a1 a2,P [a0,a1,a2]):∀us:List Value,us.length=3->P us:=arS λa0=>arS λa1=>arS λa2=>arZ (h a0 a1 a2)
theorem ar4{P:List Value->Prop}(h:∀a0 a1 a2 a3,P [a0,a1,a2,a3]):∀us:List Value,us.length=4->P us:=arS λa0=>arS λa1=>arS λa2=>arS λa3=>arZ (h a0 a1 a2 a3)
theorem ar5{P:List Value->Prop}(h:∀a0 a1 a2 a3 a4,P [a0,a1,a2,a3,a4]):∀us:List Value,us.length=5->P us:=arS λa0=>arS λa1=>arS λa2=>arS λa3=>arS λa4=>arZ (h a0 a1 a2 a3 a4)
theorem ar6{P:List Value->Prop}(h:∀a0 a1 a2 a3 a4 a5,P [a0,a1,a2,a3,a4,a5]):∀us:List Value,us.length=6->P us:=arS λa0=>arS λa1=>arS λa2=>arS λa3=>arS λa4=>arS λa5=>arZ (h a0 a1 a2 a3 a4 a5)
def va9{K:W.Frag}{x qual:Str}{st:Stmt}{ps:List Str}{f:Addr}{oc:Value}{od an:Option Addr}{osl:Array (Option Value)}{kV doc pm cdv ct:Value}(l:K.lookup f=some ⟨oc,od,.func (W.fnOf x qual (u70 st) (u62 st) (u04 st) .none kV doc pm an cdv ct),osl⟩)
  (c:W.codeIn K cdv qual=true) (k:W.keepIn K (.ref f)=true) (hb:∀us:List Value,us.length=ps.length->B76 (W.fnOf x qual (u70 st) (u62 st) (u04 st) .none kV doc pm an cdv ct) ⟨us,[]⟩=pure (ps.zip us)):FnAt K x qual st ps :=
 ⟨f,_,⟨oc,od,.none,kV,doc,pm,an,cdv,ct,osl,rfl,l,c⟩,k,.all hb⟩
def DF(K:W.Frag)(x:Str)(st:Stmt):Prop:=∃(p:Addr) (oc:Value) (od an:Option Addr) (sl:Array (Option Value)) (kV dc pm cd ct:Value),W.nsIn K F9 x=some (some (.ref p))/\K.lookup p=some ⟨oc,od,.func (W.fnOf x x (u70 st) (u62 st) (u04 st) .none kV dc pm an cd ct),sl⟩/\W.codeIn K cd x=true/\W.keepIn K (.ref p)=true
def DM(K:W.Frag)(C:Addr)(x q:Str)(st:Stmt):Prop:=∃(p:Addr) (oc:Value) (od an:Option Addr) (sl:Array (Option Value)) (kV dc pm cd ct:Value),W.findIn K (.ref C) x=some (some (.ref p))/\W.isFn K (.ref p)=true/\K.lookup p=some ⟨oc,od,.func (W.fnOf x q (u70 st) (u62 st) (u04 st) .none kV dc pm an cd ct),sl⟩/\W.codeIn K cd q=true/\W.keepIn K (.ref p)=true
section
variable{K:W.Frag}{h:Heap}{mg:Str->Option Value}{C:Addr}{x q:Str}{st:Stmt}{ps:List Str}
theorem df_m{p:Addr}{oc:Value}{od an:Option Addr}{sl:Array (Option Value)}{kV dc pm cd ct:Value}(a:W.nsIn K F9 x=some (some (.ref p)))(l:K.lookup p=some ⟨oc,od,.func (W.fnOf x x (u70 st) (u62 st) (u04 st) .none kV dc pm an cd ct),sl⟩)(c:W.codeIn K cd x=true)(k:W.keepIn K (.ref p)=true):DF K x st:=⟨p,oc,od,an,sl,kV,dc,pm,cd,ct,a,l,c,k⟩
theorem dm_m{p:Addr}{oc:Value}{od an:Option Addr}{sl:Array (Option Value)}{kV dc pm cd ct:Value}(a:W.findIn K (.ref C) x=some (some (.ref p)))(i:W.isFn K (.ref p)=true)(l:K.lookup p=some ⟨oc,od,.func (W.fnOf x q (u70 st) (u62 st) (u04 st) .none kV dc pm an cd ct),sl⟩)(c:W.codeIn K cd q=true)(k:W.keepIn K (.ref p)=true):DM K C x q st:=⟨p,oc,od,an,sl,kV,dc,pm,cd,ct,a,i,l,c,k⟩
theorem df_f{N:List Str}(_:FnScope N ps (u04 st))(X:K.In h)(G:h.Ns F9 mg)(hb:∀kV dc pm an cd ct,∀us:List Value,us.length=ps.length->B76 (W.fnOf x x (u70 st) (u62 st) (u04 st) .none kV dc pm an cd ct) ⟨us,[]⟩=pure (ps.zip us))(d:DF K x st) :
  ∃f:FnAt K x x st ps,mg x=some (.ref f.a)/\∀(s:Shared) (us:List Value),us.length=ps.length->B06 s f.fd ⟨us,[]⟩ (ps.zip us):=by
 obtain⟨p,oc,od,an,sl,kV,dc,pm,cd,ct,a,l,c,k⟩:=d;exact⟨va9 l c k (hb kV dc pm an cd ct),W.mg_of X G a,λs us e=>.of_eq (hb kV dc pm an cd ct us e)⟩
theorem dm_f{N:List Str}(_:FnScope N ps (u04 st))(hb:∀kV dc pm an cd ct,∀us:List Value,us.length=ps.length->B76 (W.fnOf x q (u70 st) (u62 st) (u04 st) .none kV dc pm an cd ct) ⟨us,[]⟩=pure (ps.zip us))(d:DM K C x q st) :
  ∃f:FnAt K x q st ps,W.findIn K (.ref C) x=some (some (.ref f.a))/\W.isFn K (.ref f.a)=true:=by
 obtain⟨p,oc,od,an,sl,kV,dc,pm,cd,ct,a,i,l,c,k⟩:=d;exact⟨va9 l c k (hb kV dc pm an cd ct),a,i⟩
end
def vp4:Sp3:=λds G R=>∃(a:Addr) (ns:List Int),ds=[.ref a]/\G a=some (.fro (ns.map .int))/\ns.length<=63/\∀G',R (.bl true) G'
theorem uw7{K:W.Frag}{H:Hp}:∀ns:List Int,RelDs K H (ns.map D.int) (ns.map V.int)
 | []=>.nil
 | _::ns=>.cons RelD.intI (uw7 ns)
theorem wo8{K:W.Frag}{H:Hp}{a:Addr}{ns:List Int}(hL:noL K=true)(hl:ns.length<=63)(hO:Only H)(hS:SqL K H a (ns.map V.int)):ua9 K vp4 [.ref a] H (λv _=>v=.bl true) λ_ _ _=>False:=by
 have ha:∃o,H a=some (.frz o (.lst (ns.map V.int))):=by
  rcases hS with(h|h)|⟨o,its,n,h1,h2,_,h3,_⟩
  ·rcases hO a with z|⟨o,xs,z⟩
   ·rw[h] at z;cases z
   ·rw[h] at z;cases z
  ·exact h
  ·exact(vs4 hL h1 h2 h3).elim
 obtain⟨o,ha⟩:=ha;refine⟨[.ref a],gup (λ_=>none) a (.fro (ns.map .int)),λd _=>d=.bl true,.cons ?_ .nil,λb u e=>?_,⟨a,ns,rfl,u01,hl,λ_=>rfl⟩,λd G' v H' r _ _ e=>?_⟩
 ·rw[RelD]
 ·by_cases hb:b=a
  ·subst hb
   rw[u01] at e;cases e;exact⟨o,_,ha,uw7 ns⟩
  ·rw[u06 hb] at e;cases e
 ·subst e
  rw[RelD] at r;exact r
end Law
namespace Law
open PySem PySem.Spec PyProof.Rows L2 L3 Rw
theorem txt_mk{K:W.Frag}{h:Heap}{mg:Str->Option Value}(X:K.In h)(G:h.Ns F9 mg) 
  {p_8:Addr} {od_8 an_8:Option Addr} {sl_8:Array (Option Value)} {oc_8 kV_8 dc_8 pm_8 cd_8 ct_8:Value}
  {td_Ride_init:Addr} {to_Ride_init:Obj} {tn_Ride_init:Nat} {tt_Ride_init:Tok}
  {t_BELOW_NOUGHT:Tok}
  {t_NUMBERS:Tok}
  {t_BITS:Tok}
  (aC_Loom:W.nsIn K F9 "Loom" = some (some (.ref u17)))
  (aC_Ride:W.nsIn K F9 "Ride" = some (some (.ref u35)))
  (pm_1:DM K u17 "__init__" "Loom.__init__" w02)
  (pm_0:DM K u17 "fresh_box" "Loom.fresh_box" w03)
  (pm_2:DM K u17 "put" "Loom.put" w01)
  (pm_3:DM K u17 "put_by_choice" "Loom.put_by_choice" w00)
  (pm_4:DM K u17 "put_unless" "Loom.put_unless" vz9)
  (pm_54:DF K "weave" vf8)
  (pm_56:DF K "weave_rows" vw4)
  (pm_55:DF K "weave_choose" v04)
  (pm_47:DF K "place_of" vx1)
  (pm_57:DF K "weave_sign" vw3)
  (pm_51:DF K "total" vw7)
  (pm_19:DF K "difference" vy8)
  (pm_20:DF K "gap" w04)
  (pm_14:DF K "bits_of_both" vg5)
  (pm_13:DF K "bits_of_any" vz2)
  (pm_15:DF K "bits_of_one" vz1)
  (pm_50:DF K "sum_without_both" vw8)
  (pm_49:DF K "smaller" vw9)
  (pm_11:DF K "alike" vz3)
  (pm_52:DF K "truth" vw6)
  (pm_18:DF K "check_code" vy9)
  (pm_16:DF K "boxes_read" vg4)
  (pm_12:DF K "bits_of" vg6)
  (pm_45:DF K "numbers_of" vx3)
  (pm_24:DF K "is_within" v05)
  (pm_23:DF K "is_apart" vy5)
  (pm_21:DF K "has_fellow" vy7)
  (a_8:W.findIn K (.ref u35) "__init__" = some (some (.ref p_8)))
  (i_8:W.isFn K (.ref p_8)=true)
  (l_8:K.lookup p_8=some ⟨oc_8,od_8,.func (W.fnOf "__init__" "Ride.__init__" (u70 v06) (u62 v06) (u04 v06) (.ref td_Ride_init) kV_8 dc_8 pm_8 an_8 cd_8 ct_8),sl_8⟩)
  (c_8:W.codeIn K cd_8 "Ride.__init__" = true)
  (k_8:W.keepIn K (.ref p_8)=true)
  (dl_Ride_init:K.lookup td_Ride_init=some to_Ride_init)
  (ds_Ride_init:to_Ride_init.data=.seq #[.int 0 tt_Ride_init] tn_Ride_init)
  (pm_10:DM K u35 "place" "Ride.place" vz4)
  (pm_6:DM K u35 "boxes" "Ride.boxes" vz7)
  (pm_7:DM K u35 "forth" "Ride.forth" vz6)
  (pm_5:DM K u35 "at_end" "Ride.at_end" vz8)
  (pm_9:DM K u35 "may_forth" "Ride.may_forth" vz5)
  (pm_22:DF K "holds" vy6)
  (pm_17:DF K "change" vz0)
  (pm_46:DF K "operand_value" vx2)
  (pm_53:DF K "turn_bit" vw5)
  (pm_48:DF K "run_forth" vx0)
  (pm_58:DF K "word_of" vw2)
  (pm_30:DF K "_law_draw" vy2)
  (pm_35:DF K "_law_names" v58)
  (pm_36:DF K "_law_number" vx9)
  (pm_26:DF K "_law_atom" vy4)
  (pm_38:DF K "_law_piece" vx7)
  (pm_43:DF K "_law_weight" vx5)
  (pm_39:DF K "_law_pieces" vx6)
  (pm_40:DF K "_law_places" vg1)
  (pm_28:DF K "_law_big" vy3)
  (pm_29:DF K "_law_boxes" vg2)
  (pm_42:DF K "_law_values" vf9)
  (pm_44:DF K "_law_whole" vx4)
  (pm_37:DF K "_law_op" vx8)
  (pm_31:DF K "_law_go" vy1)
  (pm_27:DF K "_law_behind" vg3)
  (pm_41:DF K "_law_run" vg0)
  (pm_32:DF K "_law_is_row" v60)
  (pm_33:DF K "_law_is_told" v59)
  (pm_34:DF K "_law_many_pieces" vy0)
  (pm_25:DF K "law" vw1)
  (pg_Loom:W.plainGet K u17 W4=true)
  (hd_Loom:W.hasDictIn K u17=true)
  (po_Loom:W.plainOver K u17=true)
  (sa_Loom:W.findIn K (.ref u17) "__setattr__" = some (some (.builtin "object.__setattr__")))
  (mk_Loom:W.makesIn K u17=true)
  (kc_Loom:W.keepIn K (.ref u17)=true)
  (n_Loom_wide:W.findIn K (.ref u17) "wide" = some none)
  (n_Loom_fresh:W.findIn K (.ref u17) "fresh" = some none)
  (n_Loom_rows:W.findIn K (.ref u17) "rows" = some none)
  (n_Loom_steps:W.findIn K (.ref u17) "steps" = some none)
  (pg_Ride:W.plainGet K u35 W4=true)
  (hd_Ride:W.hasDictIn K u35=true)
  (po_Ride:W.plainOver K u35=true)
  (sa_Ride:W.findIn K (.ref u35) "__setattr__" = some (some (.builtin "object.__setattr__")))
  (mk_Ride:W.makesIn K u35=true)
  (kc_Ride:W.keepIn K (.ref u35)=true)
  (n_Ride_rows:W.findIn K (.ref u35) "rows" = some none)
  (n_Ride_held:W.findIn K (.ref u35) "held" = some none)
  (n_Ride_spot:W.findIn K (.ref u35) "spot" = some none)
  (v_BELOW_NOUGHT:W.nsIn K F9 "BELOW_NOUGHT" = some (some (.int 31 t_BELOW_NOUGHT)))
  (v_NUMBERS:W.nsIn K F9 "NUMBERS" = some (some (.int 4294967296 t_NUMBERS)))
  (v_BITS:W.nsIn K F9 "BITS" = some (some (.int 32 t_BITS)))
  (b_abs:W.nsIn K F9 "abs" = some none)
  (b_all:W.nsIn K F9 "all" = some none)
  (b_bool:W.nsIn K F9 "bool" = some none)
  (b_dict:W.nsIn K F9 "dict" = some none)
  (b_divmod:W.nsIn K F9 "divmod" = some none)
  (b_enumerate:W.nsIn K F9 "enumerate" = some none)
  (b_int:W.nsIn K F9 "int" = some none)
  (b_isinstance:W.nsIn K F9 "isinstance" = some none)
  (b_len:W.nsIn K F9 "len" = some none)
  (b_list:W.nsIn K F9 "list" = some none)
  (b_min:W.nsIn K F9 "min" = some none)
  (b_range:W.nsIn K F9 "range" = some none)
  (b_str:W.nsIn K F9 "str" = some none)
  (b_tuple:W.nsIn K F9 "tuple" = some none)
  (b_zip:W.nsIn K F9 "zip" = some none) :
  ∃T:Txt K mg,∀(s:Shared) (v:Value),B06 s T.f_law.fd ⟨[v],[]⟩ [("_law_script",v)]:=by
 obtain⟨f_jab,a_1,i_1⟩:=dm_f vr7 (λ_ _ _ _ _ _=>ar3 λ_ _ _=>rfl) pm_1;obtain⟨f_jaa,a_0,i_0⟩:=dm_f vr8 (λ_ _ _ _ _ _=>ar1 λ_=>rfl) pm_0;obtain⟨f_jac,a_2,i_2⟩:=dm_f vr6 (λ_ _ _ _ _ _=>ar2 λ_ _=>rfl) pm_2;obtain⟨f_jad,a_3,i_3⟩:=dm_f vr5 (λ_ _ _ _ _ _=>ar4 λ_ _ _ _=>rfl) pm_3;obtain⟨f_jae,a_4,i_4⟩:=dm_f sc_jae (λ_ _ _ _ _ _=>ar4 λ_ _ _ _=>rfl) pm_4;obtain⟨f_jch,g_weave,_⟩:=df_f sc_jch X G (λ_ _ _ _ _ _=>ar5 λ_ _ _ _ _=>rfl) pm_54;obtain⟨f_jck,g_weave_rows,_⟩:=df_f sc_jck X G (λ_ _ _ _ _ _=>ar3 λ_ _ _=>rfl) pm_56;obtain⟨f_jci,g_weave_choose,_⟩:=df_f sc_jci X G (λ_ _ _ _ _ _=>ar3 λ_ _ _=>rfl) pm_55;obtain⟨f_jby,g_place_of,_⟩:=df_f sc_jby X G (λ_ _ _ _ _ _=>ar3 λ_ _ _=>rfl) pm_47;obtain⟨f_jcm,g_weave_sign,_⟩:=df_f vp8 X G (λ_ _ _ _ _ _=>ar4 λ_ _ _ _=>rfl) pm_57;obtain⟨f_jce,g_total,_⟩:=df_f sc_jce X G (λ_ _ _ _ _ _=>ar3 λ_ _ _=>rfl) pm_51;obtain⟨f_jat,g_difference,_⟩:=df_f sc_jat X G (λ_ _ _ _ _ _=>ar3 λ_ _ _=>rfl) pm_19;obtain⟨f_gap,g_gap,_⟩:=df_f sc_gap X G (λ_ _ _ _ _ _=>ar3 λ_ _ _=>rfl) pm_20;obtain⟨f_jao,g_bits_of_both,_⟩:=df_f sc_jao X G (λ_ _ _ _ _ _=>ar3 λ_ _ _=>rfl) pm_14;obtain⟨f_jan,g_bits_of_any,_⟩:=df_f vr0 X G (λ_ _ _ _ _ _=>ar3 λ_ _ _=>rfl) pm_13;obtain⟨f_jap,g_bits_of_one,_⟩:=df_f vq9 X G (λ_ _ _ _ _ _=>ar3 λ_ _ _=>rfl) pm_15;obtain⟨f_jcd,g_sum_without_both,_⟩:=df_f sc_jcd X G (λ_ _ _ _ _ _=>ar4 λ_ _ _ _=>rfl) pm_50;obtain⟨f_jcc,g_smaller,_⟩:=df_f sc_jcc X G (λ_ _ _ _ _ _=>ar3 λ_ _ _=>rfl) pm_49;obtain⟨f_jal,g_alike,_⟩:=df_f sc_jal X G (λ_ _ _ _ _ _=>ar3 λ_ _ _=>rfl) pm_11;obtain⟨f_jcf,g_truth,_⟩:=df_f sc_jcf X G (λ_ _ _ _ _ _=>ar2 λ_ _=>rfl) pm_52;obtain⟨f_jas,g_check_code,_⟩:=df_f sc_jas X G (λ_ _ _ _ _ _=>ar1 λ_=>rfl) pm_18;obtain⟨f_jaq,g_boxes_read,_⟩:=df_f vq8 X G (λ_ _ _ _ _ _=>ar1 λ_=>rfl) pm_16;obtain⟨f_jam,g_bits_of,_⟩:=df_f vr1 X G (λ_ _ _ _ _ _=>ar1 λ_=>rfl) pm_12;obtain⟨f_jbw,g_numbers_of,_⟩:=df_f vq0 X G (λ_ _ _ _ _ _=>ar1 λ_=>rfl) pm_45;obtain⟨f_jay,g_is_within,_⟩:=df_f vq5 X G (λ_ _ _ _ _ _=>ar2 λ_ _=>rfl) pm_24;obtain⟨f_jax,g_is_apart,_⟩:=df_f vq6 X G (λ_ _ _ _ _ _=>ar1 λ_=>rfl) pm_23;obtain⟨f_jav,g_has_fellow,_⟩:=df_f sc_jav X G (λ_ _ _ _ _ _=>ar3 λ_ _ _=>rfl) pm_21
 let f_jai:FnAt K "__init__" "Ride.__init__" v06 ["self", "code", "boxes", "place"]:=⟨p_8,_,⟨_,_,_,_,_,_,_,_,_,_,rfl,l_8,c_8⟩,k_8,λs us hX hl=>match us,hl with|[_,_,_,_],_=>W.binds_K hX rfl dl_Ride_init ds_Ride_init rfl rfl⟩
 obtain⟨f_jak,a_10,i_10⟩:=dm_f vr2 (λ_ _ _ _ _ _=>ar1 λ_=>rfl) pm_10;obtain⟨f_jag,a_6,i_6⟩:=dm_f vr3 (λ_ _ _ _ _ _=>ar1 λ_=>rfl) pm_6;obtain⟨f_jah,a_7,i_7⟩:=dm_f sc_jah (λ_ _ _ _ _ _=>ar1 λ_=>rfl) pm_7;obtain⟨f_jaf,a_5,i_5⟩:=dm_f vr4 (λ_ _ _ _ _ _=>ar1 λ_=>rfl) pm_5;obtain⟨f_jaj,a_9,i_9⟩:=dm_f sc_jaj (λ_ _ _ _ _ _=>ar1 λ_=>rfl) pm_9;obtain⟨f_jaw,g_holds,_⟩:=df_f vq7 X G (λ_ _ _ _ _ _=>ar2 λ_ _=>rfl) pm_22;obtain⟨f_jar,g_change,_⟩:=df_f sc_jar X G (λ_ _ _ _ _ _=>ar3 λ_ _ _=>rfl) pm_17;obtain⟨f_jbx,g_operand_value,_⟩:=df_f vp9 X G (λ_ _ _ _ _ _=>ar2 λ_ _=>rfl) pm_46;obtain⟨f_jcg,g_turn_bit,_⟩:=df_f sc_jcg X G (λ_ _ _ _ _ _=>ar2 λ_ _=>rfl) pm_53;obtain⟨f_jcb,g_run_forth,_⟩:=df_f sc_jcb X G (λ_ _ _ _ _ _=>ar3 λ_ _ _=>rfl) pm_48;obtain⟨f_jcn,g_word_of,_⟩:=df_f vp7 X G (λ_ _ _ _ _ _=>ar3 λ_ _ _=>rfl) pm_58;obtain⟨f_jbd,g_law_draw,_⟩:=df_f sc_jbd X G (λ_ _ _ _ _ _=>ar2 λ_ _=>rfl) pm_30;obtain⟨f_jbj,g_law_names,_⟩:=df_f sc_jbj X G (λ_ _ _ _ _ _=>ar2 λ_ _=>rfl) pm_35;obtain⟨f_jbk,g_law_number,_⟩:=df_f sc_jbk X G (λ_ _ _ _ _ _=>ar2 λ_ _=>rfl) pm_36;obtain⟨f_jaz,g_law_atom,_⟩:=df_f vq4 X G (λ_ _ _ _ _ _=>ar3 λ_ _ _=>rfl) pm_26;obtain⟨f_jbm,g_law_piece,_⟩:=df_f sc_jbm X G (λ_ _ _ _ _ _=>ar5 λ_ _ _ _ _=>rfl) pm_38;obtain⟨f_jbt,g_law_weight,_⟩:=df_f sc_jbt X G (λ_ _ _ _ _ _=>ar1 λ_=>rfl) pm_43;obtain⟨f_jbo,g_law_pieces,_⟩:=df_f sc_jbo X G (λ_ _ _ _ _ _=>ar5 λ_ _ _ _ _=>rfl) pm_39;obtain⟨f_jbq,g_law_places,_⟩:=df_f sc_jbq X G (λ_ _ _ _ _ _=>ar2 λ_ _=>rfl) pm_40;obtain⟨f_jbb,g_law_big,_⟩:=df_f vq3 X G (λ_ _ _ _ _ _=>ar1 λ_=>rfl) pm_28;obtain⟨f_jbc,g_law_boxes,_⟩:=df_f sc_jbc X G (λ_ _ _ _ _ _=>ar4 λ_ _ _ _=>rfl) pm_29;obtain⟨f_jbs,g_law_values,_⟩:=df_f vq2 X G (λ_ _ _ _ _ _=>ar3 λ_ _ _=>rfl) pm_42;obtain⟨f_jbv,g_law_whole,_⟩:=df_f vq1 X G (λ_ _ _ _ _ _=>ar1 λ_=>rfl) pm_44;obtain⟨f_jbl,g_law_op,_⟩:=df_f sc_jbl X G (λ_ _ _ _ _ _=>ar4 λ_ _ _ _=>rfl) pm_37;obtain⟨f_jbe,g_law_go,_⟩:=df_f sc_jbe X G (λ_ _ _ _ _ _=>ar3 λ_ _ _=>rfl) pm_31;obtain⟨f_jba,g_law_behind,_⟩:=df_f sc_jba X G (λ_ _ _ _ _ _=>ar4 λ_ _ _ _=>rfl) pm_27;obtain⟨f_jbr,g_law_run,_⟩:=df_f sc_jbr X G (λ_ _ _ _ _ _=>ar5 λ_ _ _ _ _=>rfl) pm_41;obtain⟨f_jbg,g_law_is_row,_⟩:=df_f sc_jbg X G (λ_ _ _ _ _ _=>ar1 λ_=>rfl) pm_32;obtain⟨f_jbh,g_law_is_told,_⟩:=df_f sc_jbh X G (λ_ _ _ _ _ _=>ar4 λ_ _ _ _=>rfl) pm_33;obtain⟨f_jbi,g_law_many_pieces,_⟩:=df_f sc_jbi X G (λ_ _ _ _ _ _=>ar3 λ_ _ _=>rfl) pm_34;obtain⟨f_law,g_law,b_law⟩:=df_f sc_law X G (λ_ _ _ _ _ _=>ar1 λ_=>rfl) pm_25;exact⟨⟨f_jab,f_jaa,f_jac,f_jad,f_jae,f_jch,g_weave,f_jck,g_weave_rows,f_jci,g_weave_choose,f_jby,g_place_of,f_jcm,g_weave_sign,f_jce,g_total,f_jat,g_difference,f_gap,g_gap,f_jao,g_bits_of_both,f_jan,g_bits_of_any,f_jap,g_bits_of_one,f_jcd,g_sum_without_both,f_jcc,g_smaller,f_jal,g_alike,f_jcf,g_truth,f_jas,g_check_code,f_jaq,g_boxes_read,f_jam,g_bits_of,f_jbw,g_numbers_of,f_jay,g_is_within,f_jax,g_is_apart,f_jav,g_has_fellow,f_jai,f_jak,f_jag,f_jah,f_jaf,f_jaj,f_jaw,g_holds,f_jar,g_change,f_jbx,g_operand_value,f_jcg,g_turn_bit,f_jcb,g_run_forth,f_jcn,g_word_of,f_jbd,g_law_draw,f_jbj,g_law_names,f_jbk,g_law_number,f_jaz,g_law_atom,f_jbm,g_law_piece,f_jbt,g_law_weight,f_jbo,g_law_pieces,f_jbq,g_law_places,f_jbb,g_law_big,f_jbc,g_law_boxes,f_jbs,g_law_values,f_jbv,g_law_whole,f_jbl,g_law_op,f_jbe,g_law_go,f_jba,g_law_behind,f_jbr,g_law_run,f_jbg,g_law_is_row,f_jbh,g_law_is_told,f_jbi,g_law_many_pieces,f_law,g_law,⟨⟨pg_Loom,hd_Loom,po_Loom,sa_Loom⟩,W.mg_of X G aC_Loom,n_Loom_wide,n_Loom_fresh,n_Loom_rows,n_Loom_steps⟩,⟨⟨pg_Ride,hd_Ride,po_Ride,sa_Ride⟩,W.mg_of X G aC_Ride,n_Ride_rows,n_Ride_held,n_Ride_spot⟩,⟨mk_Loom,a_1,i_1,kc_Loom⟩,⟨a_0,i_0,f_jaa.kp⟩,⟨a_2,i_2,f_jac.kp⟩,⟨a_3,i_3,f_jad.kp⟩,⟨a_4,i_4,f_jae.kp⟩,⟨mk_Ride,a_8,i_8,kc_Ride⟩,⟨tt_Ride_init,λs us hX hl=>(λ(hl2:us.length=3)=>match us,hl2 with|[_,_,_],_=>W.binds_K hX rfl dl_Ride_init ds_Ride_init rfl rfl) (by simpa using hl)⟩,⟨a_10,i_10,f_jak.kp⟩,⟨a_6,i_6,f_jag.kp⟩,⟨a_7,i_7,f_jah.kp⟩,⟨a_5,i_5,f_jaf.kp⟩,⟨a_9,i_9,f_jaj.kp⟩,⟨t_BELOW_NOUGHT,W.mg_of X G v_BELOW_NOUGHT⟩,⟨t_NUMBERS,W.mg_of X G v_NUMBERS⟩,⟨t_BITS,W.mg_of X G v_BITS⟩,W.mg_none_of X G b_abs,W.mg_none_of X G b_all,W.mg_none_of X G b_bool,W.mg_none_of X G b_dict,W.mg_none_of X G b_divmod,W.mg_none_of X G b_enumerate,W.mg_none_of X G b_int,W.mg_none_of X G b_isinstance,W.mg_none_of X G b_len,W.mg_none_of X G b_list,W.mg_none_of X G b_min,W.mg_none_of X G b_range,W.mg_none_of X G b_str,W.mg_none_of X G b_tuple,W.mg_none_of X G b_zip⟩,λs v=>b_law s [v] rfl⟩
theorem ws7{P:Program}{w:World}{K:W.Frag}{mg:Str->Option Value}{base:Heap}(T:Txt K mg):Ok P w mg base 25 T.f_law ws9:=by
 have H_jab:=@wn9 P w K mg base T 0;have H_jaa:=@wo0 P w K mg base T 0;have H_jac:=@wn8 P w K mg base T 0;have H_jby:=@wj5 P w K mg base T 1 (FnOk.mono H_jaa (by decide)) (FnOk.mono H_jac (by decide));have H_jce:=@wi9 P w K mg base T 1 (FnOk.mono H_jaa (by decide)) (FnOk.mono H_jac (by decide));have H_gap:=@wo1 P w K mg base T 1 (FnOk.mono H_jaa (by decide)) (FnOk.mono H_jac (by decide));have H_jat:=@wm1 P w K mg base T 2 (FnOk.mono H_jaa (by decide)) (FnOk.mono H_jac (by decide)) (FnOk.mono H_gap (by decide));have H_jao:=@wm6 P w K mg base T 1 (FnOk.mono H_jaa (by decide)) (FnOk.mono H_jac (by decide));have H_jcd:=@wj0 P w K mg base T 2 (FnOk.mono H_jaa (by decide)) (FnOk.mono H_jac (by decide)) (FnOk.mono H_jao (by decide));have H_jan:=@wm7 P w K mg base T 3 (FnOk.mono H_jcd (by decide));have H_jap:=@wm5 P w K mg base T 3 (FnOk.mono H_jcd (by decide));have H_jcc:=@wj1 P w K mg base T 2 (FnOk.mono H_jaa (by decide)) (FnOk.mono H_jac (by decide)) (FnOk.mono H_gap (by decide));have H_jal:=@wm9 P w K mg base T 2 (FnOk.mono H_jaa (by decide)) (FnOk.mono H_jac (by decide)) (FnOk.mono H_gap (by decide));have H_jcm:=@wi3 P w K mg base T 4 (FnOk.mono H_jce (by decide)) (FnOk.mono H_jat (by decide)) (FnOk.mono H_jao (by decide)) (FnOk.mono H_jan (by decide)) (FnOk.mono H_jap (by decide)) (FnOk.mono H_jcc (by decide)) (FnOk.mono H_jal (by decide));have H_jae:=@wn6 P w K mg base T 0;have H_jad:=@wn7 P w K mg base T 1 (FnOk.mono H_jae (by decide));have H_jcf:=@wi8 P w K mg base T 1 (FnOk.mono H_jaa (by decide)) (FnOk.mono H_jac (by decide));have R_jck:∀dp,Ok P w mg base (5+2*dp) T.f_jck (ve1 dp):=by
  intro dp
  induction dp with
  | zero=>exact ww3 T
  | succ dp ih=>exact FnOk.mono (wi4 T (n:=5+2*dp+1) (dp:=dp) (wi5 T (n:=5+2*dp) (dp:=dp) (FnOk.mono H_jaa (by omega)) (FnOk.mono H_jad (by omega)) ih (FnOk.mono H_jby (by omega)) (FnOk.mono H_jcf (by omega))) (FnOk.mono H_jby (by omega)) (FnOk.mono H_jcm (by omega))) (by omega)
 have H_jck:Ok P w mg base 21 T.f_jck wt1:=R_jck 8;have H_jch:=@wi6 P w K mg base T 20 (FnOk.mono H_jab (by decide)) (FnOk.mono H_jck (by decide));have H_jbd:=@wl2 P w K mg base T 0;have H_jbj:=@wk7 P w K mg base T 1 (FnOk.mono H_jbd (by decide));have R_jbt:∀dp,Ok P w mg base (0+dp) T.f_jbt (ve2 dp):=by
  intro dp
  induction dp with
  | zero=>exact ww4 T
  | succ dp ih=>exact wj9 T (n:=0+dp) (dp:=dp) ih
 have H_jbt:Ok P w mg base 8 T.f_jbt w93:=R_jbt 8;have H_jbk:=@wk6 P w K mg base T 1 (FnOk.mono H_jbd (by decide));have H_jaz:=@wl6 P w K mg base T 2 (FnOk.mono H_jbd (by decide)) (FnOk.mono H_jbk (by decide));have R_jbo:∀dp,Ok P w mg base (8+2*dp) T.f_jbo (v30 dp):=by
  intro dp
  induction dp with
  | zero=>exact ww5 T
  | succ dp ih=>exact FnOk.mono (wk3 T (n:=8+2*dp+1) (dp:=dp) (FnOk.mono H_jbd (by omega)) (wk4 T (n:=8+2*dp) (dp:=dp) (FnOk.mono H_jbd (by omega)) (FnOk.mono H_jaz (by omega)) ih) (FnOk.mono H_jbt (by omega))) (by omega)
 have H_jbo:Ok P w mg base 24 T.f_jbo w94:=R_jbo 8;have H_jbq:=@wk2 P w K mg base T 1 (FnOk.mono H_jbd (by decide));have H_jbb:=@wl4 P w K mg base T 1 (FnOk.mono H_jbd (by decide));have H_jbc:=@wl3 P w K mg base T 2 (FnOk.mono H_jbd (by decide)) (FnOk.mono H_jbb (by decide));have H_jbs:=@wk0 P w K mg base T 2 (FnOk.mono H_jbk (by decide));have H_jbl:=@wk5 P w K mg base T 0;have R_jbe:∀dp,Ok P w mg base (1+dp) T.f_jbe (v31 dp):=by
  intro dp
  induction dp with
  | zero=>exact ww6 T
  | succ dp ih=>exact wl1 T (n:=1+dp) (dp:=dp) (FnOk.mono H_jbl (by omega)) ih
 have H_jbe:Ok P w mg base 9 T.f_jbe wu7:=R_jbe 8;have H_jba:=@wl5 P w K mg base T 9 (FnOk.mono H_jbe (by decide));have H_jai:=@wn2 P w K mg base T 0;have H_jak:=@wn0 P w K mg base T 0;have H_jag:=@wn4 P w K mg base T 0;have H_jaf:=@wn5 P w K mg base T 0;have H_jaw:=@wl9 P w K mg base T 0;have H_jaj:=@wn1 P w K mg base T 1 (FnOk.mono H_jaf (by decide)) (FnOk.mono H_jaw (by decide));have H_jbx:=@wj6 P w K mg base T 0;have H_jcg:=@wi7 P w K mg base T 0;have H_jar:=@wm3 P w K mg base T 1 (FnOk.mono H_jbx (by decide)) (FnOk.mono H_jcg (by decide));have H_jah:=@wn3 P w K mg base T 2 (FnOk.mono H_jaj (by decide)) (FnOk.mono H_jaw (by decide)) (FnOk.mono H_jar (by decide));have H_jcn:=@wi2 P w K mg base T 0;have H_jcb:=@wj2 P w K mg base T 2 (FnOk.mono H_jai (by decide)) (FnOk.mono H_jak (by decide)) (FnOk.mono H_jag (by decide)) (FnOk.mono H_jah (by decide)) (FnOk.mono H_jaf (by decide)) (FnOk.mono H_jaj (by decide)) (FnOk.mono H_jcn (by decide));have H_jbr:=@wk1 P w K mg base T 4 (FnOk.mono H_jcb (by decide));have H_jaq:=@wm4 P w K mg base T 0;have H_jam:=@wm8 P w K mg base T 0;have H_jbw:=@wj7 P w K mg base T 0;have H_jay:=@wl7 P w K mg base T 1 (FnOk.mono H_jaq (by decide)) (FnOk.mono H_jam (by decide)) (FnOk.mono H_jbw (by decide));have H_jax:=@wl8 P w K mg base T 1 (FnOk.mono H_jaq (by decide));have H_jav:=@wm0 P w K mg base T 0;have H_jas:=@wm2 P w K mg base T 2 (FnOk.mono H_jay (by decide)) (FnOk.mono H_jax (by decide)) (FnOk.mono H_jav (by decide));have H_jbv:=@wj8 P w K mg base T 0;have H_jbg:=@wl0 P w K mg base T 1 (FnOk.mono H_jbv (by decide));have H_jbh:=@wk9 P w K mg base T 3 (FnOk.mono H_jas (by decide)) (FnOk.mono H_jbv (by decide)) (FnOk.mono H_jbg (by decide));have H_jbi:=@wk8 P w K mg base T 3 (FnOk.mono H_jbd (by decide)) (FnOk.mono H_jaz (by decide));have H_law:=@wi1 P w K mg base T 24 (FnOk.mono H_jch (by decide)) (FnOk.mono H_jbd (by decide)) (FnOk.mono H_jbj (by decide)) (FnOk.mono H_jbt (by decide)) (FnOk.mono H_jbo (by decide)) (FnOk.mono H_jbq (by decide)) (FnOk.mono H_jbc (by decide)) (FnOk.mono H_jbs (by decide)) (FnOk.mono H_jba (by decide)) (FnOk.mono H_jbr (by decide)) (FnOk.mono H_jbh (by decide)) (FnOk.mono H_jbi (by decide));exact H_law
theorem walk{l:W.OpenLaw}{q:Program}{loose:List Str}{XP:(Str->Option Value)->Heap->Prop}{YP:World->Heap->Prop}{d:DefRec}{K:Params->W.Frag}(hn:l.most=some 63)(hdf:d.params.defaults=[])
  (hY:∀(w:World) (h:Heap),YP w h->(K w.params).In h) (hL:∀w:World,noL (K w.params)=true)
  (F:∀(w:World) (mg:Str->Option Value) (fa:Addr) (h:Heap),(K w.params).In h->h.Ns F9 mg->mg d.name=some (.ref fa)->∃T:Txt (K w.params) mg,∀(s:Shared) (v:Value),B06 s T.f_law.fd ⟨[v],[]⟩ [("_law_script",v)]) (hdn:d.name = "law" := by rfl) :
  W.WalkO q loose XP YP l.row.toRowW d [] (λf vs=>B70 f vs):=by
 refine L2.walk_of (n:=63) (k:=25) (x := "_law_script") (CX:=λ_=>CX0) (sp:=λw=>ua9 (K w.params) vp4) hn (by decide) hdf ⟨rfl,by decide,by decide⟩ hY (λw mg fa h hK hN hm=>?_) (λw H a ns hl hO hS=>wo8 (hL w) hl hO hS) λ_ _ _ _ _ z=>z
 obtain⟨T,hb⟩:=F w mg fa h hK hN hm;rw[hdn] at hm;have e:=hm.symm.trans T.g_law;cases e;exact⟨T.f_law.fd,hb,λbase _ _=>ws7 T⟩
end Law
end
namespace PySem.W.Fast
def tw362929422125346192:=0
def tw2632665667803645769:=0
def tw5857919852041501014:=0
def tw10691732473967500902:=0
def tw1043651325510472192:=0
def tw8739361667321692395:=0
def tw15853546062644666215:=0
def tw8947780530783810299:=0
def tw5937506568522609933:=0
def tw4399476479143071848:=0
def tw9276613753707051329:=0
def tw12847745048395864641:=0
def tw9591810553183971480:=0
def tw241498953423023709:=0
def tw15236574053621511739:=0
def tw2556229359928125581:=0
def tw12823994855951608046:=0
def tw3819405736019833445:=0
def tw15984442663996555470:=0
def tw14439806095763458621:=0
def tw7249998867134142891:=0
def tw5861849399862322079:=0
def tw13808617754462860535:=0
def tw9810326723376999295:=0
def tw3954928702520864848:=0
def tw4705482522190359376:=0
def tw10898208849858995040:=0
def tw5683058245871422050:=0
def tw3264185677191590545:=0
def tw15538585489125909054:=0
def tw6540232655005884131:=0
def tw808920527419169219:=0
def tw16232552200944415991:=0
def tw16270959372580975972:=0
def tw2505203532128856537:=0
def tw11268110717303907893:=0
def tw10413402163454159505:=0
def tw9854819564367677220:=0
def tw386540658329646448:=0
def tw16013371163239804919:=0
def tw2413130283336435400:=0
def tw9227317195480399361:=0
def tw11693681673072988164:=0
def tw3712468881625296450:=0
def tw8448510561421057414:=0
def tw8758539256869858366:=0
def tw544617421987497144:=0
def tw3972531217936953013:=0
def tw7079099052143427646:=0
def tw10291023470958013296:=0
def tw4437082736563242696:=0
def tw10198285202887417500:=0
def tw14875195809197753948:=0
def tw3295296542349886185:=0
def tw17658662331543033156:=0
def tw14144520526406772174:=0
def tw9025699482390459192:=0
def tw13403985841771958633:=0
def tw1554069884552109785:=0
def tw13622601840914956382:=0
def tw6888992187143541648:=0
def tw8526184572029644893:=0
def tw3746071819424942455:=0
def tw13907153458019206417:=0
def tw18237706207881108568:=0
def tw998116157132829079:=0
def tw7309145720167215878:=0
def tw2670975051195522554:=0
def tw10121170224067095905:=0
def tw11676066376392741632:=0
def tw17373454570900019598:=0
def tw2011213822806504067:=0
def tw6523035927889599428:=0
def tw4693029795902394615:=0
def tw13540516607836628962:=0
def tw13799742194837626762:=0
def tw6913292393803080722:=0
def tw15835645093748400004:=0
def tw5150104209755275716:=0
def tw11457138388738032696:=0
def tw57320069352707596:=0
def tw1587415960470406649:=0
def tw15831598381950796824:=0
def tw18347587827016913413:=0
def tw16433158299975992497:=0
def tw3057885222835109357:=0
def tw15348239060693127973:=0
def tw15183316671361442241:=0
def tw3931485401252726202:=0
def tw15030384779192187340:=0
def tw4335215300885076980:=0
def tw3888885807891831077:=0
def tw17323894133353843851:=0
def tw16523019131255328636:=0
def tw1812524642096195135:=0
def tw12577479644592837641:=0
def tw7294849218874855518:=0
def tw16184430289406344515:=0
def tw4051521961839765741:=0
def tw9970672569874116611:=0
def tw5080788469114562065:=0
def tw17770813355960139911:=0
def tw6330416278171007909:=0
def tw18349859056071374446:=0
def tw12415952289417425289:=0
def tw13804931965263166192:=0
def tw18213499493499476157:=0
def tw13677419107402972740:=0
def tw4815803535227854143:=0
def tw15147119617991878232:=0
def tw9739887147052673003:=0
def tw13491598476812224178:=0
def tw7633863744206879809:=0
def tw17196577074266056472:=0
def tw7621344693050408039:=0
def tw10021451128871489956:=0
def tw18388621230080186553:=0
def tw12294639434382047067:=0
def tw789769721254216530:=0
def tw8252061774811277671:=0
def tw12647464671397037755:=0
def tw6025305237127851876:=0
def tw8342792224262562736:=0
def tw18417537474910587850:=0
def tw9703114769230347155:=0
def tw12529983213254848484:=0
def tw7160397408349766014:=0
def tw7821978163169317318:=0
def tw10866708019159125466:=0
def tw6093237572680237842:=0
def tw17737283131996585860:=0
def tw7469102146464905615:=0
def tw18400332398116652820:=0
def tw4351199511265043226:=0
def tw11069660227275023240:=0
def tw9629152785531453968:=0
def tw3717475144029097454:=0
def tw2733876530714660505:=0
def tw5113778774935139301:=0
def tw7789780128769410609:=0
def tw4252346027753087970:=0
def tw5776556513576660927:=0
def tw10622784521205836568:=0
def tw11058473263116479807:=0
def tw1758134112103562459:=0
def tw3414180746999549563:=0
def tw8724287770831770102:=0
def tw5692391477438728201:=0
def tw6595851205877591638:=0
def tw2322927007164553191:=0
def tw13843128768988729640:=0
def tw16021878106529449152:=0
def tw12297581827208272841:=0
def tw18424128952395417826:=0
def tw3859620234683873667:=0
def tw9068976588147081158:=0
def tw17730328404851471308:=0
def tw9073204286220904732:=0
def tw11252080898804087698:=0
def tw8987695342360182437:=0
def tw14735830008954418492:=0
def tw11454772985947214756:=0
def tw15283464328766882551:=0
def tw8826898941634185382:=0
def tw17054161498305900932:=0
def tw11200162759953616346:=0
def tw17182466531478135429:=0
def tw7598015724642494905:=0
def tw6197925320361126500:=0
def tw6668846987415809023:=0
def tw11809772899212472154:=0
def tw8120875840265252521:=0
def tw8810036725386336862:=0
def tw11534867383270790897:=0
def tw3496213890358198089:=0
def tw319218446557597370:=0
def tw1415089952774526195:=0
def tw3678864226491259511:=0
def tw15037391986361932001:=0
def tw4875998611113278479:=0
def tw15965307351431116356:=0
def tw6355565098447644739:=0
def tw17191401955289270480:=0
def tw10383479625003493779:=0
def tw4249863838762043669:=0
def tw7701272969463658890:=0
def tw3757186879809159936:=0
def tw16891220556591873566:=0
def tw18196592792237009462:=0
def tw13981592393124411049:=0
def tw4868321941966572641:=0
def tw3783030797344641895:=0
def tw11638550397055182781:=0
def tw202433201102968274:=0
def tw12627067811112807155:=0
def tw15651579799171191296:=0
def tw12646975286233550408:=0
def tw2482195708143787947:=0
def tw16019128475893092630:=0
def tw9735338053288570991:=0
def tw116120831217217357:=0
def tw16003563641248187525:=0
def tw9517652481135612127:=0
def tw6364399266381599302:=0
def tw11069822275980670436:=0
def tw16433046866592798604:=0
def tw13710852947479633862:=0
def tw17678551578385342165:=0
def tw15152402432861792276:=0
def tw7636318071731794944:=0
def tw8701705304572266245:=0
def tw8482457015067379171:=0
def tw2898780465142601084:=0
def tw8980167965994557557:=0
def tw1109609777110190221:=0
def tw4703234777251374371:=0
def tw9373006749425337017:=0
def tw18002771201567968155:=0
def tw6893305828464836802:=0
def tw8185680404494439182:=0
def tw16695104801369653846:=0
def tw15011009763830968337:=0
def tw4316435279393153965:=0
def tw6888694572980806664:=0
def tw5664003065512315543:=0
def tw11526663964898203050:=0
def tw10800379441459784505:=0
def tw4145438320376502098:=0
def tw14711439709391233991:=0
def tw5803691998480564294:=0
def tw12989538605416455397:=0
def tw16954452568020190451:=0
def tw11161578699513030568:=0
def tw203411520284682592:=0
def tw8879280865409553577:=0
def tw7074465386490047527:=0
def tw12108355885666046437:=0
def tw8003593951014874405:=0
def tw12376939614843920767:=0
def tw16059354616634537968:=0
def tw12328998455976524022:=0
def tw6006676061373576888:=0
def tw299514295451079128:=0
def tw6452125263792907592:=0
def tw8412468565263998556:=0
def tw689154958215211273:=0
def tw2508391145709757023:=0
def tw2319655047861056336:=0
def tw17878398169827576849:=0
def tw12652247468359038863:=0
def tw3888236185717861667:=0
def tw8078888707851222393:=0
def tw3286252573198054912:=0
def tw11848946011107451443:=0
def tw9678854527785048921:=0
def tw11669477115817542614:=0
def tw2067291360803219416:=0
def tw1161212858135886189:=0
def tw18206174539076661497:=0
def tw14382599543132470277:=0
def tw13317950833188062190:=0
def tw3295567717167208087:=0
def tw9002258129229979799:=0
def tw13483839378655984598:=0
def tw10695767560451990450:=0
def tw5665752163014053411:=0
def tw5014386771945056650:=0
def tw808591439160086671:=0
def tw5788033836542047732:=0
def tw11087641217429971397:=0
def tw34216553285258120:=0
end PySem.W.Fast
open PySem PySem.W PyProof.Rows
local macro_rules | `(tactic| ac_rfl) => `(tactic| (refine' Law.df_m ?a ?b ?c ?d; (case a => k_is); (case b => k_is); (case c => k_is); (case d => k_is)))
local macro_rules | `(tactic| bv_omega) => `(tactic| (refine' Law.dm_m ?a ?b ?c ?d ?e; (case a => k_is); (case b => k_is); (case c => k_is); (case d => k_is); (case e => k_is)))
set_option maxHeartbeats 0 in
theorem PySem.Challenge.cw_nolitter_k24_whole_any_pieces_woven_holds : PySem.Challenge.rw_nolitter_k24_whole_any_pieces_woven.Holds := by
 w_on; o_law; k_head; (case hw => w_witness2)
 k_fill
 refine Law.walk (l := PySem.Challenge.rw_nolitter_k24_whole_any_pieces_woven) rfl rfl (fun w h Y => PySem.W.kIn_of Y) ?L ?F
 case L => exact fun w => rfl
 case F =>
  intro w mg fa h KX G hmg
  refine' Law.txt_mk KX G ?aC_Loom ?aC_Ride ?pm_1 ?pm_0 ?pm_2 ?pm_3 ?pm_4 ?pm_54 ?pm_56 ?pm_55 ?pm_47 ?pm_57 ?pm_51 ?pm_19 ?pm_20 ?pm_14 ?pm_13 ?pm_15 ?pm_50 ?pm_49 ?pm_11 ?pm_52 ?pm_18 ?pm_16 ?pm_12 ?pm_45 ?pm_24 ?pm_23 ?pm_21 ?a_8 ?i_8 ?l_8 ?c_8 ?k_8 ?dl_Ride_init ?ds_Ride_init ?pm_10 ?pm_6 ?pm_7 ?pm_5 ?pm_9 ?pm_22 ?pm_17 ?pm_46 ?pm_53 ?pm_48 ?pm_58 ?pm_30 ?pm_35 ?pm_36 ?pm_26 ?pm_38 ?pm_43 ?pm_39 ?pm_40 ?pm_28 ?pm_29 ?pm_42 ?pm_44 ?pm_37 ?pm_31 ?pm_27 ?pm_41 ?pm_32 ?pm_33 ?pm_34 ?pm_25 ?pg_Loom ?hd_Loom ?po_Loom ?sa_Loom ?mk_Loom ?kc_Loom ?n_Loom_wide ?n_Loom_fresh ?n_Loom_rows ?n_Loom_steps ?pg_Ride ?hd_Ride ?po_Ride ?sa_Ride ?mk_Ride ?kc_Ride ?n_Ride_rows ?n_Ride_held ?n_Ride_spot ?v_BELOW_NOUGHT ?v_NUMBERS ?v_BITS ?b_abs ?b_all ?b_bool ?b_dict ?b_divmod ?b_enumerate ?b_int ?b_isinstance ?b_len ?b_list ?b_min ?b_range ?b_str ?b_tuple ?b_zip
  (case aC_Loom => k_is)
  (case aC_Ride => k_is)
  (case pm_1 => bv_omega)
  (case pm_0 => bv_omega)
  (case pm_2 => bv_omega)
  (case pm_3 => bv_omega)
  (case pm_4 => bv_omega)
  (case pm_54 => ac_rfl)
  (case pm_56 => ac_rfl)
  (case pm_55 => ac_rfl)
  (case pm_47 => ac_rfl)
  (case pm_57 => ac_rfl)
  (case pm_51 => ac_rfl)
  (case pm_19 => ac_rfl)
  (case pm_20 => ac_rfl)
  (case pm_14 => ac_rfl)
  (case pm_13 => ac_rfl)
  (case pm_15 => ac_rfl)
  (case pm_50 => ac_rfl)
  (case pm_49 => ac_rfl)
  (case pm_11 => ac_rfl)
  (case pm_52 => ac_rfl)
  (case pm_18 => ac_rfl)
  (case pm_16 => ac_rfl)
  (case pm_12 => ac_rfl)
  (case pm_45 => ac_rfl)
  (case pm_24 => ac_rfl)
  (case pm_23 => ac_rfl)
  (case pm_21 => ac_rfl)
  (case a_8 => k_is)
  (case i_8 => k_is)
  (case l_8 => k_is)
  (case c_8 => k_is)
  (case k_8 => k_is)
  (case dl_Ride_init => k_is)
  (case ds_Ride_init => exact rfl)
  (case pm_10 => bv_omega)
  (case pm_6 => bv_omega)
  (case pm_7 => bv_omega)
  (case pm_5 => bv_omega)
  (case pm_9 => bv_omega)
  (case pm_22 => ac_rfl)
  (case pm_17 => ac_rfl)
  (case pm_46 => ac_rfl)
  (case pm_53 => ac_rfl)
  (case pm_48 => ac_rfl)
  (case pm_58 => ac_rfl)
  (case pm_30 => ac_rfl)
  (case pm_35 => ac_rfl)
  (case pm_36 => ac_rfl)
  (case pm_26 => ac_rfl)
  (case pm_38 => ac_rfl)
  (case pm_43 => ac_rfl)
  (case pm_39 => ac_rfl)
  (case pm_40 => ac_rfl)
  (case pm_28 => ac_rfl)
  (case pm_29 => ac_rfl)
  (case pm_42 => ac_rfl)
  (case pm_44 => ac_rfl)
  (case pm_37 => ac_rfl)
  (case pm_31 => ac_rfl)
  (case pm_27 => ac_rfl)
  (case pm_41 => ac_rfl)
  (case pm_32 => ac_rfl)
  (case pm_33 => ac_rfl)
  (case pm_34 => ac_rfl)
  (case pm_25 => ac_rfl)
  (case pg_Loom => k_is)
  (case hd_Loom => k_is)
  (case po_Loom => k_is)
  (case sa_Loom => k_is)
  (case mk_Loom => k_is)
  (case kc_Loom => k_is)
  (case n_Loom_wide => k_is)
  (case n_Loom_fresh => k_is)
  (case n_Loom_rows => k_is)
  (case n_Loom_steps => k_is)
  (case pg_Ride => k_is)
  (case hd_Ride => k_is)
  (case po_Ride => k_is)
  (case sa_Ride => k_is)
  (case mk_Ride => k_is)
  (case kc_Ride => k_is)
  (case n_Ride_rows => k_is)
  (case n_Ride_held => k_is)
  (case n_Ride_spot => k_is)
  (case v_BELOW_NOUGHT => k_is)
  (case v_NUMBERS => k_is)
  (case v_BITS => k_is)
  (case b_abs => k_is)
  (case b_all => k_is)
  (case b_bool => k_is)
  (case b_dict => k_is)
  (case b_divmod => k_is)
  (case b_enumerate => k_is)
  (case b_int => k_is)
  (case b_isinstance => k_is)
  (case b_len => k_is)
  (case b_list => k_is)
  (case b_min => k_is)
  (case b_range => k_is)
  (case b_str => k_is)
  (case b_tuple => k_is)
  (case b_zip => k_is)
