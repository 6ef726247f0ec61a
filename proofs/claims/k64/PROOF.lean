import PyProof.Rows.All
import Wide.All
import OpenK.AllK
import Wide.FinOn
import Lean
import PyProof.EqAt
import PyProof.EqKinds
import PyProof.TupleCall
import KE.KIntText
import KE.KRevSl
import PyProof.Rows.SeqMore
import PyProof.WalkInts
import PyProof.Rows.MinMaxN
import PyProof.ExcInit
import OpenK.KMake
import PyProof.InstStoreFacts
import PyProof.FString2
import PyProof.Rows.FStr
import PyProof.Rows.SetFrom
import PyProof.SeqRoads2
import PyProof.RangeFor
import PyProof.WalksMore
import PyProof.StrBlock2
import PyProof.Rows.SortShell
import PyProof.TupleOfSeq
import KE.KDictList
import KE.KDictOf
import PyProof.IsiH_tuple
import PyProof.Rows.RuleN_abs
import PyProof.Rows.Range3
import KE.KRevIter
import PyProof.StrLawsRepr
import PyProof.ReprStr
import PyProof.IsiH_list
import PyProof.Rows.TupDisplay
import PyProof.Rows.SortRuns
import PyProof.Rows.SortKey
import PyProof.Rows.SortShellK
import KE.KSortTup
import PySem.Challenge.RW_chordbed_k64_whole_clear_or_twofold
set_option compiler.extract_closed false
set_option genSizeOf false
set_option genInjectivity false
set_option Elab.async false
set_option linter.all false
set_option maxRecDepth 100000
local macro_rules|`(tactic|exists $e)=>`(tactic|with_reducible apply $e)|`(def $i:declId $s:optDeclSig $v:declVal)=>`(noncomputable def $i:declId $s:optDeclSig $v:declVal)|`(abbrev $i:declId $s:optDeclSig $v:declVal)=>`(noncomputable abbrev $i:declId $s:optDeclSig $v:declVal)
local macro_rules|`(tactic|omega)=>`(tactic|lia)
open Option renaming some->lD,none->Ld,map_eq_some_iff->Qz,isSome_iff_exists->Q3,isSome_map->RA,map_eq_none_iff->Ug,getD_some->Vh,map_some->Vv,isSome_some->Xl,map->Xp,getD_none->Yb
open PySem renaming wpAny_bind->Bn,Value->OW,wpAny_pure->OY,PyData->O9,Shared->Pa,Addr->Pc,sizeLine->Po,Program->PF,Around->PX,mainGlobals->P7,wpAny_newObj_type->P8,NameKind->Qa,World->Qc,Expr->Qn,bootBuiltins->Qx,starEach->Qy,wpAny_holding->QL,wpAny_call_entry->QM,sysModules->QO,wpAny_dictEntries->QP,FuncData->QR,wpAny_callSpecial?_slot->QS,DictEntry->QT,builtinLookup_eq_fast->Q8,compareOp->Rf,binaryOp->Ri,mem_of_lookup->Rj,swapsWith->Rm,plainId_quiet->Rv,cellsFrom->Ry,wpAny_isInstance->Rz,wpAny_notOrdered_dict->RB,wpAny_truthy_bool->RH,Reads->RO,wpAny_typeNameOfWhole_valiter->RU,wpAny_typeNameOfWhole_keyiter->RY,wpAny_typeOf->RZ,wpAny_passesOwn->Sa,typeLookup_type->Sd,codeAny_builtin->Se,wpAny_dictEpoch->Sf,Stmt->Sl,ReadsAll->Sx,noFill_tuple_add->SE,wpAny_typeNameOf_valiter->SN,wpAny_ite_split->SS,wpAny_Call_Name_kw->SY,call_meets->S0,wpAny_tryCatch->Ta,PassesOwn->Ti,seq_tuple_add->Tq,wpAny_field->Tr,Scope->TK,typeIs_int->T1,tupleKind_room_in1->T3,wpAny_seqItems->T4,wpAny_of_eq->Uk,wpAny_letGo->Ul,IsPart->Uq,wpAny_attempt->Ut,wpAny_rule->UJ,wpAny_inplaceOp_concat->UK,wpAny_execs_nil->UP,wpAny_specialOf->UR,wpAny_updateSeq->US,wpAny_pyIter_tuple->UU,wpAny_isOneOf_valiter->UW,wpAny_pyIter_list->Va,wpAny_fieldsOf->Vc,wpAny_setField->Vd,BindsTo->Vg,Result->Vy,wpAny_getItem_heap->VA,wpAny_tupleItemsOf->VB,GenState->VT,Keyword->VU,wpAny_sequenceKey->VW,eqIsQuiet_byValue->VX,sizeLine_eq->Wv,pushCells_keeps->WE,ItemsOf->WH,wpAny_richCompare_same_room->WV,typeIs_str->W3,callType_codes->W4,wpAny_binaryOp_repeat_ref->Xm,evalPart_none->XJ,codeAny_mono->Yl,concat_meets->Ym,wpAny_Assign_Subscript->Yo,call_meetsIn->Yp,wpAny_isTrue_Compare1->Y3,isSubtype_tuple_tuple->Y4,wpAny_isOneOf_keyiter->Y6,wpAny_loadName_local->Zn,codeAny_call_builtin->Zo,wpAny_loadName_cell->ZT,wpAny_Name->aad,wpAny_load->aaf,wpAny_setItem_heap->aai,call_function_tree->aaj,Drawn->aaS,slot_list_getitem->aaT,OsState->aaU,wpAny_Call_method->aaV,richCompare_gives->aaW,wpAny_pyIter_slot->aaX,wpAny_pyHash_int->abo,wpAny_pyHash_str->abp,wpAny_execs_cons->abq,call->abu,beq_builtin_none->abx,wpAny_forIn_list->aby,kt_code_dict_new->abz,wpAny_Compare1->ado,isSubtype_type->adw,isSubtype_stop->adx,intBits_le_64->ae3,call_list_seq->ae4,wpAny_handled->ae5,wpAny_newList->ae7
open PySem.W renaming Frag->OK,mg_none_of->Qt,nsIn->Qv,findIn->Q5,keepIn->RF,fnOf->Sb,kia_one->Sv,cellsFrom_some->SF,codeIn->Uo,methodObj->UT,isFn->Wh,pyHash_slot->WU,hasDictIn->Xi,plainOver->Xj,specialIn->Xk,plainGet->XI,instObj->X8,makesIn->X9,OpenLaw->Yc,kitOne->Yn,mg_of->Y5
open List renaming length_map->OX,length_append->OZ,getElem?_eq_some_iff->O0,map_cons->Pd,replicate->Pe,length_cons->Pf,getElem?_map->Pg,mem_singleton->Pk,mem_cons_of_mem->Pl,size_toArray->Pm,mem_map->Pn,getElem?_eq_getElem->Pq,mem_cons_self->Pr,mem_of_getElem?->Pu,mem_append->Pw,length_replicate->Px,mem_cons->Py,getElem?_append_left->Pz,map_append->PB,getElem?_append_right->PH,find?_cons->PL,mem_append_right->PM,append_assoc->PR,append_nil->PY,length_range->PZ,range->P9,map_nil->Qe,map_map->Qf,pairwise_append->Qg,length_take->Qj,all_eq_true->Qk,length_singleton->Qm,replicate_succ->Qp,nodup_cons->Qr,mem_append_left->Qs,lookup_cons->Qw,drop_eq_getElem_cons->QA,mem_filterMap->QB,take_of_length_le->QC,mem_filter->QD,length_drop->QE,take_length->QF,filter_cons->QG,take_append_drop->QH,getElem?_set->QI,zip_cons_cons->QN,getElem?_cons_succ->QQ,take_succ_eq_append_getElem->QU,length_reverse->QW,length->QY,length_set->QZ,length_nil->Q0,pairwise_iff_getElem->Q1,getElem_mem->Q4,mem_range->Q9,drop_left->Rb,reverse_cons->Rh,drop_eq_nil_of_le->Rn,pairwise_cons->Rt,getElem?_take_of_lt->RE,filterMap_cons->RG,getElem_of_mem->RI,getElem?_replicate->RJ,getElem?_set_self->RM,getElem_range->RN,flatten_cons->R0,find?_isSome->R8,getElem?_set_ne->Sh,getD_eq_getElem?_getD->Si,nodup_nil->Sj,Nodup->Sk,reverse_append->Sw,length_eq_zero_iff->SG,ext_getElem?->SU,nodup_append->SW,pairwise_map->SX,mem_iff_getElem?->S2,getElem?_eq_none->S3,not_mem_nil->S7,any_cons->S9,map_take->Tc,mem_of_mem_take->Te,getElem?_drop->Tx,find?_eq_none->Tz,map_drop->TV,getElem?_cons_zero->T8,eraseIdx_cons_succ->T9,map_snd_zip->Ua,getElem_map->Ub,append_cancel_left->Uc,map_reverse->Ud,mem_reverse->Ue,mem_flatMap->Uh,foldl->Uj,foldl_cons->Ur,nil_append->Us,length_filter_le->UB,perm_append_comm->UC,take_zero->UG,map_congr_left->UQ,set_cons_zero->U9,take_add_one->Vi,getElem_take->Vj,of_mem_zip->VP,forIn_cons->VQ,nodup_iff_pairwise_ne->V8,mem_of_find?_eq_some->Wi,pairwise_singleton->WK,length_pos_of_mem->WX,set_append_right->W5,filterMap_append->W7,mem_iff_getElem->Xn,mem_of_mem_drop->Xq,reverse_reverse->Xr,filter_sublist->XN,flatten_append->XO,filterMap_map->Ya,set_cons_succ->Yd,filterMap_nil->Ye,getElem_drop->Yq,foldl_append->Yt,flatMap_cons->Yv,map_fst_zip->Y7,cons_append->Y8,nodup_range->Y9,cons_ne_nil->Za,any_eq_true->Zb,drop_length->Zc,find?_some->Zr,forIn_nil->ZU,drop_zero->ZV,drop_drop->ZX,take_left->ZY,take_nil->aak,map_id'->aaY,range'->abA,map->ae8,set->ae9
open Nat renaming le_refl->O8,le_trans->Pp,lt_of_lt_of_le->PD,ne_of_lt->PU,le_of_ble_eq_true->P4,zero_le->Qb,lt_irrefl->Qq,le_of_lt->QJ,lt_succ_self->Q6,ne_of_gt->RD,le_of_not_lt->RL,lt_trans->RP,add_sub_cancel_left->SK,lt_succ_of_lt->S1,zero_add->Ts,sub_self->Tu,lt_of_le_of_lt->TC,mul_le_mul->TF,le_of_succ_le->TU,add_sub_cancel->Ve,min_le_right->Vz,min_eq_right->VC,le_add_right->VD,min_eq_left->V0,add_assoc->WG,not_lt_of_lt->Zp,succ_mul->abt,le_of_eq->abv,sub_zero->abw,le_succ->acF
open Bool renaming true->Pb,false->Ph,false_eq_true->Pj,false_ne_true->Pt,and_eq_true->PN,not_true->Q7,true_and->Sy,false_and->Tw,and_false->V6,not_false->V7,bne_true->Ww,true_or->WT,bne_false->ZW,or_false->aag,false_or->aah
open Array renaming length_toList->PJ,getElem?_toList->Ql,toList_append->Qo,perm_iff_toList_perm->Sg,toList_push->SQ,toList_reverse->Tb,getElem?_eq_getElem->TH,isEmpty_iff->Vb,eq_empty_of_size_eq_zero->Vo,isEmpty_eq_false_iff->VY,getElem?_eq_none->WI,getElem_extract->WW,forIn_toList->XM,toList_zip->Yr,toList_map->Ys,all_toList->Yu,size_map->Zq,toList->aae
open Option.some renaming inj->PK,injEq->UD
open Int renaming emod_nonneg->P0,emod_lt_of_pos->P6,toNat_natCast->QK,ediv_nonneg->RT,ediv_one->abr,lt_trans->abC,le_refl->acE
open PyProof.Rows renaming slot_tuple_getitem->Qd,envOfC->Qu,callWith_type1->RK,callWith_builtin1->acD
open PySem.F renaming args_tuple_add_2->Q2,entry_tuple_add->Ra,slot_tuple_add->Rk,slot_list_append->Sn,type_list_append->Sq,plainAttrs_dict->Sz,plainAttrs_list->SA,slot_dict_getitem->Tt,slot_dict_values->TJ,type_dict_values->VZ,slot_dict_get->Wx,slot_dict_pop->Wz,slot_dict_ne->WJ
open List.cons renaming inj->Sm,injEq->Xo
open List.Pairwise renaming nil->V5,imp_of_mem->abD
open Array.Perm renaming refl->W6,trans->ae6
open PySem.PassesOwn renaming never->aal
open PySem.W.Looks renaming ld->abB
open PySem.SeqAt renaming compareEq_reads->adp,compareNe_reads->adq,in_list_reads->ads,in_tuple_reads->adt,notIn_list_reads->adu,notIn_tuple_reads->adv
open PySem.IsL renaming update->agi
open List.Perm renaming append_left->agj,append_right->agk
namespace L2
open PySem PySem.Spec PyProof.Rows
abbrev bT:=Sum Int Str
def rV:bT->OW->Bool
 | .inl k,v=>OW.isInt k v
 | .inr x,v=>OW.isStrOf x v
def NS (w:Qc):bT->Int
 | .inl k=>hashInt k
 | .inr x=>hashStr w x
theorem cu:∀{k:bT} {v:OW},rV k v=Pb->(∃i t,k=Sum.inl i/\v=OW.int i t)\/(∃x t,k=Sum.inr x/\v=OW.str x t)
 | .inl i,v,h=>by obtain⟨t,e⟩:=OW.isInt_shape h;exact .inl ⟨i,t,rfl,e⟩
 | .inr x,v,h=>by obtain⟨t,e⟩:=OW.isStrOf_shape h;exact .inr ⟨x,t,rfl,e⟩
theorem Bp (i:Int) (t:Tok):rV (.inl i) (.int i t)=Pb:=by simp[rV,OW.isInt]
theorem BN (x:Str) (t:Tok):rV (.inr x) (.str x t)=Pb:=by simp[rV,OW.isStrOf]
theorem Jo (a b:Int):decide ((Sum.inl a:bT)=Sum.inl b)=(a==b):=by
 by_cases e:a=b
 .subst e;simp
 .have h:¬(Sum.inl a:bT)=Sum.inl b:=fun q=>e (Sum.inl.inj q);rw[decide_eq_false h];exact(beq_eq_false_iff_ne.mpr e).symm
theorem JC (a b:Str):decide ((Sum.inr a:bT)=Sum.inr b)=decide (a=b):=by
 by_cases e:a=b
 .subst e;simp
 .have h:¬(Sum.inr a:bT)=Sum.inr b:=fun q=>e (Sum.inr.inj q);rw[decide_eq_false h,decide_eq_false e]
theorem J5 (a:Int) (b:Str):decide ((Sum.inl a:bT)=Sum.inr b)=Ph:=decide_eq_false (fun q=>nomatch q)
theorem K5 (a:Str) (b:Int):decide ((Sum.inr a:bT)=Sum.inl b)=Ph:=decide_eq_false (fun q=>nomatch q)
def cK (prog:PF) (w:Qc):PySem.KeyKind prog w bT where
 is:=rV
 hash:=NS w
 inj:=fun v a b ha d=>by
  rcases cu ha with⟨i,t,rfl,rfl⟩|⟨x,t,rfl,rfl⟩
  .rcases cu d with⟨j,u,rfl,e⟩|⟨y,u,rfl,e⟩
   .injection e with e1 _;rw[e1]
   .exact nomatch e
  .rcases cu d with⟨j,u,rfl,e⟩|⟨y,u,rfl,e⟩
   .exact nomatch e
   .injection e with e1 _;rw[e1]
 byValue:=fun k v h=>by rcases cu h with⟨i,t,rfl,rfl⟩|⟨x,t,rfl,rfl⟩<;>rfl
 pyHash:=fun c h=>by
  rcases cu c with⟨i,t,rfl,rfl⟩|⟨x,t,rfl,rfl⟩
  .exact abo h
  .exact abp h
 eqBool:=fun f c h=>by
  rcases cu f with⟨i,t,rfl,rfl⟩|⟨x,t,rfl,rfl⟩
  .rcases cu c with⟨j,u,rfl,rfl⟩|⟨y,u,rfl,rfl⟩
   .rw[Jo] at h;exact wpAny_eqBool_int h
   .rw[J5] at h;exact SeqAt.EqAt.int_str i t y u _ _ _ _ h
  .rcases cu c with⟨j,u,rfl,rfl⟩|⟨y,u,rfl,rfl⟩
   .rw[K5] at h;exact SeqAt.EqAt.str_int x t j u _ _ _ _ h
   .rw[JC] at h;exact wpAny_eqBool_str h
 «strs»:=fun k x t v h=>by
  rcases cu h with⟨i,u,rfl,e⟩|⟨y,u,rfl,e⟩
  .exact nomatch e
  .injection e with e1 _
   subst e1;cases v<;>rfl
theorem wq (prog:PF) (w:Qc) (i:Int) (t:Tok):(cK prog w).is (.inl i) (.int i t)=Pb:=Bp i t
theorem vo (prog:PF) (w:Qc) (x:Str) (t:Tok):(cK prog w).is (.inr x) (.str x t)=Pb:=BN x t
inductive V where
 |S4|bl (b:Bool)|int (i:Int)|str (x:Str)|byt (b:Array UInt8)|flt (b:UInt64)|ref (a:Pc)|ty (n:String)
 deriving DecidableEq
def RelV:V->OW->Prop
 | .S4,u=>u=OW.none
 | .bl b,u=>u=OW.bool b
 | .int i,u=>∃t,u=OW.int i t
 | .str x,u=>∃t,u=OW.str x t
 | .byt b,u=>∃t,u=OW.bytes b t
 | .flt b,u=>∃t,u=OW.float b t
 | .ref a,u=>u=OW.ref a
 | .ty n,u=>u=OW.type n
abbrev Vals:List V->List OW->Prop:=Paired RelV
theorem Vals.length (r:Vals xs us):xs.length=us.length:=Paired.length r
theorem Vals.get:∀{xs:List V} {a:List OW} {i:Nat} {x:V},Vals xs a->xs[i]? =lD x->∃u,a[i]? =lD u/\RelV x u
 |_,_,_,_,.nil,e=>by simp at e
 |_,_,0,_,.cons r _,e=>by simp at e;subst e;exact⟨_,rfl,r⟩
 |_,_,i+1,x,.cons _ t,e=>by obtain⟨u,h1,b⟩:=Vals.get t (by simpa using e);exact⟨u,by simpa using h1,b⟩
theorem Vals.append:∀{xs ys:List V} {a ws:List OW},Vals xs a->Vals ys ws->Vals (xs++ys) (a++ws)
 |_,_,_,_,.nil,s=>s
 |_,_,_,_,.cons r t,s=> .cons r (Vals.append t s)
theorem Vals.take:∀{xs:List V} {a:List OW} (n:Nat),Vals xs a->Vals (xs.take n) (a.take n)
 |_,_,0,_=> .nil
 |_,_,_+1,.nil=> .nil
 |_,_,n+1,.cons r t=> .cons r (Vals.take n t)
theorem Vals.drop:∀{xs:List V} {a:List OW} (n:Nat),Vals xs a->Vals (xs.drop n) (a.drop n)
 |_,_,0,r=>r
 |_,_,_+1,.nil=> .nil
 |_,_,n+1,.cons _ t=>Vals.drop n t
def UE:Option V->Option OW->Prop
 |some v,lD u=>RelV v u
 |none,Ld=>True
 |_,_=>False
def KV:List (κ×V)->List (κ×OW)->Prop:=Paired fun(p:κ×V) (q:κ×OW)=>p.1=q.1/\RelV p.2 q.2
def kV:bT->V
 | .inl i=> .int i
 | .inr x=> .str x
inductive HO where
 |lst (xs:List V)
 |tup (xs:List V)
 |dK (kvs:List (bT×V))|dT (kvs:List (List bT×V))
 |set (S:Int->Bool) (n:Nat)
 |ins (C dx:Pc) (fs:List (Str×V))
 |own (x:Pc)
 |xd (fs:List (Str×V))
 |met (f x:Pc)
 |rng (lo hi:Int)
 |frz (o:Obj) (u:HO)
 |tbl (ps:Array OW)
 |ext (φ:Heap->Prop)
 |exw (φ:Qc->Heap->Prop)
abbrev Hp:=Pc->Option HO
def upd (H:Hp) (a:Pc) (o:HO):Hp:=fun b=>if b=a then lD o else H b
theorem aD:upd H a o a=lD o:=by unfold upd;rw[if_pos rfl]
theorem aA (h:b≠a):upd H a o b=H b:=by unfold upd;rw[if_neg h]
theorem L0 {H:Hp} {a b:Pc} {o u:HO} (h:H a=lD o) (h':H b=lD u) (d:o≠u):a≠b:=by intro e;subst e;rw[h] at h';exact d (PK h')
theorem cF {H:Hp} (h:H a=lD o) (h':H b=Ld):a≠b:=by intro e;subst e;rw[h] at h';cases h'
def Vf (h:Heap) (a:Pc) (items:Array OW):Prop:=∃o,h.get? a=lD o/\(o.cls= .type "tuple"/\∃n,o.data= .seq items n)/\o.dict=Ld
theorem Vf.tup (x:Vf h a items):IsTup h a items:=let⟨o,e,c,_⟩:=x;⟨o,e,c⟩
theorem Vf.lt (x:Vf h a items):a<h.objs.size:=let⟨_,e,_⟩:=x;Heap.lt_size e
theorem Vf.new (h:Heap) (xs:Array OW):Vf (h.push {cls:= .type "tuple",data:= .seq xs}) h.objs.size xs:=⟨_,Heap.get?_push_size _ rfl,⟨rfl,_,rfl⟩,rfl⟩
section
variable (P:PF) (w:Qc)
def ObjOk (H:Hp) (h:Heap) (a:Pc):HO->Prop
 | .lst xs=>xs.length<=Po/\∃(b:List OW) (n:Nat),Vals xs b/\h.get? a=lD {cls:= .type "list",data:= .seq b.toArray n}
 | .tup xs=>xs.length<=Po/\∃b:List OW,Vals xs b/\Vf h a b.toArray
 | .dK kvs=>kvs.length<=Po/\(a==QO)=Ph/\∃vs,KV kvs vs/\h.DictOf (cK P w) a vs
 | .dT kvs=>kvs.length<=Po/\(a==QO)=Ph/\∃xs:List (List bT×Pc×OW),
   Paired (fun(p:List bT×V) (q:List bT×Pc×OW)=>p.1=q.1/\H q.2.1=lD (.tup (p.1.map kV))/\RelV p.2 q.2.2) kvs xs/\
   ∃o es ep,h.get? a=lD o/\o.ExactDict/\o.data= .dict es ep/\es.toList=xs.map (entryOfKey (tupleKind (cK P w)))/\(xs.map (·.1)).Nodup
 | .set S n=>h.SetOf (intKind P w) a S n
 | .ins C dx fs=>H dx=lD (.own a)/\fs.length<=1000/\dx≠a/\h.get? a=lD (X8 C dx)/\
   ∃mA,h.Ns1 dx mA/\(∀f,UE (fs.lookup f) (mA f))/\PySem.Within mA (fs.map (·.1))
 | .own _=>∃o,h.get? a=lD o
 | .xd fs=>∃mA,h.Ns1 a mA/\∀f,UE (fs.lookup f) (mA f)
 | .rng lo hi=>∃t u v,h.get? a=lD {cls:= .type "range",data:= .fields #[.int lo t,.int hi u,.int 1 v]}
 | .frz o u=>h.get? a=lD o/\ObjOk H h a u
 | .tbl ps=>h.get? a=lD {cls:= .none,data:= .fields ps}
 | .met f x=>h.get? a=lD (UT (.ref f) (.ref x))
 | .ext φ=>φ h/\(∃o,h.get? a=lD o)/\∀h1 h2:Heap,φ h1->(∀o,h1.get? a=lD o->h2.get? a=lD o)->φ h2
 | .exw φ=>φ w h/\(∃o,h.get? a=lD o)/\∀h1 h2:Heap,φ w h1->(∀o,h1.get? a=lD o->h2.get? a=lD o)->φ w h2
def U3 (H:Hp) (h:Heap):Prop:=∀a o,H a=lD o->ObjOk P w H h a o
end
section
variable {P:PF} {w:Qc} {H H':Hp} {h h':Heap} {a:Pc} {o:HO}
theorem ObjOk.lt (x:ObjOk P w H h a o):a<h.objs.size:=by
 cases o with
 |lst xs=>obtain⟨_,_,_,_,e⟩:=x;exact Heap.lt_size e
 |tup xs=>obtain⟨_,_,_,p⟩:=x;exact p.lt
 |dK kvs=>obtain⟨_,_,_,_,o,_,_,e,_⟩:=x;exact Heap.lt_size e
 |dT kvs=>obtain⟨_,_,_,_,o,_,_,e,_⟩:=x;exact Heap.lt_size e
 |set S n=>obtain⟨o,_,_,_,e,_⟩:=x;exact Heap.lt_size e
 |ins C dx fs=>obtain⟨_,_,_,e,_⟩:=x;exact Heap.lt_size e
 |own y=>obtain⟨_,e⟩:=x;exact Heap.lt_size e
 |xd fs=>obtain⟨_,⟨_,_,_,e,_⟩,_⟩:=x;exact Heap.lt_size e
 |rng lo hi=>obtain⟨_,_,_,e⟩:=x;exact Heap.lt_size e
 |frz b u=>obtain⟨e,_⟩:=x;exact Heap.lt_size e
 |tbl ps=>exact Heap.lt_size (show h.get? a=lD _ from x)
 |met f y=>exact Heap.lt_size (show h.get? a=lD _ from x)
 |ext φ=>obtain⟨_,⟨_,e⟩,_⟩:=x;exact Heap.lt_size e
 |exw φ=>obtain⟨_,⟨_,e⟩,_⟩:=x;exact Heap.lt_size e
theorem Paired.TR:∀{l₁:List α} {l₂:List β},Paired F l₁ l₂->(∀a b,F a b->G a b)->Paired G l₁ l₂
 |_,_,.nil,_=> .nil
 |_,_,.cons r t,f=> .cons (f _ _ r) (Paired.TR t f)
theorem ObjOk.X6 (x:ObjOk P w H h a o) (k:∀b u,(b=a\/H b=lD (.own a))->h.get? b=lD u->h'.get? b=lD u)
  (F:∀b,H b=lD (.own a)->H' b=lD (.own a)) (E:∀b xs,H b=lD (.tup xs)->H' b=lD (.tup xs)):ObjOk P w H' h' a o:=by
 induction o with
 |lst xs=>obtain⟨z,A,n,r,e⟩:=x;exact⟨z,A,n,r,k _ _ (.inl rfl) e⟩
 |tup xs=>obtain⟨z,A,r,g,e,c⟩:=x;exact⟨z,A,r,g,k _ _ (.inl rfl) e,c⟩
 |dK kvs=>obtain⟨z,y,vs,r,g,i,j,e,c⟩:=x;exact⟨z,y,vs,r,g,i,j,k _ _ (.inl rfl) e,c⟩
 |dT kvs=>obtain⟨z,y,xs,r,g,i,j,e,c⟩:=x;exact⟨z,y,xs,Paired.TR r fun p q z=>⟨z.1,E _ _ z.2.1,z.2.2⟩,g,i,j,k _ _ (.inl rfl) e,c⟩
 |set S n=>obtain⟨g,i,j,t,e,c⟩:=x;exact⟨g,i,j,t,k _ _ (.inl rfl) e,c⟩
 |ins C dx fs=>obtain⟨d,z,ne,e,m,⟨l,i,j,G,c⟩,r⟩:=x;exact⟨F _ d,z,ne,k _ _ (.inl rfl) e,m,⟨l,i,j,k _ _ (.inr d) G,c⟩,r⟩
 |own y=>obtain⟨g,e⟩:=x;exact⟨g,k _ _ (.inl rfl) e⟩
 |xd fs=>obtain⟨m,⟨l,i,j,e,c⟩,r⟩:=x;exact⟨m,⟨l,i,j,k _ _ (.inl rfl) e,c⟩,r⟩
 |rng lo hi=>obtain⟨t,u,v,e⟩:=x;exact⟨t,u,v,k _ _ (.inl rfl) e⟩
 |frz g u B=>obtain⟨e,q⟩:=x;exact⟨k _ _ (.inl rfl) e,B q⟩
 |tbl ps=>have e:h.get? a=lD {cls:= .none,data:= .fields ps}:=x;show h'.get? a=lD {cls:= .none,data:= .fields ps};exact k a _ (.inl rfl) e
 |met f y=>have e:h.get? a=lD (UT (.ref f) (.ref y)):=x;show h'.get? a=lD (UT (.ref f) (.ref y));exact k a _ (.inl rfl) e
 |ext φ=>obtain⟨p,⟨o,e⟩,st⟩:=x;exact⟨st _ _ p fun o q=>k _ _ (.inl rfl) q,⟨o,k _ _ (.inl rfl) e⟩,st⟩
 |exw φ=>obtain⟨p,⟨o,e⟩,st⟩:=x;exact⟨st _ _ p fun o q=>k _ _ (.inl rfl) q,⟨o,k _ _ (.inl rfl) e⟩,st⟩
theorem U3.lt (x:U3 P w H h) (e:H a=lD o):a<h.objs.size:=(x a o e).lt
theorem U3.fresh (x:U3 P w H h) (e:h.objs.size<=a):H a=Ld:=by
 cases q:H a with
 |none=>rfl
 |some u=>exact absurd (PD (x.lt q) e) (Qq _)
theorem U3.kept (x:U3 P w H h) (k:∀b u,h.get? b=lD u->h'.get? b=lD u):U3 P w H h':=fun a o e=>
 (x a o e).X6 (fun b u _ q=>k b u q) (fun _ q=>q) fun _ _ q=>q
theorem U3.laid (x:U3 P w H h) (k:∀b u,h.get? b=lD u->h'.get? b=lD u) (f:h.objs.size<=a) (new:ObjOk P w (upd H a o) h' a o):U3 P w (upd H a o) h':=fun b u e=>by
 have hn:=x.fresh f;by_cases d:b=a
 .subst d;rw[aD] at e;cases e;exact new
 .rw[aA d] at e;exact(x b u e).X6 (fun c v _ q=>k c v q) (fun c q=>by rw[aA (cF q hn)];exact q) fun c xs q=>by rw[aA (cF q hn)];exact q
end
def Rd (H:Hp) (a:Pc) (u:HO):Prop:=H a=lD u\/∃o,H a=lD (.frz o u)
theorem Rd.ok (r:Rd H a u) (x:U3 P w H h):ObjOk P w H h a u:=by
 rcases r with r|⟨o,r⟩
 .exact x a u r
 .obtain⟨_,q⟩:=x a _ r;exact q
def L8:Option HO->Prop
 |some (.lst _)=>True
 |some (.dK _)=>True
 |some (.dT _)=>True
 |some (.set _ _)=>True
 |some (.ins _ _ _)=>True
 |some (.ext _)=>True
 |some (.exw _)=>True
 |_=>False
section
variable {P:PF} {w:Qc} {H:Hp} {h h':Heap} {x e:Pc} {Z:HO}
theorem U3.write (ok:U3 P w H h) (f:L8 (H x)) (n:e=x\/H e=lD (.own x)) (k:∀b u,b≠e->h.get? b=lD u->h'.get? b=lD u) (j:∃u,h'.get? e=lD u)
  (new:ObjOk P w (upd H x Z) h' x Z):U3 P w (upd H x Z) h':=fun b u q=>by
 have d:∀c y,H c=lD (.own y)->c≠x:=fun c y r z=>by subst z;rw[r] at f;exact f
 have l:∀c xs,H c=lD (.tup xs)->c≠x:=fun c xs r z=>by subst z;rw[r] at f;exact f
 by_cases i:b=x
 .subst i;rw[aD] at q;cases q;exact new
 .rw[aA i] at q
  by_cases a:b=e
  .have m:H b=lD (.own x):=by
    rcases n with z|z
    .exact absurd (a.trans z) i
    .rw[a];exact z
   rw[q] at m;cases m;obtain⟨v,o⟩:=j;exact⟨v,by rw[a];exact o⟩
  .refine(ok b u q).X6 (fun c v g r=>k c v ?_ r) (fun c r=>by rw[aA (d c b r)];exact r) fun c xs r=>by rw[aA (l c xs r)];exact r
   rcases g with rfl|g
   .exact a
   .rintro rfl
    rcases n with z|z
    .exact d c b g z
    .rw[g] at z;cases z;exact i rfl
end
structure Un (fs ex:List Pc) (H H':Hp) (h h':Heap):Prop where
 keep:∀b o,h.get? b=lD o->H b=Ld->b∉fs->b∉ex->h'.get? b=lD o
 slot:∀b o,h.get? b=lD o->H b=Ld->b∈fs->b∉ex->∃sl,h'.get? b=lD {o with slots:=sl}
 free:∀b o,h.get? b=lD o->H b=Ld->b∉ex->H' b=Ld
 there:∀b o,h.get? b=lD o->b∉ex->∃o',h'.get? b=lD o'
 Wo:∀b xs,H b=lD (.tup xs)->H' b=lD (.tup xs)
 V3:∀b o u,H b=lD (.frz o u)->H' b=lD (.frz o u)
 Ws:∀b ps,H b=lD (.tbl ps)->∃more,H' b=lD (.tbl (ps++more))
section
variable {fs fs' ex ex':List Pc} {H H1 H2:Hp} {h h1 h2 h':Heap} {a x e:Pc} {o:HO}
theorem Un.any (u:Un fs ex H H1 h h1) (q:h.get? b=lD ob) (n:H b=Ld) (c:b∉ex):∃sl,h1.get? b=lD {ob with slots:=sl}:=by
 by_cases d:b∈fs
 .exact u.slot b ob q n d c
 .exact⟨ob.slots,u.keep b ob q n d c⟩
theorem Un.kept (k:∀b u,h.get? b=lD u->h'.get? b=lD u):Un fs ex H H h h':=
 ⟨fun b c q _ _ _=>k b c q,fun b c q _ _ _=>⟨c.slots,k b c q⟩,fun _ _ _ n _=>n,fun b c q _=>⟨c,k b c q⟩,fun _ _ q=>q,fun _ _ _ q=>q,fun _ ps q=>⟨#[],by rw[q];simp⟩⟩
theorem Un.refl:Un fs ex H H h h:=Un.kept fun _ _ q=>q
theorem Un.laid (k:∀b u,h.get? b=lD u->h'.get? b=lD u) (c:h.objs.size<=a) (hn:H a=Ld):Un fs ex H (upd H a o) h h' where
 keep:=fun b u q _ _ _=>k b u q
 slot:=fun b u q _ _ _=>⟨u.slots,k b u q⟩
 free:=fun b u q n _=>by rw[aA (PU (PD (Heap.lt_size q) c))];exact n
 there:=fun b u q _=>⟨u,k b u q⟩
 Wo:=fun b xs q=>by rw[aA (cF q hn)];exact q
 V3:=fun b u xs q=>by rw[aA (cF q hn)];exact q
 Ws:=fun b ps q=>⟨#[],by rw[aA (cF q hn),q];simp⟩
theorem Un.write (d:L8 (H x)) (j:e=x\/H e=lD (.own x)) (k:∀b u,b≠e->h.get? b=lD u->h'.get? b=lD u) (f:∃u,h'.get? e=lD u):Un fs ex H (upd H x o) h h':=by
 have g:∀b,H b=Ld->b≠x:=fun b n z=>by subst z;rw[n] at d;exact d
 have i:∀b,H b=Ld->b≠e:=fun b n z=>by
  subst z;rcases j with r|r
  .exact g b n r
  .rw[n] at r;cases r
 have hm:∀b u,H b=lD u->¬L8 (lD u)->b≠x:=fun b u q nm z=>by subst z;rw[q] at d;exact nm d
 refine⟨fun b u q n _ _=>k b u (i b n) q,fun b u q n _ _=>⟨u.slots,k b u (i b n) q⟩,fun b u q n _=>by rw[aA (g b n)];exact n,fun b u q _=> ?_,
  fun b xs q=>by rw[aA (hm b _ q fun z=>z)];exact q,fun b u xs q=>by rw[aA (hm b _ q fun z=>z)];exact q,fun b ps q=>⟨#[],by rw[aA (hm b _ q fun z=>z),q];simp⟩⟩
 by_cases c:b=e
 .subst c;exact f
 .exact⟨u,k b u c q⟩
end
def Nd (h:Heap) (H:Hp):List Pc:=(P9 h.objs.size).filter fun a=>(H a).isSome
def tU (h:Heap) (H:Hp):Heap:=PySem.W.hideAll h (Nd h H)
theorem BV (h:Heap) (H:Hp):(tU h H).objs.size=h.objs.size:=PySem.W.hideAll_size _ _
theorem Fe (e:h.get? b=lD o) (n:H b=Ld):(tU h H).get? b=lD o:=
 PySem.W.hideAll_get _ e fun hm=>by have q:=(QD.mp hm).2;rw[n] at q;simp at q
theorem HP (e:(tU h H).get? b=lD o):h.get? b=lD o/\H b=Ld:=by
 have a:=PySem.W.of_hideAll (Nd h H) e;refine⟨a,?_⟩;cases q:H b with
 |none=>rfl
 |some x=>have hm:b∈Nd h H:=QD.mpr ⟨Q9.mpr (Heap.lt_size a),by simp[q]⟩;have z:(tU h H).get? b=Ld:=PySem.W.hideAll_none (Nd h H) hm;rw[z] at e;cases e
structure Mod (K:OK) (mg:Str->Option OW) (base:Heap):Prop where
 kin:K.In base
 glob:base.Ns P7 mg
 blt:∃mb,base.Ns builtinsNs mb/\∀x:Str,x≠ "__name__"->mb x=Qx x
 nolimit:base.NoLimit
structure Cx where
 prog:PF
 w:Qc
 K:OK
 mg:Str->Option OW
 base:Heap
 A:PX
 N:List Str
 s₀:Pa
 H₀:Hp
 env:Env
 outer:List Env
 stack:List Env
 ex:List Pc
 fn:Str->Bool
 calm:Bool
 pn:List (Pc×Obj)
 xe:OW->Pa->Prop
def Cf (l:List Env):List Pc:=l.filterMap (·.frame)
abbrev Cx.fs (X:Cx):List Pc:=Cf X.outer
def Nz (sc:TK) (x:Str):Prop:=sc.names.lookup x=lD .local\/sc.names.lookup x=lD .cell\/sc.names.lookup x=lD .free
def Mm (sc:TK) (x:Str):Prop:=sc.names.lookup x=lD .local\/sc.names.lookup x=lD .cell
def N5 (env:Env) (h:Heap) (m:Str->Option OW) (x:Str) (u:OW):Prop:=
 (env.kindOf x=lD .local/\m x=lD u)\/((env.kindOf x=lD .cell\/env.kindOf x=lD .free)/\∃c,env.cells.lookup x=lD c/\h.IsCell c (lD u))
structure Cx.Ok (X:Cx):Prop where
 mod:Mod X.K X.mg X.base
 kind:X.env.scope.kind= .function
 glob:X.env.globals=P7
 blt:X.env.builtins=builtinsNs
 above:X.s₀.heap.objs.size<=X.env.locals
 inj:∀x y c,X.env.cells.lookup x=lD c->X.env.cells.lookup y=lD c->x=y
 has:∀x,(X.env.kindOf x=lD .cell\/X.env.kindOf x=lD .free)->∃c,X.env.cells.lookup x=lD c
 cab:∀x c,X.fn x=Pb->X.env.cells.lookup x=lD c->X.s₀.heap.objs.size<=c
 hd:X.calm=Pb->X.A.handled=Ld
 frames:X.A.frames=lD X.stack
 stk:X.stack=X.outer\/(X.stack=X.env::X.outer/\X.env.frame=lD X.env.locals)
 exf:∀b∈X.ex,b≠X.env.locals/\∀x c,X.env.cells.lookup x=lD c->c≠b
 bs:∀b o,X.base.get? b=lD o->X.s₀.heap.get? b=lD o/\X.H₀ b=Ld
 Zv:X.base.objs.size<=X.s₀.heap.objs.size
 X7:∀b o,X.base.get? b=lD o->b∉X.ex
 XW:∀b∈X.ex,b∉X.fs
 Vq:X.s₀.heap.FunFrames X.base X.outer
 frf:∀b∈X.fs,X.H₀ b=Ld
structure Inv (X:Cx) (pins:List (Pc×Obj)) (σ:List (Option V)) (H:Hp) (s:Pa):Prop where
 ok:X.Ok
 os:s.os=X.s₀.os
 bare:AllBare s.gens
 base:Un X.fs X.ex X.H₀ H X.s₀.heap s.heap
 loc:∃m,s.heap.Ns X.env.locals m/\∀(i:Nat) (x:Str) (v:V),X.N[i]? =lD x->σ[i]? =lD (lD v)->Nz X.env.scope x->∃u,RelV v u/\N5 X.env s.heap m x u
 cell:∀x c,X.env.cells.lookup x=lD c->∃v,s.heap.IsCell c v
 free:H X.env.locals=Ld
 Uu:∀x c,X.env.cells.lookup x=lD c->H c=Ld
 pin:∀p∈X.pn++pins,s.heap.get? p.1=lD p.2/\H p.1=Ld/\p.1≠X.env.locals/\p.1∉X.fs/\∀v,p.2.data≠ .cell v
 Ro:U3 X.prog X.w H s.heap
 len:σ.length=X.N.length
section
variable {X:Cx} {Z:List (Pc×Obj)} {Y:List (Option V)} {H H':Hp} {s:Pa} {h':Heap}
theorem Cx.Ok.aeD (ok:X.Ok) (e:X.base.get? b=lD o):b∉X.fs:=fun a=>by have:=(ok.Vq.mem a).1;rw[e] at this;cases this
theorem Inv.bs (I:Inv X Z Y H s):∀b o,X.base.get? b=lD o->s.heap.get? b=lD o/\H b=Ld:=fun b o e=>
 ⟨I.base.keep b o (I.ok.bs b o e).1 (I.ok.bs b o e).2 (I.ok.aeD e) (I.ok.X7 b o e),I.base.free b o (I.ok.bs b o e).1 (I.ok.bs b o e).2 (I.ok.X7 b o e)⟩
theorem Inv.bk (I:Inv X Z Y H s):∀b o,X.base.get? b=lD o->s.heap.get? b=lD o:=fun b o e=>(I.bs b o e).1
theorem Inv.mod (I:Inv X Z Y H s):Mod X.K X.mg X.base:=I.ok.mod
theorem Inv.XB (I:Inv X Z Y H s):X.K.In s.heap:=I.ok.mod.kin.keeps I.bk
theorem Inv.lt (I:Inv X Z Y H s):X.env.locals<s.heap.objs.size:=let⟨_,hn,_⟩:=I.loc;hn.lt
theorem Inv.sz (I:Inv X Z Y H s):X.s₀.heap.objs.size<=s.heap.objs.size:=Pp I.ok.above (QJ I.lt)
theorem Inv.aef (I:Inv X Z Y H s) (h:s.heap.objs.size<=a):a∉X.fs:=fun c=>by obtain⟨_,o,b,_⟩:=I.ok.Vq.mem c;exact absurd (PD (Heap.lt_size b) (Pp I.sz h)) (Qq _)
theorem Inv.cne (I:Inv X Z Y H s):∀x c,X.env.cells.lookup x=lD c->c≠X.env.locals:=fun x c e z=>by obtain⟨v,o,b,d⟩:=I.cell x c e;obtain⟨m,⟨g,h,i,a,f,_⟩,_⟩:=I.loc;rw[z,a] at b;cases b;rw[f] at d;cases d
theorem Inv.Vq (I:Inv X Z Y H s):s.heap.FunFrames X.base X.outer:=by
 have all:∀(l:List Env),(∀b∈Cf l,b∈X.fs)->X.s₀.heap.FunFrames X.base l->s.heap.FunFrames X.base l:=by
  intro l
  induction l with
  |nil=>intro _ _;trivial
  |cons p r g=>intro f j;obtain⟨m,⟨L,o,a,hn,i,n⟩,h⟩:=j;have d:=f L (by unfold Cf;rw[RG,a];exact Pr);obtain⟨q,e⟩:=I.base.slot L o i (I.ok.frf L d) d fun z=>I.ok.XW L z d;exact⟨m,⟨L,_,a,hn,e,n⟩,g (fun b c=>f b (by unfold Cf;rw[RG,a];exact Pl _ c)) h⟩
 exact all X.outer (fun _ c=>c) I.ok.Vq
theorem Inv.stack (I:Inv X Z Y H s):s.heap.FunFrames X.base X.stack:=by
 rcases I.ok.stk with e|⟨e,hf⟩
 .rw[e];exact I.Vq
 .rw[e];obtain⟨m,hn,_⟩:=I.loc;refine .cons (by rw[I.ok.kind];decide) hf hn ?_ I.Vq;exact Heap.get?_none_of_le (Pp I.ok.Zv I.ok.above)
theorem Inv.W9 (I:Inv X Z Y H s):∀b∈Cf X.stack,b∈X.env.locals::X.fs:=fun b a=>by
 rcases I.ok.stk with e|⟨e,hf⟩
 .rw[e] at a;exact Pl _ a
 .rw[e] at a;unfold Cf at a;rw[RG,hf] at a;exact a
theorem Inv.XD (I:Inv X Z Y H s):∀b∈Cf X.stack,H b=Ld:=fun b a=>by
 rcases Py.mp (I.W9 b a) with e|a
 .rw[e];exact I.free
 .obtain⟨_,o,c,_⟩:=I.ok.Vq.mem a;exact I.base.free b o c (I.ok.frf b a) fun z=>I.ok.XW b z a
theorem Inv.step {g':Array VT} {t':Nat} {d':aaS} {ch:List Pc} (I:Inv X Z Y H s)
  (G:∀b∈ch,(b∈X.ex\/X.s₀.heap.objs.size<=b)/\b≠X.env.locals/\(∀x c,X.env.cells.lookup x=lD c->c≠b)/\∀p∈X.pn++Z,p.1≠b)
  (keep:∀b o,b≠X.env.locals->b∉X.fs->b∉ch->s.heap.get? b=lD o->H b=Ld->h'.get? b=lD o)
  (t:∀b o,b≠X.env.locals->b∈X.fs->b∉ch->s.heap.get? b=lD o->H b=Ld->∃sl,h'.get? b=lD {o with slots:=sl}) (free:∀b o,b∉ch->s.heap.get? b=lD o->H b=Ld->H' b=Ld)
  (A:∀b o,b∉ch->s.heap.get? b=lD o->∃o',h'.get? b=lD o')
  (Wo:∀b xs,H b=lD (.tup xs)->H' b=lD (.tup xs)) (V3:∀b o u,H b=lD (.frz o u)->H' b=lD (.frz o u)) (Ws:∀b ps,H b=lD (.tbl ps)->∃more,H' b=lD (.tbl (ps++more)))
  (O:∀m,s.heap.Ns X.env.locals m->h'.Ns X.env.locals m) (Ro:U3 X.prog X.w H' h') (T:AllBare g'):
  Inv X Z Y H' {s with heap:=h',gens:=g',drawn:=d',toks:=t'}:=by
 have E:∀b o,X.s₀.heap.get? b=lD o->b≠X.env.locals:=fun b o e=>PU (PD (Heap.lt_size e) I.ok.above);have h:∀b o,X.s₀.heap.get? b=lD o->b∉X.ex->b∉ch:=fun b o e a B=>by
  rcases(G b B).1 with z|z
  .exact a z
  .exact absurd (PD (Heap.lt_size e) z) (Qq _)
 have g:∀x c,X.env.cells.lookup x=lD c->∀v,s.heap.IsCell c v->h'.IsCell c v:=fun x c e v ⟨o,C,K⟩=>by
  have f:c∉ch:=fun z=>(G c z).2.2.1 x c e rfl;by_cases N:c∈X.fs
  .obtain⟨sl,q⟩:=t c o (I.cne x c e) N f C (I.Uu x c e);exact⟨_,q,K⟩
  .exact⟨o,keep c o (I.cne x c e) N f C (I.Uu x c e),K⟩
 refine⟨I.ok,I.os,T,⟨fun b o e n B a=> ?_,fun b o e n B a=> ?_,fun b o e n a=> ?_,fun b o e a=> ?_,fun b xs e=>Wo b xs (I.base.Wo b xs e),fun b o xs e=>V3 b o xs (I.base.V3 b o xs e),fun b ps e=> ?_⟩,?_,fun x c e=> ?_,?_,fun x c e=> ?_,fun p M=> ?_,Ro,I.len⟩
 .exact keep b o (E b o e) B (h b o e a) (I.base.keep b o e n B a) (I.base.free b o e n a)
 .obtain⟨sl,j⟩:=I.base.slot b o e n B a;obtain⟨J,F⟩:=t b _ (E b o e) B (h b o e a) j (I.base.free b o e n a);exact⟨J,F⟩
 .obtain⟨o',j⟩:=I.base.there b o e a;exact free b o' (h b o e a) j (I.base.free b o e n a)
 .obtain⟨o',j⟩:=I.base.there b o e a;exact A b o' (h b o e a) j
 .obtain⟨Q,j⟩:=I.base.Ws b ps e;obtain⟨P,F⟩:=Ws b _ j;exact⟨Q++P,by rw[F,Array.append_assoc]⟩
 .obtain⟨m,hn,S⟩:=I.loc
  refine⟨m,O m hn,fun i x v j F U=> ?_⟩;obtain⟨u,r,l⟩:=S i x v j F U;refine⟨u,r,?_⟩;rcases l with l|⟨k,c,e,z⟩
  .exact .inl l
  .exact .inr ⟨k,c,e,g x c e _ z⟩
 .obtain⟨v,z⟩:=I.cell x c e;exact⟨v,g x c e v z⟩
 .obtain⟨m,⟨o,_,_,C,_⟩,_⟩:=I.loc;exact free _ o (fun z=>(G _ z).2.1 rfl) C I.free
 .obtain⟨v,o,C,K⟩:=I.cell x c e;exact free c o (fun z=>(G c z).2.2.1 x c e rfl) C (I.Uu x c e)
 .obtain⟨e,n,ne,L,d⟩:=I.pin p M;have f:p.1∉ch:=fun z=>(G p.1 z).2.2.2 p M rfl;exact⟨keep p.1 p.2 ne L f e n,free p.1 p.2 f e n,ne,L,d⟩
theorem Inv.un {t':Nat} (I:Inv X Z Y H s) (u:Un X.fs [] H H' s.heap h') (j:U3 X.prog X.w H' h'):Inv X Z Y H' {s with heap:=h',toks:=t'}:=by obtain⟨m,⟨o,t,v,f,r⟩,_⟩:=id I.loc;obtain⟨l,h⟩:=u.any f I.free (by simp);exact I.step (g':=s.gens) (d':=s.drawn) (ch:=[]) (fun _ z=>nomatch z) (fun b o _ c _ e n=>u.keep b o e n c (by simp)) (fun b o _ c _ e n=>u.slot b o e n c (by simp)) (fun b o _ e n=>u.free b o e n (by simp)) (fun b o _ e=>u.there b o e (by simp)) u.Wo u.V3 u.Ws (fun q hm=>by obtain⟨p,i,d,a,g⟩:=hm;rw[f] at a;cases a;exact⟨_,i,d,h,g⟩) j I.bare
theorem Inv.call {g':Array VT} {t':Nat} {d':aaS} {ch:List Pc} (I:Inv X Z Y H s) (u:Un (Cf X.stack) ch H H' s.heap h') (v:U3 X.prog X.w H' h') (l:AllBare g')
  (i:∀b∈ch,(b∈X.ex\/X.s₀.heap.objs.size<=b)/\b≠X.env.locals/\(∀x c,X.env.cells.lookup x=lD c->c≠b)/\∀p∈X.pn++Z,p.1≠b):
  Inv X Z Y H' {s with heap:=h',gens:=g',drawn:=d',toks:=t'}:=by
 obtain⟨m,⟨o,E,F,h,r⟩,_⟩:=id I.loc;obtain⟨A,f⟩:=u.any h I.free fun z=>(i _ z).2.1 rfl;exact I.step (ch:=ch) i (fun b o f q a e n=>u.keep b o e n (fun z=>(Py.mp (I.W9 b z)).elim f q) a) (fun b o _ _ a e n=>u.any e n a) (fun b o a e n=>u.free b o e n a) (fun b o a e=>u.there b o e a) u.Wo u.V3 u.Ws (fun C hm=>by obtain⟨B,t,g,d,j⟩:=hm;rw[h] at d;cases d;exact⟨_,t,g,f,j⟩) v l
theorem Inv.turned {t':Nat} {it:Pc} (I:Inv X Z Y H s) (k:∀b o,b≠it->s.heap.get? b=lD o->h'.get? b=lD o) (hn:H it=Ld) (f:it≠X.env.locals)
  (h1:it∈X.ex\/X.s₀.heap.objs.size<=it) (j:∀x c,X.env.cells.lookup x=lD c->c≠it) (i:∀p∈X.pn++Z,p.1≠it):Inv X Z Y H {s with heap:=h',toks:=t'}:=by
 have d:∀b u,H b=lD u->b≠it:=fun b u e z=>by rw[z,hn] at e;cases e
 refine I.step (g':=s.gens) (d':=s.drawn) (ch:=[it]) (fun b h=> ?_) (fun b o _ _ a e _=>k b o (fun z=>a (by simp[z])) e) (fun b o _ _ a e _=>⟨o.slots,k b o (fun z=>a (by simp[z])) e⟩) (fun _ _ _ _ n=>n)
  (fun b o a e=>⟨o,k b o (fun z=>a (by simp[z])) e⟩) (fun _ _ e=>e) (fun _ _ _ e=>e) (fun b ps e=>⟨#[],by rw[e];simp⟩) (fun m hm=> ?_) (fun b u e=> ?_) I.bare
 .have e:b=it:=by simpa using h
  subst e;exact⟨h1,f,j,i⟩
 .obtain⟨o,l,t,g,r⟩:=hm;exact⟨o,l,t,k _ o (Ne.symm f) g,r⟩
 .refine(I.Ro b u e).X6 (fun c v a q=>k c v ?_ q) (fun _ q=>q) fun _ _ q=>q
  rcases a with z|z
  .rw[z];exact d b u e
  .exact d c _ z
theorem Inv.tok (I:Inv X Z Y H s) (t:Nat):Inv X Z Y H {s with toks:=t}:=I.un Un.refl I.Ro
theorem Inv.kept {t':Nat} (I:Inv X Z Y H s) (k:∀b u,s.heap.get? b=lD u->h'.get? b=lD u):Inv X Z Y H {s with heap:=h',toks:=t'}:=I.un (Un.kept k) (I.Ro.kept k)
theorem Inv.laid {a:Pc} {o:HO} {t':Nat} (I:Inv X Z Y H s) (k:∀b u,s.heap.get? b=lD u->h'.get? b=lD u) (c:s.heap.objs.size<=a) (new:ObjOk X.prog X.w (upd H a o) h' a o):
  Inv X Z Y (upd H a o) {s with heap:=h',toks:=t'}:=I.un (Un.laid k c (I.Ro.fresh c)) (I.Ro.laid k c new)
theorem Inv.write {x e:Pc} {o:HO} {t':Nat} (I:Inv X Z Y H s) (c:L8 (H x)) (d:e=x\/H e=lD (.own x)) (k:∀b u,b≠e->s.heap.get? b=lD u->h'.get? b=lD u) (a:∃u,h'.get? e=lD u)
  (new:ObjOk X.prog X.w (upd H x o) h' x o):Inv X Z Y (upd H x o) {s with heap:=h',toks:=t'}:=I.un (Un.write c d k a) (I.Ro.write c d k a new)
theorem Inv.XH (I:Inv X Z Y H s) (h:∀p∈abU,s.heap.get? p.1=lD p.2/\H p.1=Ld/\p.1≠X.env.locals/\p.1∉X.fs/\∀v,p.2.data≠ .cell v):Inv X abU Y H s:=
 ⟨I.ok,I.os,I.bare,I.base,I.loc,I.cell,I.free,I.Uu,fun p a=>(Pw.mp a).elim (fun z=>I.pin p (Qs _ z)) (h p),I.Ro,I.len⟩
theorem vc {N:List Str} (c:N.Nodup) {i j:Nat} (a:N[i]? =lD x) (b:N[j]? =lD x):i=j:=by obtain⟨h1,e⟩:=O0.mp a;obtain⟨f,d⟩:=O0.mp b;exact(List.getElem_inj c).mp (e.trans d.symm)
theorem Bh {M:Model} {A:PX} {E:OW->Pa->Prop} {i:Nat} {x:Str} {v:V} {u:OW} {Q:Unit->Pa->Prop} (I:Inv X Z Y H s) (hN:X.N.Nodup) (hi:X.N[i]? =lD x) (hx:Mm X.env.scope x) (r:RelV v u)
  (h:∀s',Inv X Z (Y.set i (lD v)) H s'->(∃a,Heap.SameBut a s.heap s'.heap/\(a=X.env.locals\/X.env.cells.lookup x=lD a))->Q () s') (hf:X.fn x=Pb\/X.env.scope.names.lookup x=lD .local:=by first|exact .inl rfl|exact .inr rfl|assumption):wpAny M A (storeName X.env x u) Q E s:=by
 obtain⟨m,hn,hl⟩:=id I.loc;have adQ:(X.env.scope.kind== .class||(X.env.scope.kind== .module&&X.env.locals !=X.env.globals))=Ph:=by rw[I.ok.kind];rfl
 have hiσ:i<Y.length:=by rw[I.len];exact(O0.mp hi).1
 have cne:=I.cne;have tracked:∀{a:Pc} {h':Heap},(∃o,s.heap.get? a=lD o/\H a=Ld)->Heap.SameBut a s.heap h'->U3 X.prog X.w H h':=fun{a h'} ha hs b ob e=>by
  obtain⟨_,_,Z9⟩:=ha;refine(I.Ro b ob e).X6 (fun c w' hc q=>(hs.2 c ?_).trans q) (fun _ q=>q) fun _ _ q=>q;rintro rfl;rcases hc with rfl|hc
  .rw[Z9] at e;cases e
  .rw[Z9] at hc;cases hc
 rcases hx with hk|hk
 .refine wpAny_storeName_local hk hn (fun h' hn' hs=> ?_) adQ
  obtain⟨oL,_,_,hoL,_⟩:=id hn;refine h _ ⟨I.ok,I.os,I.bare,⟨fun b o e n hb hx=> ?_,fun b o e n hb hx=> ?_,I.base.free,fun b o e hx=> ?_,I.base.Wo,I.base.V3,I.base.Ws⟩,⟨_,hn',fun j y v' e1 e2 e3=> ?_⟩,fun y c e=> ?_,I.free,I.Uu,fun p hp=> ?_,tracked ⟨oL,hoL,I.free⟩ hs,by simpa using I.len⟩ ⟨_,hs,.inl rfl⟩
  .exact(hs.2 b (PU (PD (Heap.lt_size e) I.ok.above))).trans (I.base.keep b o e n hb hx)
  .obtain⟨sl,e1⟩:=I.base.slot b o e n hb hx;exact⟨sl,(hs.2 b (PU (PD (Heap.lt_size e) I.ok.above))).trans e1⟩
  .obtain⟨o',e1⟩:=I.base.there b o e hx;exact⟨o',(hs.2 b (PU (PD (Heap.lt_size e) I.ok.above))).trans e1⟩
  .by_cases hj:j=i
   .subst hj;rw[hi] at e1;cases e1;rw[RM hiσ] at e2;cases e2;exact⟨u,r,.inl ⟨hk,by simp⟩⟩
   .rw[Sh (Ne.symm hj)] at e2
    obtain⟨u',r',q⟩:=hl j y v' e1 e2 e3;refine⟨u',r',?_⟩;rcases q with⟨k,e⟩|⟨k,c,e,z⟩
    .refine .inl ⟨k,?_⟩;have:y≠x:=fun e=>hj (vc hN e1 (e▸hi));simp[this,e]
    .exact .inr ⟨k,c,e,z.sameBut hs (cne y c e)⟩
  .obtain⟨w',z⟩:=I.cell y c e;exact⟨w',z.sameBut hs (cne y c e)⟩
  .obtain⟨e,n,ne,nf,d⟩:=I.pin p hp;exact⟨(hs.2 p.1 ne).trans e,n,ne,nf,d⟩
 .have hfn:X.fn x=Pb:=by
   rcases hf with z|z
   .exact z
   .rw[z] at hk;cases hk
  obtain⟨c,hc⟩:=I.ok.has x (.inl hk);obtain⟨w',z⟩:=I.cell x c hc;refine wpAny_storeName_cell I.ok.kind hk hc z (fun h' WA hs=> ?_);obtain⟨oc,hoc,aek⟩:=id z;refine h {s with heap:=h'} ⟨I.ok,I.os,I.bare,⟨fun b o e n hb hx=> ?_,fun b o e n hb hx=> ?_,I.base.free,fun b o e hx=> ?_,I.base.Wo,I.base.V3,I.base.Ws⟩,⟨m,hn.sameBut hs (Ne.symm (cne x c hc)),fun j y v' e1 e2 e3=> ?_⟩,fun y c' e=> ?_,I.free,I.Uu,fun p hp=> ?_,tracked ⟨oc,hoc,I.Uu x c hc⟩ hs,by simpa using I.len⟩ ⟨c,hs,.inr hc⟩
  .exact(hs.2 b (PU (PD (Heap.lt_size e) (I.ok.cab x c hfn hc)))).trans (I.base.keep b o e n hb hx)
  .obtain⟨sl,e1⟩:=I.base.slot b o e n hb hx;exact⟨sl,(hs.2 b (PU (PD (Heap.lt_size e) (I.ok.cab x c hfn hc)))).trans e1⟩
  .obtain⟨o',e1⟩:=I.base.there b o e hx;exact⟨o',(hs.2 b (PU (PD (Heap.lt_size e) (I.ok.cab x c hfn hc)))).trans e1⟩
  .by_cases hj:j=i
   .subst hj;rw[hi] at e1;cases e1;rw[RM hiσ] at e2;cases e2;exact⟨u,r,.inr ⟨.inl hk,c,hc,WA⟩⟩
   .rw[Sh (Ne.symm hj)] at e2
    obtain⟨u',r',q⟩:=hl j y v' e1 e2 e3;refine⟨u',r',?_⟩;rcases q with q|⟨k,c',e,z'⟩
    .exact .inl q
    .refine .inr ⟨k,c',e,z'.sameBut hs ?_⟩;rintro rfl;exact hj (vc hN e1 (I.ok.inj _ _ _ e hc▸hi))
  .by_cases hcc:c'=c
   .subst hcc;exact⟨_,WA⟩
   .obtain⟨w2,z2⟩:=I.cell y c' e;exact⟨w2,z2.sameBut hs hcc⟩
  .obtain⟨e,n,ne,nf,d⟩:=I.pin p hp;refine⟨(hs.2 p.1 ?_).trans e,n,ne,nf,d⟩;intro q;rw[q,hoc] at e;have q':oc=p.2:=PK e;exact d w' (by rw[<-q'];exact aek)
theorem qM {i:Nat} {v:V} {u:OW} {Q:Unit->Pa->Prop} (I:Inv X Z Y H s) (hN:X.N.Nodup) (hi:X.N[i]? =lD x) (hx:Mm X.env.scope x) (r:RelV v u)
  (h:∀s',Inv X Z (Y.set i (lD v)) H s'->Q () s') (hf:X.fn x=Pb\/X.env.scope.names.lookup x=lD .local:=by first|exact .inl rfl|exact .inr rfl|assumption):wpAny M A (storeName X.env x u) Q E s:=
 Bh I hN hi hx r (fun s' I' _=>h s' I') hf
theorem Inv.ack {a:Pa} {ch:List Pc} (I:Inv X Z Y H s) (f:a.os=s.os) (u:Un (Cf X.stack) ch H H' s.heap a.heap) (i:U3 X.prog X.w H' a.heap) (g:AllBare a.gens)
  (h:∀b∈ch,(b∈X.ex\/X.s₀.heap.objs.size<=b)/\b≠X.env.locals/\(∀x c,X.env.cells.lookup x=lD c->c≠b)/\∀p∈X.pn++Z,p.1≠b):Inv X Z Y H' a:=by
 obtain⟨h',g',d',t',d⟩:=a;have e:d=s.os:=f;subst e;exact I.call (g':=g') (t':=t') (d':=d') u i g h
end
abbrev XK:=OW->Option Pc->Hp->Prop
abbrev St:=List (Option V)
abbrev VK:=V->Hp->Prop
abbrev TE:=St->Hp->VK->Prop
abbrev TT:=St->Hp->(Bool->Hp->Prop)->Prop
abbrev TA:=St->Hp->(List V->Hp->Prop)->Prop
structure Ends where
 nx:St->Hp->Prop
 rt:VK
 bk:St->Hp->Prop:=fun _ _=>False
 ct:St->Hp->Prop:=fun _ _=>False
abbrev TS:=Ends->St->Hp->Prop
def EP (X:Cx) (a:List (Pc×Obj)) (b:St) (Q:VK) (u:OW) (c:Pa):Prop:=∃v H',Inv X a b H' c/\RelV v u/\Q v H'
def TP (X:Cx) (a:List (Pc×Obj)) (c:St) (Q:Bool->Hp->Prop) (b:Bool) (d:Pa):Prop:=∃H',Inv X a c H' d/\Q b H'
def AP (X:Cx) (a:List (Pc×Obj)) (b:St) (Q:List V->Hp->Prop) (c:List OW) (d:Pa):Prop:=∃vs H',Inv X a b H' d/\Vals vs c/\Q vs H'
def SP (X:Cx) (a:List (Pc×Obj)) (D:Ends) (f:Flow) (b:Pa):Prop:=
 match f with
 | .next=>∃σ' H',Inv X a σ' H' b/\D.nx σ' H'
 | .brk=>∃σ' H',Inv X a σ' H' b/\D.bk σ' H'
 | .cont=>∃σ' H',Inv X a σ' H' b/\D.ct σ' H'
 | .ret u=>∃v σ' H',Inv X a σ' H' b/\RelV v u/\D.rt v H'
def PE (X:Cx) (e:Qn) (t:TE):Prop:=
 ∀(a:List (Pc×Obj)) (s:Pa) (b:St) (H:Hp) (Q:VK),Inv X a b H s->t b H Q->wpAny (model X.prog X.w) X.A (eval e X.env) (EP X a b Q) X.xe s
def PT (X:Cx) (e:Qn) (t:TT):Prop:=
 ∀(a:List (Pc×Obj)) (s:Pa) (b:St) (H:Hp) (Q:Bool->Hp->Prop),Inv X a b H s->t b H Q->wpAny (model X.prog X.w) X.A (isTrue e X.env (eval e X.env)) (TP X a b Q) X.xe s
def PW (X:Cx) (e:Qn) (t:TT):Prop:=
 ∀(b:Sem OW) (a:List (Pc×Obj)) (s:Pa) (c:St) (H:Hp) (Q:Bool->Hp->Prop),Inv X a c H s->t c H Q->wpAny (model X.prog X.w) X.A (isTrue e X.env b) (TP X a c Q) X.xe s
theorem PW.pt (h:PW X e t):PT X e t:=h _
def PA (X:Cx) (d:List Qn) (t:TA):Prop:=
 ∀(c:Pos) (a:List (Pc×Obj)) (s:Pa) (b:St) (H:Hp) (Q:List V->Hp->Prop),Inv X a b H s->t b H Q->wpAny (model X.prog X.w) X.A (spliced (backTo c (Qy d X.env))) (AP X a b Q) X.xe s
def PS (X:Cx) (st:Sl) (t:TS):Prop:=
 ∀(a:List (Pc×Obj)) (s:Pa) (b:St) (H:Hp) (D:Ends),Inv X a b H s->t D b H->wpAny (model X.prog X.w) X.A (exec st X.env) (SP X a D) X.xe s
def VS (X:Cx) (st:List Sl) (t:TS):Prop:=
 ∀(a:List (Pc×Obj)) (s:Pa) (b:St) (H:Hp) (D:Ends),Inv X a b H s->t D b H->wpAny (model X.prog X.w) X.A (execs st X.env) (SP X a D) X.xe s
theorem cg {α:Type} {t:Sem α} {Q b:α->Pa->Prop} {M:Model} {A:PX} {E:OW->Pa->Prop} {s:Pa} (h:wpAny M A t Q E s) (c:∀a s,Q a s->b a s):wpAny M A t b E s:=wpAny_mono h c fun _ _ x=>x
section
variable {X:Cx}
def qU (i:Nat):TE:=fun a H Q=>∃v,a[i]? =lD (lD v)/\Q v H
def tC (v:V):TE:=fun _ H Q=>Q v H
theorem Kl (q:X.N[i]? =lD x) (o:Nz X.env.scope x) (f:(x==("__debug__":Str))=Ph:=by decide) (t:(x==("__classdict__":Str))=Ph:=by decide):PE X (.Name x pos) (qU i):=by
 intro d s n H Q I h;obtain⟨v,e,h⟩:=h;obtain⟨m,hn,p⟩:=I.loc;obtain⟨u,r,l⟩:=p i x v q e o;have b:EP X d n Q u s:=⟨v,H,I,r,h⟩;rcases l with⟨a,hm⟩|⟨a,c,g,j⟩
 .exact aad (Zn I.ok.kind a hn hm b) f
 .rcases a with a|a
  .exact aad (ZT I.ok.kind a g j b) f
  .exact aad (wpAny_loadName_free I.ok.kind a g j b t) f
theorem aM {i j pos}:PE X (.Constant (.int i) j pos) (tC (.int i)):=fun _ _ _ H _ I h=>wpAny_Constant_int ⟨.int i,H,I.tok _,⟨_,rfl⟩,h⟩
theorem wI {b j pos}:PE X (.Constant (.bool b) j pos) (tC (.bl b)):=fun _ _ _ H _ I h=>Constant_bool ⟨.bl b,H,I,rfl,h⟩
theorem pP {j pos}:PE X (.Constant .none j pos) (tC .S4):=fun _ _ _ H _ I h=>Constant_none ⟨.S4,H,I,rfl,h⟩
theorem yw {x j pos}:PE X (.Constant (.str x) j pos) (tC (.str x)):=fun _ _ _ H _ I h=>Calls.Constant_str ⟨.str x,H,I.tok _,⟨_,rfl⟩,h⟩
def Gl (X:Cx) (x:Str):Prop:=X.env.kindOf x=lD .globalImplicit
theorem Gj (I:Inv X pins σ H s) (a:Gl X x) (hm:X.mg x=lD u) (h:Q u s)
  (b:(x==("__debug__":Str))=Ph:=by decide):wpAny (model X.prog X.w) X.A (eval (.Name x pos) X.env) Q E s:=
 Calls.Name_function_global I.ok.kind a (Calls.loadGlobal_global (by rw[I.ok.glob];exact I.mod.glob.keeps I.bk) hm h) b
theorem mC (I:Inv X pins σ H s) (b:Gl X x) (hm:X.mg x=Ld) (a:Qx x=lD u) (h:Q u s)
  (hn:x≠ "__name__":=by decide) (c:(x==("__debug__":Str))=Ph:=by decide):wpAny (model X.prog X.w) X.A (eval (.Name x pos) X.env) Q E s:=by
 obtain⟨e,h1,d⟩:=I.mod.blt;exact Calls.Name_function_global I.ok.kind b (Calls.loadGlobal_builtin (by rw[I.ok.glob];exact I.mod.glob.keeps I.bk) hm (by rw[I.ok.blt];exact h1.keeps I.bk) ((d x hn).trans a) h) c
theorem zk (b:Gl X x) (hm:X.mg x=Ld) (a:Qx x=lD u) (r:RelV v u) (hn:x≠ "__name__":=by decide) (c:(x==("__debug__":Str))=Ph:=by decide):PE X (.Name x pos) (tC v):=
 fun _ _ _ H _ I h=>mC I b hm a ⟨v,H,I,r,h⟩ hn c
variable {a b:Qn} {Y Z:TE} {pos:Pos}
def PC (X:Cx) (op:CmpOp) (a b:Qn) (t:TE):Prop:=
 ∀(c:List (Pc×Obj)) (s:Pa) (f:St) (H:Hp) (Q:VK),Inv X c f H s->t f H Q->
  wpAny (model X.prog X.w) X.A (eval a X.env) (fun v e=>wpAny (model X.prog X.w) X.A (eval b X.env) (fun u d=>wpAny (model X.prog X.w) X.A (Rf op v u) (EP X c f Q) X.xe d) X.xe e) X.xe s
def tB (t:TE):TT:=fun d H Q=>t d H fun x e=>∃c,x= .bl c/\Q c e
theorem FB (h:PC X op a b t) (h1:behindInMarks op b=Ph:=by first|exact YK _ (by decide) (by decide)|rfl):PE X (.Compare a [op] [b] pos) t:=fun c s d H Q I e=>ado (h c s d H Q I e) h1
theorem qh (h:PC X op a b t) (h1:behindInMarks op b=Ph:=by first|exact YK _ (by decide) (by decide)|rfl):PT X (.Compare a [op] [b] pos) (tB t):=by intro e s f H Q I j;refine Y3 (cg (h e s f H _ I j) fun v r h1=>cg h1 fun u p l=>cg l fun c o ⟨x,n,m,g,i⟩=> ?_) h1;obtain⟨d,rfl,q⟩:=i;cases g;exact RH ⟨n,m,q⟩
theorem yF {e:Qn} {t:TE} (h:PE X e t) (l:∀whole,isTrue e X.env whole=(do let v<-whole;standAt e.pos;holding [v] (truthy v)):=by intro _;rfl):PT X e (tB t):=by intro c s f H Q I j;refine isTrue_plain (cg (h c s f H _ I j) fun v o ⟨x,n,m,g,i⟩=> ?_) (l _);obtain⟨d,rfl,q⟩:=i;cases g;exact RH ⟨n,m,q⟩
variable {T S:TT} {U:List Qn}
def JW (t u:TT):TT:=fun d H Q=>t d H fun c e=>if c=Pb then u d e Q else Q Ph e
def NP (t u:TT):TT:=fun d H Q=>t d H fun c e=>if c=Pb then Q Pb e else u d e Q
def KM (t:TT):TT:=fun d H Q=>t d H fun c e=>Q (!c) e
theorem zN (ha:PT X a T):PW X (.BoolOp .And [a] pos) T:=by
 intro g d s f H Q I h;refine isTrue_and (cg (ha d s f H Q I h) fun c i e=> ?_);cases c with
 |true=>exact isTrue_and_nil e
 |false=>exact e
theorem KF (ha:PT X a T):PW X (.BoolOp .Or [a] pos) T:=by
 intro g d s f H Q I h;refine isTrue_or (cg (ha d s f H Q I h) fun c i e=> ?_);cases c with
 |false=>exact isTrue_or_nil e
 |true=>exact e
theorem EF (ha:PT X a T) (hb:PW X (.BoolOp .And (b::U) pos) S):PW X (.BoolOp .And (a::b::U) pos) (JW T S):=by
 intro j d s e H Q I h;refine isTrue_and (cg (ha d s e H _ I h) fun c l ⟨i,g,f⟩=> ?_);cases c with
 |true=>exact hb j d l e i Q g f
 |false=>exact⟨i,g,f⟩
theorem ME (ha:PT X a T) (hb:PW X (.BoolOp .Or (b::U) pos) S):PW X (.BoolOp .Or (a::b::U) pos) (NP T S):=by
 intro j d s e H Q I h;refine isTrue_or (cg (ha d s e H _ I h) fun c l ⟨i,g,f⟩=> ?_);cases c with
 |true=>exact⟨i,g,f⟩
 |false=>exact hb j d l e i Q g f
theorem Co (ha:PT X a T):PT X (.UnaryOp .Not a pos) (KM T):=by intro d s e H Q I h;exact isTrue_not (ha d s e H (fun c f=>Q (!c) f) I h)
def HX (Y Z:TE):TE:=fun d H Q=>Y d H fun x e=>∃c,x= .bl c/\if c=Pb then Z d e Q else Q (.bl Ph) e
theorem Dt {op} (h:PE X a t):PE X (.BoolOp op [a] pos) t:=fun c s d H Q I e=>BoolOp_one (h c s d H Q I e)
theorem FX (ha:PE X a Y) (hb:PE X (.BoolOp .And (b::U) pos) Z):PE X (.BoolOp .And (a::b::U) pos) (HX Y Z):=by
 intro d s f H Q I h;refine BoolOp_and (cg (ha d s f H _ I h) fun v j ⟨x,i,g,l,e⟩=> ?_);obtain⟨c,rfl,e⟩:=e;cases l;refine RH ?_;cases c with
 |true=>exact hb d j f i Q g e
 |false=>exact⟨.bl Ph,i,g,rfl,e⟩
end
def Um (K:OK) (H:Hp) (a:Pc) (xs:List V):Prop:=
 Rd H a (.lst xs)\/
  ∃(o:Obj) (b:Array OW) (n:Nat),K.lookup a=lD o/\o.cls= .type "list"/\o.dict=Ld/\o.data= .seq b n/\b.size<=Po/\Vals xs b.toList
def TX (K:OK) (H:Hp) (a:Pc) (xs:List V):Prop:=
 Rd H a (.tup xs)\/
  ∃(o:Obj) (b:Array OW) (n:Nat),K.lookup a=lD o/\(o.cls= .type "tuple"/\o.dict=Ld)/\o.data= .seq b n/\b.size<=Po/\Vals xs b.toList
def NN:OW->Option V
 | .none=>lD .S4
 | .bool b=>lD (.bl b)
 | .int i _=>lD (.int i)
 | .str x _=>lD (.str x)
 | .bytes b _=>lD (.byt b)
 | .float b _=>lD (.flt b)
 | .ref a=>lD (.ref a)
 | .type n=>lD (.ty n)
 |_=>Ld
theorem RelV.abs (r:RelV x u):NN u=lD x:=by
 cases x with
 |S4=>cases r;rfl
 |bl _=>cases r;rfl
 |int _=>obtain⟨t,rfl⟩:=r;rfl
 |str _=>obtain⟨t,rfl⟩:=r;rfl
 |byt _=>obtain⟨t,rfl⟩:=r;rfl
 |flt _=>obtain⟨t,rfl⟩:=r;rfl
 |ref _=>cases r;rfl
 |ty _=>cases r;rfl
theorem RelV.inj (r:RelV x u) (q:RelV y u):x=y:=PK (r.abs.symm.trans q.abs)
theorem Vals.inj:∀{xs ys:List V} {a:List OW},Vals xs a->Vals ys a->xs=ys
 |_,_,_,.nil,.nil=>rfl
 |_,_,_,.cons r t,.cons r' t'=>by rw[r.inj r',Vals.inj t t']
section
variable {X:Cx} {Z:List (Pc×Obj)} {Y:St} {H:Hp} {s:Pa} {a:Pc} {xs ys:List V}
theorem Um.of {K:OK} (h:H a=lD (.lst xs)):Um K H a xs:= .inl (.inl h)
theorem TX.of {K:OK} (h:H a=lD (.tup xs)):TX K H a xs:= .inl (.inl h)
theorem Inv.list (I:Inv X Z Y H s) (h:Um X.K H a xs):∃Qh:List OW,Vals xs Qh/\PlainL s.heap a Qh.toArray/\xs.length<=Po:=by
 rcases h with h|⟨o,Qh,n,hk,hc,hd,hs,hz,r⟩
 .obtain⟨z,Qh,n,r,e⟩:=h.ok I.Ro;exact⟨Qh,r,⟨_,n,e,rfl,rfl,rfl⟩,z⟩
 .refine⟨Qh.toList,r,⟨o,n,I.XB a o hk,hc,hd,by simpa using hs⟩,?_⟩;have e:=r.length;simp only[PJ] at e;omega
theorem Inv.tuple (I:Inv X Z Y H s) (h:TX X.K H a xs):∃Qh:List OW,Vals xs Qh/\IsTup s.heap a Qh.toArray/\xs.length<=Po:=by
 rcases h with h|⟨o,Qh,n,hk,hc,hs,hz,r⟩
 .obtain⟨z,Qh,r,p⟩:=h.ok I.Ro;exact⟨Qh,r,p.tup,z⟩
 .refine⟨Qh.toList,r,⟨o,I.XB a o hk,hc.1,n,by simpa using hs⟩,?_⟩;have e:=r.length;simp only[PJ] at e;omega
theorem Inv.aaG (I:Inv X Z Y H s) (h:TX X.K H a xs):∃Qh:List OW,Vals xs Qh/\Vf s.heap a Qh.toArray/\xs.length<=Po:=by
 rcases h with h|⟨o,Qh,n,hk,hc,hs,hz,r⟩
 .obtain⟨z,Qh,r,p⟩:=h.ok I.Ro;exact⟨Qh,r,p,z⟩
 .refine⟨Qh.toList,r,⟨o,I.XB a o hk,⟨hc.1,n,by simpa using hs⟩,hc.2⟩,?_⟩;have e:=r.length;simp only[PJ] at e;omega
theorem Inv.YF (I:Inv X Z Y H s) (h:Um X.K H a xs) (h':Um X.K H a ys):xs=ys:=by
 obtain⟨i,r,⟨o,n,e,_,_,d⟩,_⟩:=I.list h;obtain⟨g,f,⟨j,l,b,_,_,c⟩,_⟩:=I.list h';rw[e] at b;cases b;rw[d] at c;injection c with d1 _;have:i=g:=by simpa using congrArg aae d1
 subst this;exact r.inj f
theorem Inv.X1 (I:Inv X Z Y H s) (h:TX X.K H a xs) (h':TX X.K H a ys):xs=ys:=by
 obtain⟨i,r,⟨o,e,_,n,d⟩,_⟩:=I.tuple h;obtain⟨g,f,⟨j,b,_,l,c⟩,_⟩:=I.tuple h';rw[e] at b;cases b;rw[d] at c;injection c with d1 _;have:i=g:=by simpa using congrArg aae d1
 subst this;exact r.inj f
end
abbrev Cx.Vr (X:Cx) (E:OW->Pa->Prop):Cx:={X with xe:=E}
abbrev Cx.Zl (X:Cx):Cx:=X.Vr fun _ _=>False
theorem Cx.Ok.Vr {X:Cx} (ok:X.Ok) (E:OW->Pa->Prop):(X.Vr E).Ok:=
 ⟨ok.mod,ok.kind,ok.glob,ok.blt,ok.above,ok.inj,ok.has,ok.cab,ok.hd,ok.frames,ok.stk,ok.exf,ok.bs,ok.Zv,ok.X7,ok.XW,ok.Vq,ok.frf⟩
theorem Cx.Ok.T7 {X:Cx} (ok:(X.Vr E).Ok):X.Ok:=
 ⟨ok.mod,ok.kind,ok.glob,ok.blt,ok.above,ok.inj,ok.has,ok.cab,ok.hd,ok.frames,ok.stk,ok.exf,ok.bs,ok.Zv,ok.X7,ok.XW,ok.Vq,ok.frf⟩
section
variable {X:Cx} {Z:List (Pc×Obj)} {Y:St} {H:Hp} {s:Pa} {E:OW->Pa->Prop}
theorem Inv.Vr (I:Inv X Z Y H s) (E:OW->Pa->Prop):Inv (X.Vr E) Z Y H s:=⟨I.ok.Vr E,I.os,I.bare,I.base,I.loc,I.cell,I.free,I.Uu,I.pin,I.Ro,I.len⟩
theorem Inv.T7 (I:Inv (X.Vr E) Z Y H s):Inv X Z Y H s:=⟨I.ok.T7,I.os,I.bare,I.base,I.loc,I.cell,I.free,I.Uu,I.pin,I.Ro,I.len⟩
theorem SP.T7 (h:SP (X.Vr E) Z D f s'):SP X Z D f s':=by
 cases f with
 |next=>obtain⟨a,b,I,q⟩:=h;exact⟨a,b,I.T7,q⟩
 |brk=>obtain⟨a,b,I,q⟩:=h;exact⟨a,b,I.T7,q⟩
 |cont=>obtain⟨a,b,I,q⟩:=h;exact⟨a,b,I.T7,q⟩
 |ret u=>obtain⟨v,a,b,I,r,q⟩:=h;exact⟨v,a,b,I.T7,r,q⟩
theorem VS.Zl {st:List Sl} (h:VS X.Zl st t):VS X st t:=fun Z s Y H D I a=>
 wpAny_mono (h Z s Y H D (I.Vr _) a) (fun _ _ q=>q.T7) fun _ _ z=>False.elim z
end
section
variable {X:Cx} {st:Sl} {Y:List Sl} {t u:TS} {e:Qn} {Z:TE} {pos:Pos}
def Fi:TS:=fun D a H=>D.nx a H
def K8 (t u:TS):TS:=fun D a H=>t {D with nx:=u D} a H
theorem eR:VS X [] Fi:=fun _ _ a H _ I h=>UP ⟨a,H,I,h⟩
theorem ag (h1:PS X st t) (g:VS X Y u):VS X (st::Y) (K8 t u):=by
 intro a s c H D I h;refine abq (cg (h1 a s c H {D with nx:=u D} I h) fun f d q=> ?_);cases f with
 |next=>obtain⟨b,j,i,q⟩:=q;exact g a d b j D i q
 |ret v=>exact q
 |brk=>exact q
 |cont=>exact q
theorem aG (h1:PS X st t):VS X [st] t:=by
 intro a s b H D I h;refine abq (cg (h1 a s b H D I h) fun f c q=> ?_);cases f with
 |next=>exact UP q
 |ret v=>exact q
 |brk=>exact q
 |cont=>exact q
theorem Inv.quiet {a:List (Pc×Obj)} {b:St} {H:Hp} {s:Pa} (I:Inv X a b H s):interactive X.env=Ph:=by simp[interactive,I.ok.kind]
def Cy (Z:TE):TS:=fun D a H=>Z a H fun _ b=>D.nx a b
theorem kf (d:PE X e Z) (hs:Rm e Ld pos.line X.env=pure Ph:=by rfl):PS X (.Expr e pos) (Cy Z):=by intro a s b H D I h;exact wpAny_Expr_any (cg (d a s b H _ I h) fun v i ⟨x,g,f,j,c⟩=>⟨b,g,f,c⟩) I.quiet hs
def JA (Z:TE):TS:=fun D a H=>Z a H D.rt
theorem bQ (f:PE X e Z):PS X (.Return (lD e) pos) (JA Z):=by intro a s b H D I h;exact wpAny_Return_some (cg (f a s b H _ I h) fun v j ⟨x,i,g,c,d⟩=>⟨x,b,i,g,c,d⟩)
def JN (c:TT) (t u:TS):TS:=fun D a H=>c a H fun b d=>if b=Pb then t D a d else u D a d
theorem jQ (n:PT X c tc) (ha:VS X a t) (hb:VS X b u):PS X (.If c a b pos) (JN tc t u):=by
 intro f s g H D I h;refine wpAny_If (cg (n f s g H _ I h) fun d i ⟨m,l,j⟩=> ?_);cases d with
 |true=>exact ha f i g m D l j
 |false=>exact hb f i g m D l j
def Ek:TS:=fun _ _ _=>False
theorem wN:PS X st Ek:=fun _ _ _ _ _ _ h=>h.elim
end
abbrev TG:=V->St->Hp->(St->Hp->Prop)->Prop
abbrev KZ:=List V->St->Hp->(St->Hp->Prop)->Prop
def PG (X:Cx) (a:Qn) (t:TG):Prop:=
 ∀(b:List (Pc×Obj)) (s:Pa) (c:St) (H:Hp) (v:V) (u:OW) (Q:St->Hp->Prop),Inv X b c H s->RelV v u->t v c H Q->
  wpAny (model X.prog X.w) X.A (assign a X.env u) (fun _ d=>∃σ' H',Inv X b σ' H' d/\Q σ' H') X.xe s
def Ng (X:Cx) (d:List Qn) (t:KZ):Prop:=
 ∀(a:List (Pc×Obj)) (s:Pa) (b:St) (H:Hp) (vs:List V) (c:List OW) (Q:St->Hp->Prop),Inv X a b H s->Vals vs c->t vs b H Q->
  wpAny (model X.prog X.w) X.A (assignInOrder ((assignEach d X.env).map (·.2)) c) (fun _ e=>∃σ' H',Inv X a σ' H' e/\Q σ' H') X.xe s
abbrev N0:=V->V->Hp->VK->Prop
def Np (X:Cx) (op:Operator) (t:N0):Prop:=
 ∀(a:List (Pc×Obj)) (s:Pa) (b:St) (H:Hp) (x y:V) (v u:OW) (Q:VK),Inv X a b H s->RelV x v->RelV y u->t x y H Q->
  wpAny (model X.prog X.w) X.A (inplaceOp op v u) (EP X a b Q) X.xe s
section
variable {X:Cx} {pos:Pos}
def rL (i:Nat):TG:=fun v a H Q=>Q (a.set i (lD v)) H
theorem cJ (hN:X.N.Nodup) (hi:X.N[i]? =lD x) (hx:Mm X.env.scope x) (hf:X.fn x=Pb\/X.env.scope.names.lookup x=lD .local:=by first|exact .inl rfl|exact .inr rfl|assumption):PG X (.Name x pos) (rL i):=by intro pins s σ H v u Q I r h;exact wpAny_assign_Name (qM I hN hi hx r (fun s' I'=>⟨_,H,I',h⟩) hf)
def KY:KZ:=fun vs a H Q=>vs=[]/\Q a H
def CS (t:TG) (u:KZ):KZ:=fun vs b H Q=>∃v r,vs=v::r/\t v b H fun a c=>u r a c Q
theorem nZ:Ng X [] KY:=by intro a s b H vs c Q I r h;obtain⟨e,h⟩:=h;subst e;cases r;exact assignInOrder_nil ⟨b,H,I,h⟩
theorem gD (h1:PG X e t) (i:Ng X es u)
  (hs:(assignEach (e::es) X.env).map (·.2)=assign e X.env::(assignEach es X.env).map (·.2):=by rfl):Ng X (e::es) (CS t u):=by
 intro a s c H vs o Q I r h;obtain⟨v,n,j,h⟩:=h;subst j;cases r with
 |cons r f=>rw[hs];refine assignInOrder_cons (cg (h1 a s c H _ _ _ I r h) fun _ d ⟨b,m,l,g⟩=> ?_);exact i a d b m _ _ Q l f g
def Lj (K:OK) (n:Nat) (t:KZ):TG:=fun v b H Q=>∃a xs,v= .ref a/\TX K H a xs/\xs.length=n/\t xs b H Q
theorem tF (m:X.calm=Pb) (h:Ng X es t)
  (hn:(assignEach es X.env).length=n:=by rfl) (q:(assignEach es X.env).findIdx? (·.1)=Ld:=by rfl):PG X (.Tuple es k pos) (Lj X.K n t):=by
 intro c s f H v u Q I r d;obtain⟨a,xs,p,j,l,d⟩:=d;subst p;cases r;obtain⟨B,rv,i,z⟩:=I.tuple j;refine assign_Tuple_tuple (I.ok.hd m) i (by simp[hn,<-l,rv.length]) q fun A g=> ?_;have w:=I.kept (t':=s.toks) fun b o e=>g b o (PU (Heap.lt_size e)) e;exact h c _ f H xs _ Q w (by simpa using rv) d
def Hf (b:TE) (g:TG):TS:=fun D a H=>b a H fun x c=>g x a c D.nx
theorem JL (l:PE X e te) (j:PG X tg g) (hs:swapsWithSole [tg] e pos.line X.env=pure Ph:=by rfl) (i:swappedStores [tg] e X.env=pure Ld:=by rfl)
  (h1:(assignEach [tg] X.env).map (·.2)=[assign tg X.env]:=by rfl):PS X (.Assign [tg] e pos) (Hf te g):=by
 intro a s b H D I h;refine wpAny_Assign_stores (cg (l a s b H _ I h) fun v c ⟨x,n,m,d,f⟩=> ?_) hs i;rw[h1];exact cg (j a c b n x v _ m d f) fun _ o q=>q
theorem bW {i:Nat} {x:Str} {e:Qn} {te:TE} {pos':Pos} (hN:X.N.Nodup) (hi:X.N[i]? =lD x) (hx:Mm X.env.scope x) (he:PE X e te) (hs:Rm e (lD (.Name x pos')) pos.line X.env=pure Ph:=by rfl) (hf:X.fn x=Pb\/X.env.scope.names.lookup x=lD .local:=by first|exact .inl rfl|exact .inr rfl|assumption):
  PS X (.Assign [.Name x pos'] e pos) (Hf te (rL i)):=by
 intro pins s σ H D I h;refine wpAny_Assign_Name (cg (he pins s σ H _ I h) fun v s1 ⟨y,H1,I1,r1,q1⟩=> ?_) hs;exact qM I1 hN hi hx r1 (fun s2 I2=>⟨_,H1,I2,q1⟩) hf
def Na (i:Nat) (c:TE) (b:N0):TS:=fun D a H=>∃x,a[i]? =lD (lD x)/\c a H fun y e=>b x y e fun z d=>D.nx (a.set i (lD z)) d
theorem DT (hN:X.N.Nodup) (hi:X.N[i]? =lD x) (hx:Mm X.env.scope x) (he:PE X e te) (ho:Np X op ti) (hf:X.fn x=Pb\/X.env.scope.names.lookup x=lD .local:=by first|exact .inl rfl|exact .inr rfl|assumption):
  PS X (.AugAssign (.Name x pos') op e pos) (Na i te ti):=by
 intro pins s σ H D I h;obtain⟨v,e1,h⟩:=h;obtain⟨m,hn,hl⟩:=I.loc;have vis:Nz X.env.scope x:=by rcases hx with k|k;exact .inl k;exact .inr (.inl k)
 obtain⟨u,r,l⟩:=hl i x v hi e1 vis;refine wpAny_AugAssign_Name ?_;have go:wpAny (model X.prog X.w) X.A (eval e X.env) (fun w s₂=>wpAny (model X.prog X.w) X.A (inplaceOp op u w) (fun r s₃=>wpAny (model X.prog X.w) X.A (storeName X.env x r) (fun _=>SP X pins D .next) X.xe s₃) X.xe s₂) X.xe s:=by refine cg (he pins s σ H _ I h) fun w s1 ⟨y,H1,I1,r1,q1⟩=> ?_;refine cg (ho pins s1 σ H1 v y u w _ I1 r r1 q1) fun z s2 ⟨zv,H2,I2,r2,q2⟩=> ?_;exact qM I2 hN hi hx r2 (fun s3 I3=>⟨_,H2,I3,q2⟩) hf
 rcases l with⟨hk,hm⟩|⟨hk,c,hc,Xx⟩
 .exact Zn I.ok.kind hk hn hm go
 .rcases hk with hk|hk
  .exact ZT I.ok.kind hk hc Xx go
  .rcases hx with k|k
   .have:X.env.scope.names.lookup x=lD .free:=hk;rw[k] at this;cases this
   .have:X.env.scope.names.lookup x=lD .free:=hk;rw[k] at this;cases this
def Om (f:Int->Int->Int):N0:=fun x y H Q=>∃i j,x= .int i/\y= .int j/\Q (.int (f i j)) H
theorem K1:Np X .Sub (Om fun i j=>i - j):=by intro a s f H x y v u Q I c b h;obtain⟨i,j,e,d,q⟩:=h;subst e;subst d;obtain⟨t,rfl⟩:=c;obtain⟨g,rfl⟩:=b;exact isub_int ⟨.int _,H,I.tok _,⟨_,rfl⟩,q⟩
end
section
variable {X:Cx} {pos:Pos}
def CY (c:TT) (e:TS):TS:=fun D a H=>∃W:Nat->St->Hp->Prop,(∃m,W m a H)/\∀m a H,W m a H->
 c a H fun b d=>if b=Pb then∃N:St->Hp->Prop,(∀σ' H',N σ' H'->∃m',m'<m/\W m' σ' H')/\e {D with nx:=N,ct:=N,bk:=D.nx} a d else D.nx a d
theorem qJ (r:Ti (model X.prog X.w) X.A X.env X.xe) (M:PT X c tc) (hb:VS X body tb):PS X (.While c body [] pos) (CY tc tb):=by
 intro d s C H D I h;obtain⟨W,⟨L,F⟩,g⟩:=h;refine wpAny_While (codeAny_whileLoop (fun n K=>∃σ' H',Inv X d σ' H' K/\W n σ' H') ?_ L ⟨C,H,I,F⟩);rintro n J ⟨e,B,O,E⟩;refine Sa r (cg (M d J e B _ O (g n e B E)) fun b G ⟨z,u,l⟩=> ?_);cases b with
 |true=>
  obtain⟨N,t,l⟩:=l;rw[if_pos rfl];refine Sa r (cg (hb d G e z _ u l) fun f P j=> ?_);cases f with
  |next=>obtain⟨a,i,q,o⟩:=j;obtain⟨p,hm,m⟩:=t a i o;exact⟨p,hm,a,i,q,m⟩
  |cont=>obtain⟨a,i,q,o⟩:=j;obtain⟨p,hm,m⟩:=t a i o;exact⟨p,hm,a,i,q,m⟩
  |brk=>exact j
  |ret v=>exact j
 |false=>rw[if_neg Pt];exact UP ⟨e,z,u,l⟩
end
structure It where
 go:Nat->Hp->Prop
 yld:Nat->Hp->V->Hp->Prop
 stop:Nat->Hp->Prop
def qL (X:Cx) (a:List (Pc×Obj)) (H:Hp) (b:Pc):Prop:=
 H b=Ld/\b≠X.env.locals/\b∉X.fs/\(b∈X.ex\/X.s₀.heap.objs.size<=b)/\(∀x c,X.env.cells.lookup x=lD c->c≠b)/\∀p∈X.pn++a,p.1≠b
theorem Inv.W8 (I:Inv X pins σ H s) (hb:s.heap.objs.size<=b) (hn:H' b=Ld):qL X pins H' b:=by
 refine⟨hn,RD (PD I.lt hb),I.aef hb,.inr (Pp I.sz hb),fun x c e z=> ?_,fun p a z=> ?_⟩
 .obtain⟨v,q⟩:=I.cell x c e;exact absurd (PD q.lt (by rw[z];exact hb)) (Qq _)
 .exact absurd (PD (Heap.lt_size (I.pin p a).1) (by rw[z];exact hb)) (Qq _)
structure Turn (P:PF) (w:Qc) (K:OK) (tg:Qn) (J:It) (fp:List Pc) (it:Pc) (tn:Nat->Heap->Prop):Prop where
 mem:it∈fp
 obj:∀i h,tn i h->∀b∈fp,∃o,h.get? b=lD o/\∀v,o.data≠ .cell v
 keep:∀i h h',tn i h->(∀b∈fp,∀o,h.get? b=lD o->h'.get? b=lD o)->tn i h'
 item:∀(X:Cx),X.prog=P->X.w=w->X.K=K->X.calm=Pb->∀(i:Nat) (pins:List (Pc×Obj)) (s:Pa) (σ:St) (H:Hp) (E:OW->Pa->Prop),Inv X pins σ H s->(∀b∈fp,qL X pins H b)->tn i s.heap->J.go i H->
  wpAny (model P w) X.A (pyNext (.ref it)) (fun r s1=>∃u,r=lD u/\
   wpAny (model P w) X.A (letOwnedTupleGo tg (.ref it) u) (fun _ s2=>∃x H',Inv X pins σ H' s2/\RelV x u/\J.yld i H x H'/\tn (i+1) s2.heap/\∀b∈fp,H' b=Ld) E s1) E s
 done:∀(X:Cx),X.prog=P->X.w=w->X.K=K->X.calm=Pb->∀(i:Nat) (pins:List (Pc×Obj)) (s:Pa) (σ:St) (H:Hp) (E:OW->Pa->Prop),Inv X pins σ H s->(∀b∈fp,qL X pins H b)->tn i s.heap->J.stop i H->
  wpAny (model P w) X.A (pyNext (.ref it)) (fun r s1=>r=Ld/\Inv X pins σ H s1) E s
 self:∀(A:PX) (i:Nat) (s:Pa) (Q:OW->Pa->Prop) (E:OW->Pa->Prop),tn i s.heap->Q (.ref it) s->wpAny (model P w) A (pyIter (.ref it)) Q E s
abbrev TI:=St->Hp->(It->Hp->Prop)->Prop
def Ov (X:Cx) (a:List (Pc×Obj)) (i:St) (j:Qn) (R:It->Hp->Prop) (c:OW) (f:Pa):Prop:=
 ∃(g:Pc) (h:List Pc) (e:Nat->Heap->Prop) (J:It) (d:Hp),c= .ref g/\Inv X a i d f/\Turn X.prog X.w X.K j J h g e/\e 0 f.heap/\(∀b∈h,qL X a d b)/\R J d
def PI (X:Cx) (e b:Qn) (d:TI):Prop:=
 ∀(a:List (Pc×Obj)) (s:Pa) (c:St) (H:Hp) (R:It->Hp->Prop),Inv X a c H s->d c H R->
  wpAny (model X.prog X.w) X.A (eval b X.env) (fun v f=>wpAny (model X.prog X.w) X.A (pyIter v) (Ov X a c e R) X.xe f) X.xe s
theorem AE {M:Model} {A:PX} {E:OW->Pa->Prop} {s:Pa} {b:Qn} {it:Pc} {u:OW} {o:Obj} {n:String} {vs:Array OW} {Q:Unit->Pa->Prop} (c:s.heap.get? it=lD o) (e:o.cls= .type n) (d:o.data= .fields vs)
  (hn:["enumerate","zip","dict_itemiterator","dict_reverseitemiterator","odict_iterator","itertools.zip_longest","itertools.pairwise"].contains n=Ph) (a:Q () s):wpAny M A (letOwnedTupleGo b (.ref it) u) Q E s:=by
 unfold letOwnedTupleGo;cases b<;>first
  |exact OY a
  |(cases u<;>first
    |exact OY a
    |(refine Bn (aaf c ?_)
      rw[e,d];show wpAny M A (if(["enumerate","zip","dict_itemiterator","dict_reverseitemiterator","odict_iterator","itertools.zip_longest","itertools.pairwise"].contains n&&vs[0]? ==lD (rawInt _))=Pb then _ else _) Q E s;rw[if_neg (by intro h;rw[hn,Tw] at h;cases h)];exact OY a))
def N7 (K:OK) (a:Pc):It:=
 ⟨fun i H=>∃xs x,Um K H a xs/\xs[i]? =lD x,fun i H x b=>b=H/\∀xs,Um K H a xs->xs[i]? =lD x,fun i H=>∃xs,Um K H a xs/\xs.length<=i⟩
def Oa (K:OK) (a:Pc):It:=
 ⟨fun i H=>∃xs x,TX K H a xs/\xs[i]? =lD x,fun i H x b=>b=H/\∀xs,TX K H a xs->xs[i]? =lD x,fun i H=>∃xs,TX K H a xs/\xs.length<=i⟩
def Nc (lo:Int) (n:Nat):It:=⟨fun i _=>i<n,fun i H x a=>a=H/\x= .int (lo+i),fun i _=>n<=i⟩
theorem BX {K:OK} (a it:Pc):Turn P w K tg (N7 K a) [it] it (fun i h=>h.IsListIter it a i) where
 mem:=by simp
 obj:=fun i h st b f=>by
  have e:b=it:=by simpa using f
  subst e;obtain⟨o,e,c,d⟩:=st;exact⟨o,e,fun v z=>by rw[d] at z;cases z⟩
 keep:=fun i h L st k=>st.at fun o e=>k it (by simp) o e
 item:=by intro X r n t J i g s N H E I l st q;subst r n t;obtain⟨xs,x,j,m⟩:=q;obtain⟨Qh,rv,p,S⟩:=I.list j;obtain⟨u,U,Q⟩:=rv.get m;obtain⟨G,F,Y,C,B,A⟩:=l it (by simp);refine wpAny_pyNext_list_item st p.isList (by simpa using U) fun L M O=> ?_;have I1:=I.turned (t':=s.toks) (fun b o f e=>(O.2 b f).trans e) G F C B A;obtain⟨o,e,c,d⟩:=id M;exact⟨u,rfl,AE e c d (by decide) ⟨x,H,I1,Q,⟨rfl,fun ys T=>by rw[I.YF T j];exact m⟩,M,fun b f=>(l b f).1⟩⟩
 done:=by intro X r n t J i g s N H E I l st q;subst r n t;obtain⟨xs,j,m⟩:=q;obtain⟨Qh,rv,p,S⟩:=I.list j;obtain⟨G,F,Y,C,B,A⟩:=l it (by simp);have hl:=rv.length;exact wpAny_pyNext_list_end (I.ok.hd J) st p.isList (by simp;omega) fun L Z=>⟨rfl,I.turned (fun b o f e=>Z b o f e) G F C B A⟩
 self:=fun _ _ _ _ _ st h=>wpAny_pyIter_listiter st h
theorem yy {K:OK} (a it:Pc):Turn P w K tg (Oa K a) [it] it (fun i h=>h.IsTupleIter it a i) where
 mem:=by simp
 obj:=fun i h st b f=>by
  have e:b=it:=by simpa using f
  subst e;obtain⟨o,e,c,d⟩:=st;exact⟨o,e,fun v z=>by rw[d] at z;cases z⟩
 keep:=fun i h M st k=>st.at fun o e=>k it (by simp) o e
 item:=by intro X r n t L i g s O H E I l st q;subst r n t;obtain⟨xs,x,j,m⟩:=q;obtain⟨J,rv,p,T⟩:=I.tuple j;obtain⟨u,Y,S⟩:=rv.get m;obtain⟨G,F,Z,C,B,A⟩:=l it (by simp);refine wpAny_pyNext_tuple_item st (show s.heap.IsTuple a J.toArray from p) (by simpa using Y) fun M N Q=> ?_;have I1:=I.turned (t':=s.toks) (fun b o f e=>(Q.2 b f).trans e) G F C B A;obtain⟨o,e,c,d⟩:=id N;exact⟨u,rfl,AE e c d (by decide) ⟨x,H,I1,S,⟨rfl,fun ys U=>by rw[I.X1 U j];exact m⟩,N,fun b f=>(l b f).1⟩⟩
 done:=by intro X r n t L i g s O H E I l st q;subst r n t;obtain⟨xs,j,m⟩:=q;obtain⟨J,rv,p,T⟩:=I.tuple j;obtain⟨G,F,Z,C,B,A⟩:=l it (by simp);have hl:=rv.length;exact wpAny_pyNext_tuple_end (I.ok.hd L) st (show s.heap.IsTuple a J.toArray from p) (by simp;omega) fun M eb=>⟨rfl,I.turned (fun b o f e=>eb b o f e) G F C B A⟩
 self:=fun _ _ _ _ _ st h=>wpAny_pyIter_tupleiter st h
theorem xD {K:OK} (it:Pc) (lo:Int) (n:Nat):Turn P w K tg (Nc lo n) [it] it (fun i h=>IsRangeIter h it (lo+(i:Nat)*1) ((n:Int) - (i:Nat)) 1) where
 mem:=by simp
 obj:=fun i h st b c=>by
  have e:b=it:=by simpa using c
  subst e;exact⟨_,st,fun v z=>by have G:=z;cases G⟩
 keep:=fun i h p st k=>k it (by simp) _ st
 item:=by intro X l f m j i a s C H E I d st g;subst l f m;obtain⟨B,A,N,u,r,q⟩:=d it (by simp);have W:=Walks.range (prog:=X.prog) (w:=X.w) (I.ok.hd j) it lo 1 n;refine W.item i s _ _ g st fun v p J M F L=> ?_;obtain⟨t,rfl⟩:=M;have Q:Inv X a C H {s with heap:=p,toks:=J}:=I.turned (fun b o c e=>L b o (by simpa using c) e) B A u r q;refine⟨_,rfl,AE F rfl rfl (by decide) ⟨.int (lo+i),H,Q,⟨t,?_⟩,⟨rfl,rfl⟩,F,fun b c=>(d b c).1⟩⟩;rw[Int.mul_one]
 done:=by intro X l f m j i a s C H E I d st g;subst l f m;obtain⟨B,A,N,u,r,q⟩:=d it (by simp);exact wpAny_pyNext_range_end (I.ok.hd j) st (by have:n<=i:=g;omega) fun p O=>⟨rfl,I.turned (fun b o c e=>O b o c e) B A u r q⟩
 self:=fun _ _ _ _ _ st h=>wpAny_pyIter_rangeiter st h
section
variable {X:Cx} {Z:Qn}
theorem EX {a:List (Pc×Obj)} {c:St} {H:Hp} {s:Pa} {R:It->Hp->Prop} {E:OW->Pa->Prop} {lo hi:Int} {t u v:Tok} {d:Nat} (I:Inv X a c H s) (h1: -(2^62)<=lo) (j:lo<2^62) (i: -(2^62)<=hi) (h:hi<2^62)
  (q:R (Nc lo (hi - lo).toNat) H):wpAny (model X.prog X.w) X.A (pyIter (.ref s.heap.objs.size)) (Ov X a c Z R) E {s with heap:=s.heap.push {cls:= .type "range",data:= .fields #[.int lo t,.int hi u,.int 1 v]},toks:=d}:=by
 refine wpAny_pyIter_range (IsRange.new ..) (small_one h1 j i h) ?_;have f:Inv X a c H {s with heap:=s.heap.push {cls:= .type "range",data:= .fields #[.int lo t,.int hi u,.int 1 v]},toks:=d}:=I.kept fun b o e=>Heap.get?_push_of_some _ e;refine⟨(s.heap.push {cls:= .type "range",data:= .fields #[.int lo t,.int hi u,.int 1 v]}).objs.size,[(s.heap.push {cls:= .type "range",data:= .fields #[.int lo t,.int hi u,.int 1 v]}).objs.size],_,_,H,rfl,
  f.kept (t':=d) fun b o e=>Heap.get?_push_of_some _ e,xD _ lo (hi - lo).toNat,?_,fun b g=> ?_,q⟩
 .have m:lo+((0:Nat):Int)*1=lo:=by simp
  have l:(((hi - lo).toNat:Nat):Int) - ((0:Nat):Int)=Builtin.Range.rangeSize lo hi 1:=by rw[rangeSize_one];split<;>omega
  show IsRangeIter _ _ (lo+((0:Nat):Int)*1) ((((hi - lo).toNat:Nat):Int) - ((0:Nat):Int)) 1;rw[m,l];exact Heap.get?_push_size _ rfl
 .have e:b=(s.heap.push {cls:= .type "range",data:= .fields #[.int lo t,.int hi u,.int 1 v]}).objs.size:=by simpa using g
  subst e;exact f.W8 (O8 _) (f.Ro.fresh (O8 _))
def IH (b:TA):TI:=fun a H R=>b a H fun vs c=>∃j:Int,vs=[.int j]/\ -(2^62)<=j/\j<2^62/\R (Nc 0 j.toNat) c
theorem iq (l:Gl X "range") (hm:X.mg "range"=Ld) (ha:PA X [a] ta) (hs:Qy [a] X.env=[(Ph,eval a X.env)]:=by rfl):PI X Z (.Call (.Name "range" p) [a] [] pos) (IH ta):=by
 intro b s d H R I h;refine Call_ (mC I l hm boot_range (RK (cg (ha pos b s d H _ I h) fun n o ⟨vs,u,m,g,c⟩=> ?_) hs rfl));obtain⟨j,e,c,i,q⟩:=c;subst e;cases g with
 |cons r f=>cases f;obtain⟨t,rfl⟩:=r;exact call_range_1 (EX m (by omega) (by omega) c i (by simpa using q))
def JT (c:TI) (g:TG) (d:TS):TS:=fun D a H=>c a H fun J f=>∃W:Nat->Nat->St->Hp->Prop,(∃m,W 0 m a f)/\∀i m a H,W i m a H->
 (J.stop i H/\D.nx a H)\/(J.go i H/\∃N:St->Hp->Prop,(∀σ' H',N σ' H'->∃m',m'<m/\W (i+1) m' σ' H')/\∀x H',J.yld i H x H'->g x a H' fun b e=>d {D with nx:=N,ct:=N,bk:=D.nx} b e)
def qE (fp:List Pc) (h:Heap):List (Pc×Obj):=fp.filterMap fun b=>(h.get? b).map fun o=>(b,o)
theorem iM (hb:b∈fp) (e:h.get? b=lD o):(b,o)∈qE fp h:=QB.mpr ⟨b,hb,by rw[e];rfl⟩
theorem Bi (a:p∈qE fp h):p.1∈fp/\h.get? p.1=lD p.2:=by
 obtain⟨b,c,e⟩:=QB.mp a;cases q:h.get? b with
 |none=>rw[q] at e;cases e
 |some o=>rw[q] at e;have d:=PK e;subst d;exact⟨c,q⟩
theorem Inv.pinned (I:Inv X pins σ H s) (h:∀b∈fp,qL X pins H b) (g:∀b∈fp,∃o,s.heap.get? b=lD o/\∀v,o.data≠ .cell v):Inv X (pins++qE fp s.heap) σ H s:=
 I.XH fun p f=>(Pw.mp f).elim (fun z=>I.pin p (PM _ z)) fun z=>by obtain⟨a,e⟩:=Bi z;obtain⟨l,j,i,_⟩:=h p.1 a;obtain⟨o,c,d⟩:=g p.1 a;rw[e] at c;cases c;exact⟨e,l,j,i,d⟩
theorem Inv.UY (I:Inv X (pins++pl) σ H s):Inv X pins σ H s:=I.XH fun p a=>I.pin p (PM _ (Qs _ a))
theorem mO (L:Ti (model X.prog X.w) X.A X.env X.xe) (hc:X.calm=Pb) (hi:PI X Z iter wi) (hg:PG X Z g) (hb:VS X body tb)
  (hs:∀x,foldedSetIterable iter X.env x=pure x:=by intro _;rfl):PS X (.For Z iter body [] pos) (JT wi g tb):=by
 intro c s σ H D I h;refine wpAny_For (cg (hi c s σ H _ I h) fun v s1 h1=>cg h1 fun itv s2 h2=> ?_) hs;obtain⟨it,O,tn,J,H2,e,I2,T,S,f2,W,⟨m0,w0⟩,E⟩:=h2;subst e;have C:∀{t:Hp},(∀b∈O,t b=Ld)->∀b∈O,qL X c t b:=fun hn b hb=>⟨hn b hb,(f2 b hb).2⟩;refine codeAny_forLoop_any (fun n s'=>∃i σ' t,Inv X c σ' t s'/\tn i s'.heap/\(∀b∈O,t b=Ld)/\W i n σ' t) ?_ m0 ⟨0,σ,H2,I2,S,fun b hb=>(f2 b hb).1,w0⟩;rintro n s3 ⟨i,j,P,I3,G,M,w3⟩;rcases E i n j P w3 with⟨F,qn⟩|⟨go,N,hN,step⟩
 .refine Sa L (cg (T.done X rfl rfl rfl hc i c s3 j P X.xe I3 (C M) G F) fun r s4 ⟨Y,I4⟩=> ?_);subst Y;exact UP ⟨j,P,I4,qn⟩
 .refine Sa L (cg (T.item X rfl rfl rfl hc i c s3 j P X.xe I3 (C M) G go) fun r s4 ⟨u,Y,h4⟩=> ?_)
  subst Y;refine Sa L (cg h4 fun _ s5 ⟨x,H5,I5,r5,y5,B,fr5⟩=> ?_);have I5':=I5.pinned (C fr5) (T.obj _ _ B);refine Sa L (cg (hg _ s5 j H5 x u _ I5' r5 (step x H5 y5)) fun _ s6 ⟨Q,H6,I6,q6⟩=> ?_);refine Sa L (cg (hb _ s6 Q H6 _ I6 q6) fun f U z=> ?_);have l:∀{a:St} {q:Hp},Inv X (c++qE O s5.heap) a q U->N a q->∃m,m<n/\∃i σ' t,Inv X c σ' t U/\tn i U.heap/\(∀b∈O,t b=Ld)/\W i m σ' t:=fun{a q} p K=>by obtain⟨m',hm,w7⟩:=hN a q K;refine⟨m',hm,i+1,a,q,p.UY,T.keep _ _ _ B fun b hb o e=>(p.pin (b,o) (PM _ (PM _ (iM hb e)))).1,fun b hb=> ?_,w7⟩;obtain⟨o,e,d⟩:=T.obj _ _ B b hb;exact(p.pin (b,o) (PM _ (PM _ (iM hb e)))).2.1
  cases f with
  |next=>obtain⟨a,q,p,K⟩:=z;exact l p K
  |cont=>obtain⟨a,q,p,K⟩:=z;exact l p K
  |brk=>obtain⟨a,q,p,z⟩:=z;exact⟨a,q,p.UY,z⟩
  |ret v=>obtain⟨x7,a,q,p,r7,z⟩:=z;exact⟨x7,a,q,p.UY,r7,z⟩
end
abbrev R2:=V->V->Hp->VK->Prop
def OpR (X:Cx) (f:OW->OW->Sem OW) (r:R2):Prop:=
 ∀(a:List (Pc×Obj)) (s:Pa) (b:St) (H:Hp) (x y:V) (v u:OW) (Q:VK),Inv X a b H s->RelV x v->RelV y u->r x y H Q->
  wpAny (model X.prog X.w) X.A (f v u) (EP X a b Q) X.xe s
def N4 (X:Cx) (f:OW->Sem OW) (r:V->Hp->VK->Prop):Prop:=
 ∀(a:List (Pc×Obj)) (s:Pa) (b:St) (H:Hp) (x:V) (v:OW) (Q:VK),Inv X a b H s->RelV x v->r x H Q->
  wpAny (model X.prog X.w) X.A (f v) (EP X a b Q) X.xe s
def iG (X:Cx) (f:OW) (r:List V->Hp->VK->Prop):Prop:=
 ∀(a:List (Pc×Obj)) (s:Pa) (b:St) (H:Hp) (xs:List V) (c:List OW) (Q:VK),Inv X a b H s->Vals xs c->r xs H Q->
  wpAny (model X.prog X.w) X.A (call f c) (EP X a b Q) X.xe s
def Il (r:R2) (c b:TE):TE:=fun a H Q=>c a H fun x e=>b a e fun y d=>r x y d Q
def NM (r:V->Hp->VK->Prop) (b:TE):TE:=fun a H Q=>b a H fun x c=>r x c Q
def rI (C:Int->Int->Prop) (g:Int->Int->V):R2:=fun x y H Q=>∃i j,x= .int i/\y= .int j/\C i j/\Q (g i j) H
def xo (g:Int->Int->V):R2:=fun x y H Q=>∃i j,x= .int i/\y= .int j/\Q (g i j) H
def rU (g:Int->V):V->Hp->VK->Prop:=fun x H Q=>∃i,x= .int i/\Q (g i) H
section
variable {X:Cx} {a b c:Qn} {Z Y tc:TE} {pos:Pos}
theorem Ku (ha:PE X a Z) (hb:PE X b Y) {R:V->V->Hp->Prop} (I:Inv X pins σ H s)
  (h:Z σ H fun x H1=>Y σ H1 fun y H2=>R x y H2) {f:OW->OW->Sem OW}
  (l:∀v u s2 x y H2,Inv X pins σ H2 s2->RelV x v->RelV y u->R x y H2->wpAny (model X.prog X.w) X.A (f v u) Q X.xe s2):
  wpAny (model X.prog X.w) X.A (eval a X.env) (fun v s₁=>wpAny (model X.prog X.w) X.A (eval b X.env) (fun u s₂=>wpAny (model X.prog X.w) X.A (f v u) Q X.xe s₂) X.xe s₁) X.xe s:=by
 refine cg (ha pins s σ H _ I h) fun v d ⟨x,H1,n,g,j⟩=> ?_;refine cg (hb pins d σ H1 _ n j) fun u s2 ⟨y,H2,m,e,i⟩=> ?_;exact l v u s2 x y H2 m g e i
theorem iz (j:OpR X (Ri op) r) (ha:PE X a Z) (hb:PE X b Y):PE X (.BinOp a op b pos) (Il r Z Y):=by intro d s e H Q I h;exact wpAny_BinOp (Ku ha hb I h fun v u f x y m l i g q=>j d f e m x y v u Q l i g q)
theorem FD (j:N4 X (unaryOp op) r) (ha:PE X a Z):PE X (.UnaryOp op a pos) (NM r Z):=by intro d s e H Q I h;exact UnaryOp_ (cg (ha d s e H _ I h) fun v f ⟨x,m,l,g,i⟩=>j d f e m x v Q l g i)
theorem Nw {g:Int->Int->Int}
  (d:∀(i j:Int) (t u:Tok) (s:Pa) (Q:OW->Pa->Prop) (E:OW->Pa->Prop),C i j->Q (.int (g i j) s.toks) {s with toks:=s.toks+1}->wpAny (model X.prog X.w) X.A (f (.int i t) (.int j u)) Q E s):
  OpR X f (rI C fun i j=> .int (g i j)):=by
 intro e s p H x y v u Q I n m h;obtain⟨i,j,rfl,rfl,o,q⟩:=h;obtain⟨t,rfl⟩:=n;obtain⟨l,rfl⟩:=m;exact d i j t l s _ _ o ⟨.int (g i j),H,I.tok _,⟨_,rfl⟩,q⟩
theorem MV {g:Int->Int->Int}
  (d:∀(i j:Int) (t u:Tok) (s:Pa) (Q:OW->Pa->Prop) (E:OW->Pa->Prop),Q (.int (g i j) s.toks) {s with toks:=s.toks+1}->wpAny (model X.prog X.w) X.A (f (.int i t) (.int j u)) Q E s):
  OpR X f (xo fun i j=> .int (g i j)):=by
 intro e s o H x y v u Q I n m h;obtain⟨i,j,rfl,rfl,q⟩:=h;obtain⟨t,rfl⟩:=n;obtain⟨l,rfl⟩:=m;exact d i j t l s _ _ ⟨.int (g i j),H,I.tok _,⟨_,rfl⟩,q⟩
theorem Gr {g:Int->Int->Bool}
  (d:∀(i j:Int) (t u:Tok) (s:Pa) (Q:OW->Pa->Prop) (E:OW->Pa->Prop),Q (.bool (g i j)) s->wpAny (model X.prog X.w) X.A (f (.int i t) (.int j u)) Q E s):
  OpR X f (xo fun i j=> .bl (g i j)):=by
 intro e s o H x y v u Q I n m h;obtain⟨i,j,rfl,rfl,q⟩:=h;obtain⟨t,rfl⟩:=n;obtain⟨l,rfl⟩:=m;exact d i j t l s _ _ ⟨.bl (g i j),H,I,rfl,q⟩
def KQ (i j:Int):Prop:=0<=j/\j<=1000000/\i.natAbs<2^64
def Zx (i j:Int):Prop:=(-(2^64)<i/\i<2^64)\/(-(2^64)<j/\j<2^64)
theorem Zx.ok (h:Zx i j):IntMulOk i j:=by
 rcases h with⟨h1,d⟩|⟨h1,d⟩
 .exact .of_left (ae3 h1 d)
 .exact .of_right (ae3 h1 d)
theorem JI:OpR X (Ri .Add) (xo fun i j=> .int (i+j)):=MV fun _ _ _ _ _ _ _ q=>add_int q
theorem Kh:OpR X (Ri .Sub) (xo fun i j=> .int (i - j)):=MV fun _ _ _ _ _ _ _ q=>sub_int q
theorem Ky:OpR X (Ri .Mult) (rI Zx fun i j=> .int (i*j)):=Nw fun _ _ _ _ _ _ _ d q=>mul_int q d.ok
theorem pE:OpR X (Ri .Mod) (rI (fun _ j=>0<j) fun i j=> .int (i % j)):=Nw fun i j _ _ _ _ _ d q=>by have h1:(0:Int)<j:=d;exact mod_int' (by omega) (by rw[Int.fmod_eq_emod_of_nonneg i (by omega)];exact q)
theorem Lf:OpR X (Ri .Pow) (rI KQ fun i j=> .int (i^j.toNat)):=Nw fun _ _ _ _ _ _ _ d q=>pow_int_small d.1 d.2.1 d.2.2 q
theorem OM {g:Int->Int}
  (d:∀(i:Int) (t:Tok) (s:Pa) (Q:OW->Pa->Prop) (E:OW->Pa->Prop),Q (.int (g i) s.toks) {s with toks:=s.toks+1}->wpAny (model X.prog X.w) X.A (f (.int i t)) Q E s):
  N4 X f (rU fun i=> .int (g i)):=by
 intro e s l H x v Q I j h;obtain⟨i,rfl,q⟩:=h;obtain⟨t,rfl⟩:=j;exact d i t s _ _ ⟨.int (g i),H,I.tok _,⟨_,rfl⟩,q⟩
theorem yu:N4 X (unaryOp .USub) (rU fun i=> .int (-i)):=OM fun _ _ _ _ _ q=>neg_int q
end
section
variable {X:Cx} {a b c:Qn} {Y Z tc:TE} {pos:Pos}
theorem Dh (I:Inv X pins σ H s) (q:Q (.bl k) H) (e:k=k'):EP X pins σ Q (.bool k') s:=by subst e;exact⟨.bl k,H,I,rfl,q⟩
theorem HW:OpR X (Rf .Lt) (xo fun i j=> .bl (decide (i<j))):=Gr fun _ _ _ _ _ _ _ q=>lt_int q
theorem LK:OpR X (Rf .LtE) (xo fun i j=> .bl (decide (i<=j))):=Gr fun _ _ _ _ _ _ _ q=>le_int q
theorem C0:OpR X (Rf .Gt) (xo fun i j=> .bl (decide (j<i))):=Gr fun _ _ _ _ _ _ _ q=>gt_int q
theorem LH:OpR X (Rf .GtE) (xo fun i j=> .bl (decide (j<=i))):=Gr fun _ _ _ _ _ _ _ q=>ge_int q
theorem Dw:OpR X (Rf .Is) (fun x y H Q=>y= .S4/\Q (.bl (decide (x= .S4))) H):=by
 intro e s g H x y v u Q I d f h;obtain⟨rfl,q⟩:=h;cases f;refine is_none_gen (Dh I q ?_);cases x<;>first
  |(cases d;rfl)
  |(obtain⟨t,rfl⟩:=d;rfl)
theorem Aa:OpR X (Rf .IsNot) (fun x y H Q=>y= .S4/\Q (.bl (!decide (x= .S4))) H):=by
 intro e s g H x y v u Q I d f h;obtain⟨rfl,q⟩:=h;cases f;refine isnot_none_gen (Dh I q ?_);cases x<;>first
  |(cases d;rfl)
  |(obtain⟨t,rfl⟩:=d;rfl)
theorem iL (b:Qn) (h:op≠ .In:=by decide) (d:op≠ .NotIn:=by decide):behindInMarks op b=Ph:=by
 have f:(op==CmpOp.In)=Ph:=by cases op<;>first|rfl|exact absurd rfl h
 have e:(op==CmpOp.NotIn)=Ph:=by cases op<;>first|rfl|exact absurd rfl d
 cases b<;>simp[behindInMarks,f,e]
theorem oM {op:CmpOp} {r:R2} (j:OpR X (Rf op) r) (ha:PE X a Y) (hb:PE X b Z) (hm:behindInMarks op b=Ph):PE X (.Compare a [op] [b] pos) (Il r Y Z):=by intro d s e H Q I h;exact ado (Ku ha hb I h fun v u f x y m l i g q=>j d f e m x y v u Q l i g q) hm
def DJ (t:TE):TT:=fun d H Q=>t d H fun x e=>∃k,x= .bl k/\Q k e
theorem fY (q:OpR X (Rf op) r) (ha:PE X a Y) (hb:PE X b Z) (hm:behindInMarks op b=Ph):PT X (.Compare a [op] [b] pos) (DJ (Il r Y Z)):=by
 intro d s f H Q I h;refine Y3 (cg (ha d s f H _ I h) fun v i ⟨x,E,A,m,p⟩=>cg (hb d i f E _ A p) fun u g ⟨y,C,w,l,o⟩=>
  cg (q d g f C x y v u _ w m l o) fun c F ⟨z,B,t,j,k,e,n⟩=> ?_) hm
 subst e;cases j;exact RH ⟨B,t,n⟩
theorem tL:(Po:Nat)<2^63:=by rw[Wv];decide
theorem yB:OpR X (Ri .Add) (fun x y H Q=>∃i j,x= .str i/\y= .str j/\i.length+j.length<=Po/\Q (.str (i++j)) H):=by intro d s m H x y v u Q I g f h;obtain⟨i,j,rfl,rfl,l,q⟩:=h;obtain⟨t,rfl⟩:=g;obtain⟨e,rfl⟩:=f;exact add_str (fun e n=>⟨.str (i++j),H,I.tok _,⟨_,rfl⟩,q⟩) l
theorem nF (r:Vals [x] us):∃u,us=[u]/\RelV x u:=by
 cases r with
 |cons e d=>cases d;exact⟨_,rfl,e⟩
theorem Iw (r:Vals [x,y] us):∃u w',us=[u,w']/\RelV x u/\RelV y w':=by
 cases r with
 |cons g f=>
  cases f with
  |cons e d=>cases d;exact⟨_,_,rfl,g,e⟩
theorem Bg (f:X.calm=Pb):iG X (.builtin "max") (fun xs H Q=>∃i j,xs=[.int i,.int j]/\Q (.int (if j>i then j else i)) H):=by
 intro e s g H xs m Q I r h;obtain⟨i,j,rfl,q⟩:=h;obtain⟨u,l,rfl,⟨t,rfl⟩,⟨o,rfl⟩⟩:=Iw r;refine max_two_ints (I.ok.hd f) fun p n k=>⟨_,H,I.kept k,?_,q⟩;by_cases d:j>i
 .rw[if_pos d,if_pos d];exact⟨_,rfl⟩
 .rw[if_neg d,if_neg d];exact⟨_,rfl⟩
def Mq (K:OK) (x:V) (H:Hp) (n:Nat):Prop:=
 match x with
 | .str y=>y.length<=Po/\n=y.length
 | .byt y=>y.size<=Po/\n=y.size
 | .ref p=>(∃xs,Um K H p xs/\n=xs.length)\/∃xs,TX K H p xs/\n=xs.length
 |_=>False
theorem k8:iG X (.builtin "len") (fun xs H Q=>∃x n,xs=[x]/\Mq X.K x H n/\Q (.int n) H):=by
 intro l s w H xs z Q I r h;obtain⟨x,n,rfl,e,q⟩:=h;obtain⟨u,rfl,g⟩:=nF r;have B:=tL;have A:=Wv;cases x with
 |str y=>obtain⟨t,rfl⟩:=g;obtain⟨o,f⟩:=e;subst f;exact len_str (by omega) ⟨.int _,H,I.tok _,⟨_,rfl⟩,q⟩
 |byt y=>obtain⟨t,rfl⟩:=g;obtain⟨o,f⟩:=e;subst f;exact PySem.W.len_bytes (by omega) ⟨.int _,H,I.tok _,⟨_,rfl⟩,q⟩
 |ref p=>
  cases g;have f:=e;rcases f with⟨xs,j,f⟩|⟨xs,j,f⟩
  .subst f;obtain⟨v,i,pl,m⟩:=I.list j;have d:=i.length;exact Calls.call_len_list pl.isList (by simp only[Pm];omega) ⟨.int xs.length,H,I.tok _,⟨_,by simp only[Pm];rw[d]⟩,q⟩
  .subst f;obtain⟨v,i,pl,m⟩:=I.tuple j;have d:=i.length;exact len_tuple pl (by simp only[Pm];omega) ⟨.int xs.length,H,I.tok _,⟨_,by simp only[Pm];rw[d]⟩,q⟩
 |_=>exact(show False from e).elim
end
structure ahP (h:Heap) (x dx C:Pc) (mA:Str->Option OW):Prop where
 obj:h.get? x=lD (X8 C dx)
 ns:h.Ns1 dx mA
 ne:dx≠x
theorem UE.some_of (r:UE (lD v) o):∃u,o=lD u/\RelV v u:=by
 cases o with
 |none=>exact(show False from r).elim
 |some u=>exact⟨u,rfl,r⟩
structure Cls (K:OK) (C:Pc):Prop where
 pg:XI K C Str.empty=Pb
 hd:Xi K C=Pb
 po:Xj K C=Pb
 sa:Q5 K (.ref C) "__setattr__"=lD (lD (.builtin "object.__setattr__"))
def Jv (K:OK) (C:Pc) (f:Str):Prop:=Q5 K (.ref C) f=lD Ld
structure Con (K:OK) (C:Pc) (f:Str) (v:V) (u:OW):Prop where
 at_:Q5 K (.ref C) f=lD (lD u)
 rel:RelV v u
 get:Xk K u "__get__"=lD Ld
 cp:PySem.W.copiedNames.contains f=Ph
structure Meth (K:OK) (C:Pc) (m:Str) (f:Pc):Prop where
 at_:Q5 K (.ref C) m=lD (lD (.ref f))
 fn:Wh K (.ref f)=Pb
 kp:RF K (.ref f)=Pb
section
variable {X:Cx} {pins:List (Pc×Obj)} {σ:St} {H:Hp} {s:Pa} {A:PX} {E:OW->Pa->Prop} {Q:OW->Pa->Prop} {c:OW} {b:Bool}
inductive VJ (K:OK) (H:Hp):V->OW->Prop where
 |S4:VJ K H .S4 (.type "NoneType")
 |bl (x:Bool):VJ K H (.bl x) (.type "bool")
 |int (i:Int):VJ K H (.int i) (.type "int")
 |str (x:Str):VJ K H (.str x) (.type "str")
 |flt (x:UInt64):VJ K H (.flt x) (.type "float")
 |lst {a:Pc} {xs:List V} (e:H a=lD (.lst xs)):VJ K H (.ref a) (.type "list")
 |frz {a:Pc} {o:Obj} {xs:List V} (e:H a=lD (.frz o (.lst xs))):VJ K H (.ref a) (.type "list")
 |tup {a:Pc} {xs:List V} (e:H a=lD (.tup xs)):VJ K H (.ref a) (.type "tuple")
 |dK {a:Pc} {kvs:List (bT×V)} (e:H a=lD (.dK kvs)):VJ K H (.ref a) (.type "dict")
 |dT {a:Pc} {kvs:List (List bT×V)} (e:H a=lD (.dT kvs)):VJ K H (.ref a) (.type "dict")
 |ins {a C dx:Pc} {fs:List (Str×V)} (e:H a=lD (.ins C dx fs)) (cl:Cls K C) (ha:Q5 K (.ref C) "__class__"=lD (lD (.builtin "object.__class__")))
   (hn:Xk K (.builtin "object.__class__") "__get__"=lD (lD (.builtin "getset_descriptor.__get__"))) (htk:PySem.W.takesIn K (.builtin "object.__class__")=lD Pb)
   (hm:PySem.W.mroIn K C (.type "object")=lD Pb):VJ K H (.ref a) (.ref C)
end
structure S5 (k:Nat) (A:PX):Prop where
 hd:A.handled=Ld
 dp:A.depth+3*k+5<recursionLimit
 un:A.units+16*k+200<cLine
theorem S5.mono (r:S5 k A) (h:j<=k):S5 j A:=⟨r.hd,by have:=r.dp;omega,by have:=r.un;omega⟩
theorem S5.deeper (r:S5 (k+1) A) (env:Env):S5 k (A.deeper env):=
 ⟨r.hd,by have:=r.dp;show A.depth+1+3*k+5<_;omega,by have:=r.un;show A.units+3+16*k+200<_;omega⟩
theorem S5.depth (r:S5 k A):A.depth<recursionLimit:=by have:=r.dp;omega
theorem S5.units (r:S5 k A):A.units+64<cLine:=by have:=r.un;omega
def qw:TA:=fun _ H Q=>Q [] H
def gQ (c:TE) (b:TA):TA:=fun a H Q=>c a H fun x e=>b a e fun xs d=>Q (x::xs) d
section
variable {X:Cx} {e:Qn} {Z:List Qn} {te:TE} {t:TA} {pos:Pos}
theorem aJ:PA X [] qw:=fun _ _ _ _ H Q I h=>Calls.spliced_nil ⟨[],H,I,.nil,h⟩
theorem az (ha:PE X e te) (j:PA X Z t) (hs:Qy (e::Z) X.env=(Ph,eval e X.env)::Qy Z X.env:=by rfl):PA X (e::Z) (gQ te t):=by intro pos a s b H Q I h;rw[hs];refine Calls.spliced_cons (cg (ha a s b H _ I h) fun u c ⟨x,o,m,f,i⟩=> ?_);exact cg (j pos a c b o _ m i) fun p q ⟨xs,n,l,d,g⟩=>⟨x::xs,n,l,.cons f d,g⟩
def Gx (t:TA):TE:=fun b H Q=>t b H fun xs a=>xs.length<=Po/\∀p,a p=Ld->Q (.ref p) (upd a p (.tup xs))
def Mu (t:TA):TE:=fun b H Q=>t b H fun xs a=>xs.length<=Po/\∀p,a p=Ld->Q (.ref p) (upd a p (.lst xs))
theorem fw {x1} (h:PA X Z t):PE X (.Tuple Z x1 pos) (Gx t):=by intro a s f H Q I i;refine wpAny_Tuple_spliced (cg (h pos a s f H _ I i) fun g c ⟨xs,l,d,r,z,q⟩=>⟨by rw[<-r.length];exact z,?_⟩);have j:=d.Ro.fresh (O8 _);refine⟨.ref c.heap.objs.size,upd l c.heap.objs.size (.tup xs),d.laid (fun b u e=>Heap.get?_push_of_some _ e) (O8 _) ?_,rfl,q _ j⟩;exact⟨z,g,r,⟨_,Heap.get?_push_size _ rfl,⟨rfl,_,rfl⟩,rfl⟩⟩
theorem iV (h:PA X Z t):PE X (.List Z pos) (Mu t):=by intro a s f H Q I i;refine wpAny_List_spliced (cg (h pos a s f H _ I i) fun g c ⟨xs,l,d,r,z,q⟩=>⟨by rw[<-r.length];exact z,?_⟩);have j:=d.Ro.fresh (O8 _);refine⟨.ref c.heap.objs.size,upd l c.heap.objs.size (.lst xs),d.laid (fun b u e=>Heap.get?_push_of_some _ e) (O8 _) ?_,rfl,q _ j⟩;exact⟨z,g,0,r,Heap.get?_push_size _ rfl⟩
end
abbrev Sp:=List V->Hp->VK->XK->Prop
abbrev xF:=List Env->Hp->Pa->XK->OW->Pa->Prop
structure ZC (P:PF) (w:Qc) (K:OK) (mg:Str->Option OW) (base:Heap) (A:PX) (outer:List Env) (s:Pa) (H:Hp):Prop where
 frames:A.frames=lD outer
 mod:Mod K mg base
 bs:∀b o,base.get? b=lD o->s.heap.get? b=lD o/\H b=Ld
 Zv:base.objs.size<=s.heap.objs.size
 Vq:s.heap.FunFrames base outer
 frf:∀b∈Cf outer,H b=Ld
 Ro:U3 P w H s.heap
 bare:AllBare s.gens
def CE (outer:List Env) (P:PF) (w:Qc) (H:Hp) (s:Pa) (Q:VK) (u:OW) (a:Pa):Prop:=
 ∃v H',a.os=s.os/\AllBare a.gens/\Un (Cf outer) [] H H' s.heap a.heap/\U3 P w H' a.heap/\RelV v u/\Q v H'
def CR (b:xF) (outer:List Env) (P:PF) (w:Qc) (H:Hp) (s:Pa) (Q:VK) (E:XK) (r:Vy) (a:Pa):Prop:=
 match r with
 | .ok (.ret u)=>CE outer P w H s Q u a
 | .ok _=>False
 | .error e=>b outer H s E e a
structure FnOk (P:PF) (w:Qc) (K:OK) (mg:Str->Option OW) (base:Heap) (CX:xF) (k:Nat) (f:Pc) (fd:QR) (ps:List Str) (sp:Sp):Prop where
 len:∀vs H Q E,sp vs H Q E->vs.length=ps.length
 run:∀(A:PX) (outer:List Env) (s:Pa) (H:Hp) (args:Args) (us:List OW) (vs:List V) (Q:VK) (E:XK),S5 k A->ZC P w K mg base A outer s H->Vg s fd args (ps.zip us)->Vals vs us->sp vs H Q E->
  codeAny (model P w) A (.call (.ref f) args) (CR CX outer P w H s Q E) s
theorem FnOk.imp {P:PF} {w:Qc} {K:OK} {mg:Str->Option OW} {base:Heap} {d:xF} {k:Nat} {f:Pc} {fd:QR} {ps:List Str} {sp b:Sp} (F:FnOk P w K mg base d k f fd ps sp)
  (h:∀vs H Q E,b vs H Q E->sp vs H Q E):FnOk P w K mg base d k f fd ps b:=
 ⟨fun vs H Q E q=>F.len vs H Q E (h _ _ _ _ q),fun A a s H c e vs Q E j l m g i=>F.run A a s H c e vs Q E j l m g (h _ _ _ _ i)⟩
section
variable {X:Cx} {Z:List (Pc×Obj)} {Y:St} {H:Hp} {s U:Pa}
theorem Inv.aez (I:Inv X Z Y H s):ZC X.prog X.w X.K X.mg X.base X.A X.stack s H:=
 ⟨I.ok.frames,I.ok.mod,I.bs,Pp I.ok.Zv I.sz,I.stack,I.XD,I.Ro,I.bare⟩
theorem Inv.after {Q:VK} {u:OW} (I:Inv X Z Y H s) (h:CE X.stack X.prog X.w H s Q u U):EP X Z Y Q u U:=by obtain⟨v,j,e,a,un,i,r,q⟩:=h;obtain⟨f,g,d,t,c⟩:=U;obtain rfl:c=s.os:=e;exact⟨v,j,I.call (h':=f) (g':=g) (d':=d) (t':=t) (ch:=[]) un i a (fun b z=>absurd z (by simp)),r,q⟩
end
def sk (sp:Sp) (b:List V) (E:XK) (t:TA):TE:=fun a H Q=>t a H fun vs c=>sp (vs++b) c Q E
def Binds (K:OK) (fd:QR) (ps:List Str) (ds:List OW):Prop:=
 ∀(s:Pa) (a:List OW),K.In s.heap->(a++ds).length=ps.length->Vg s fd ⟨a,[]⟩ (ps.zip (a++ds))
theorem Binds.all {K:OK} {fd:QR} {ps:List Str} (h:∀us:List OW,us.length=ps.length->bindArgs fd ⟨us,[]⟩=pure (ps.zip us)):Binds K fd ps []:=fun s us _ a=>by rw[PY] at a⊢;exact .of_eq (h us a)
def yM (d:xF) (X:Cx) (E:XK):Prop:=∀(a:List (Pc×Obj)) (c:St) (H:Hp) (s:Pa) (e:OW) (b:Pa),Inv X a c H s->d X.stack H s E e b->X.xe e b
section
variable {X:Cx} {U:xF} {k:Nat} {f C:Pc} {fd:QR} {ps:List Str} {sp:Sp} {Z:List V} {ds:List OW} {E:XK} {x m:Str} {p pos apos:Pos} {e o:Qn} {Y:List Qn} {ta:TE} {t:TA}
theorem Kn {a:List (Pc×Obj)} {d:St} {H:Hp} {s:Pa} {Q:VK} {b:List OW} {vs:List V} (F:FnOk X.prog X.w X.K X.mg X.base U k f fd ps sp) (l:S5 k X.A) (hb:Binds X.K fd ps ds) (q:Vals Z ds) (j:yM U X E)
  (I:Inv X a d H s) (r:Vals vs b) (h:sp (vs++Z) H Q E):wpAny (model X.prog X.w) X.A (call (.ref f) b) (EP X a d Q) X.xe s:=by
 have g:Vals (vs++Z) (b++ds):=r.append q;have n:(b++ds).length=ps.length:=by rw[<-g.length];exact F.len _ _ _ _ h
 refine wpAny_call (Yl (F.run X.A X.stack s H ⟨b,[]⟩ (b++ds) (vs++Z) Q E l I.aez (hb s b I.XB n) g h) fun r i c=> ?_);cases r with
 |error e=>exact j a d H s e i I c
 |ok v=>
  cases v with
  |ret u=>exact I.after c
  |next=>exact False.elim c
  |brk=>exact False.elim c
  |cont=>exact False.elim c
theorem F7 (F:FnOk X.prog X.w X.K X.mg X.base U k f fd ps sp) (i:S5 k X.A) (l:Gl X x) (hm:X.mg x=lD (.ref f)) (j:RF X.K (.ref f)=Pb) (hb:Binds X.K fd ps ds) (u:Vals Z ds) (g:yM U X E)
  (ha:PA X (e::Y) t) (b:(x==("__debug__":Str))=Ph:=by decide) (n:Qy (e::Y) X.env=(Ph,eval e X.env)::Qy Y X.env:=by rfl) (v:(backTo pos (Qy Y X.env)).any (·.1)=Ph:=by rfl):
  PE X (.Call (.Name x p) (e::Y) [] pos) (sk sp Z E t):=by
 intro a s d H Q I h;refine SY (Gj I l hm ?_ b);refine PySem.W.callWith_K I.ok.mod.kin j (cg (ha pos a s d H _ I h) fun z B ⟨vs,G,c,r,q⟩=>⟨c.XB,?_⟩) n v;exact Kn F i hb u g c r q
structure Mk (K:OK) (C f:Pc):Prop where
 makes:X9 K C=Pb
 init:Q5 K (.ref C) "__init__"=lD (lD (.ref f))
 fn:Wh K (.ref f)=Pb
 kp:RF K (.ref C)=Pb
end
section
variable {X:Cx} {CX:xF} {k:Nat} {f C:Pc} {fd:QR} {ps ks:List Str} {sp:Sp} {E:XK} {x m:Str} {p pos apos aht:Pos} {e o:Qn} {es:List Qn} {kws:List VU} {te ta:TE} {t tk:TA} {nm:Option Str}
structure aex (K:OK) (fd:QR) (ps ks:List Str) (g:List OW->List OW->List OW) (gV:List V->List V->List V):Prop where
 to:∀(s:Pa) (us ws:List OW),K.In s.heap->(g us ws).length=ps.length->Vg s fd ⟨us,ks.zip ws⟩ (ps.zip (g us ws))
 rel:∀{vs:List V} {us:List OW} {zs:List V} {ws:List OW},Vals vs us->Vals zs ws->Vals (gV vs zs) (g us ws)
variable {g:List OW->List OW->List OW} {gV:List V->List V->List V}
end
structure Tg (N P:List Str) (sc:TK):Prop where
 kind:sc.kind= .function
 co:sc.isCoroutine=Ph
 gen:sc.isGenerator=Ph
 nd:N.Nodup
 pre:N.take P.length=P
 par:∀x∈P,sc.names.lookup x=lD .local\/sc.names.lookup x=lD .cell
 aaJ:∀y∈sc.names,y.2≠ .free
theorem rK {a:Str->Option Qa}:∀{binds:List (Str×OW)} {m:Str->Option OW},(∀v,(x,v)∉binds)->bindL a binds m x=m x
 |[],_,_=>rfl
 |(n,v)::r,m,h=>by
  unfold bindL;rw[rK fun w b=>h w (Pl _ b)];split
  .have:x≠n:=by rintro rfl;exact h v Pr
   simp[this]
  .rfl
theorem sw {a:Str->Option Qa}:∀{binds:List (Str×OW)} {m:Str->Option OW},(∀v,(x,v)∉binds)->bindC a binds m x=m x
 |[],_,_=>rfl
 |(n,v)::r,m,h=>by
  unfold bindC;rw[sw fun w b=>h w (Pl _ b)];split
  .rfl
  .have:x≠n:=by rintro rfl;exact h v Pr
   simp[this]
theorem rB {kindOf:Str->Option Qa}:∀{P:List Str} {vs:List OW} {i:Nat} {m:Str->Option OW},P.Nodup->P[i]? =lD x->vs[i]? =lD v->kindOf x=lD .local->
  bindL kindOf (P.zip vs) m x=lD v
 |[],_,_,_,_,h,_,_=>by simp at h
 |_::_,[],_,_,_,_,h,_=>by simp at h
 |p::P,w::vs,0,m,nd,h1,h2,hk=>by simp at h1 h2;subst h1;subst h2;show bindL kindOf ((p,w)::P.zip vs) m p=_;unfold bindL;rw[rK fun v hv=>(Qr.mp nd).1 (VP hv).1,if_pos hk];simp
 |p::P,w::vs,i+1,m,nd,h1,h2,hk=>by unfold bindL;exact rB (Qr.mp nd).2 (by simpa using h1) (by simpa using h2) hk
theorem sr {kindOf:Str->Option Qa}:∀{P:List Str} {vs:List OW} {i:Nat} {m:Str->Option OW},P.Nodup->P[i]? =lD x->vs[i]? =lD v->kindOf x≠lD .local->
  bindC kindOf (P.zip vs) m x=lD v
 |[],_,_,_,_,h,_,_=>by simp at h
 |_::_,[],_,_,_,_,h,_=>by simp at h
 |p::P,w::vs,0,m,nd,h1,h2,hk=>by simp at h1 h2;subst h1;subst h2;show bindC kindOf ((p,w)::P.zip vs) m p=_;unfold bindC;rw[sw fun v hv=>(Qr.mp nd).1 (VP hv).1,if_neg hk];simp
 |p::P,w::vs,i+1,m,nd,h1,h2,hk=>by unfold bindC;exact sr (Qr.mp nd).2 (by simpa using h1) (by simpa using h2) hk
def start (N:List Str) (vs:List V):St:=vs.map lD++Pe (N.length - vs.length) Ld
def nR (g:xF) (P:PF) (w:Qc) (K:OK) (mg:Str->Option OW) (base:Heap) (N:List Str) (b:Str) (a:TK) (f:Pc) (d:OW) (A:PX) (outer:List Env) (s:Pa) (H:Hp) (E:XK):Cx where
 prog:=P
 w:=w
 K:=K
 mg:=mg
 base:=base
 A:=A.deeper (envOfC b a s.heap.objs.size f d)
 N:=N
 s₀:=s
 H₀:=H
 env:=envOfC b a s.heap.objs.size f d
 outer:=outer
 stack:=envOfC b a s.heap.objs.size f d::outer
 ex:=[]
 calm:=Pb
 fn:=fun _=>Pb
 pn:=[]
 xe:=fun e h=>wpAny (model P w) (A.deeper (envOfC b a s.heap.objs.size f d)) (leaving (envOfC b a s.heap.objs.size f d) e) (fun _ c=>g outer H s E e c) (fun i c=>g outer H s E i c) h
theorem vO {a:TK} (h:a.names.lookup x=lD .cell):∃c,(Ry n a.names []).lookup x=lD c:=by have q:=SF a.names n [] (.inl h);exact Q3.mp q
theorem Be {K:OK}
  (S:Tg N ps scope) (t:A.handled=Ld) (e0:ZC P w K mg base A outer s H) (C:vs.length=ps.length) (r:Vals vs us)
  (x:InCallC s s.heap.objs.size (bindL (envOfC qual scope s.heap.objs.size f cd).kindOf (ps.zip us) fun _=>Ld) (Ry (s.heap.objs.size+1) scope.names []) (bindC (envOfC qual scope s.heap.objs.size f cd).kindOf (ps.zip us) fun _=>Ld) s1):
  Inv (nR CX P w K mg base N qual scope f cd A outer s H E) [] (start N vs) H s1:=by
 have G:ps.length<=N.length:=by have:=congrArg QY S.pre;rw[Qj] at this;omega
 obtain⟨h1,B,rfl,o⟩:=x.done;have g:∀b:Pc,b∉(nR CX P w K mg base N qual scope f cd A outer s H E).ex:=fun b z=>absurd (show b∈([]:List Pc) from z) (by simp);refine⟨⟨e0.mod,S.kind,rfl,rfl,O8 _,fun y z c h1 d=> ?_,fun y j=> ?_,fun y c _ h=> ?_,fun _=>t,PX.frames_deeper e0.frames,.inr ⟨rfl,rfl⟩,fun b z=>absurd z (g b),e0.bs,e0.Zv,fun b _ _=>g b,fun b z=>absurd z (g b),e0.Vq,e0.frf⟩,
  rfl,e0.bare,Un.kept o,⟨_,x.toInCall.ns,fun i y v h1 d F=> ?_⟩,fun y c h=>⟨_,x.cell y c h⟩,e0.Ro.fresh (O8 _),fun y c h=> ?_,fun p m=>absurd (show p∈([]:List (Pc×Obj)) from m) (by simp),e0.Ro.kept o,?_⟩
 .exact name_of_addr x.apart (Rj h1) (Rj d)
 .have j:=j
  rcases j with j|j
  .exact vO j
  .exact absurd rfl (S.aaJ _ (Rj j))
 .exact QJ (x.above y c (Rj h))
 .have hi:i<vs.length:=by
   unfold start at d;by_cases hi:i<vs.length
   .exact hi
   .rw[PH (by simpa using hi)] at d;rw[RJ] at d;split at d<;>cases d
  have ha:vs[i]? =lD v:=by
   unfold start at d;rw[Pz (by simpa using hi),Pg] at d;cases e:vs[i]? with
   |none=>rw[e] at d;cases d
   |some a=>rw[e] at d;cases d;rfl
  obtain⟨u,n,rv⟩:=r.get ha;have m:ps[i]? =lD y:=by rw[<-S.pre,RE (by omega)];exact h1
  have l:ps.Nodup:=by rw[<-S.pre];exact S.nd.sublist (List.take_sublist _ _)
  refine⟨u,rv,?_⟩;rcases S.par y (Pu m) with k|k
  .exact .inl ⟨k,rB l m n k⟩
  .obtain⟨c,e⟩:=vO k;refine .inr ⟨.inl k,c,e,?_⟩;have q:=x.cell y c e;rw[sr l m n (by show scope.names.lookup y≠_;rw[k];decide)] at q;exact q
 .exact e0.Ro.fresh (QJ (x.above y c (Rj h)))
 .unfold start;show _=N.length;rw[OZ,OX,Px];omega
theorem MC {CX:xF} {P:PF} {w:Qc} {K:OK} {mg:Str->Option OW} {base:Heap} {k:Nat} {f:Pc} {name qual:Str} {params:Arguments} {body:List Sl} {scope:TK} {dV kV doc pm Rr ct oc:OW} {an od:Option Pc}
  {Yj:Array (Option OW)} {N ps:List Str} {sp:Sp} (lk:K.lookup f=lD ⟨oc,od,.func (Sb name qual params body scope dV kV doc pm an Rr ct),Yj⟩) (Xy:Uo K Rr qual=Pb) (S:Tg N ps scope)
  (len:∀vs H Q E,sp vs H Q E->vs.length=ps.length)
  (TL:∀(A:PX) (outer:List Env) (s:Pa) (H:Hp) (vs:List V) (Q:VK) (E:XK),S5 k (A.deeper (envOfC qual scope s.heap.objs.size f Rr))->sp vs H Q E->
   ∃t,VS (nR CX P w K mg base N qual scope f Rr A outer s H E) body t/\t {nx:=fun _ H'=>Q .S4 H',rt:=Q} (start N vs) H):
  FnOk P w K mg base CX (k+1) f (Sb name qual params body scope dV kV doc pm an Rr ct) ps sp:=by
 refine⟨len,fun A outer s H args us vs Q E hr e0 hb r hsp=> ?_⟩;have hl:=len _ _ _ _ hsp;have KX:K.In s.heap:=e0.mod.kin.keeps fun b o e=>(e0.bs b o e).1;have lim:s.heap.NoLimit:=e0.mod.nolimit.keeps fun b o e=>(e0.bs b o e).1;have Uy:∀y∈ps.zip us,scope.names.lookup y.1=lD .local\/(scope.names.lookup y.1=lD .cell/\((Ry (s.heap.objs.size+1) scope.names []).lookup y.1).isSome=Pb):=fun⟨n,v⟩ hy=>by
  rcases S.par n (VP hy).1 with q|q
  .exact .inl q
  .exact .inr ⟨q,SF _ _ _ (.inl q)⟩
 refine codeAny_call_function hr.depth (KX _ _ lk) rfl S.co S.gen rfl (PySem.W.codeRec_of KX Xy) (hb _ _ _ _ ?_);refine wpAny_newFunctionEnv_cells S.kind Uy fun env he s1 x=> ?_;subst he;refine⟨lim.keeps x.toInCall.keep,codeAny_func ?_⟩;obtain⟨t,ht,hq⟩:=TL A outer s H vs Q E (hr.deeper _) hsp;have I:Inv (nR CX P w K mg base N qual scope f Rr A outer s H E) [] (start N vs) H s1:=Be S hr.hd e0 hl r x;refine wpAny_mono (ht [] s1 (start N vs) H _ I hq) (fun fl s' hs=> ?_) fun e s' hs=>hs
 have fin:∀{σ':St} {H':Hp} {v:V} {u:OW},Inv (nR CX P w K mg base N qual scope f Rr A outer s H E) [] σ' H' s'->RelV v u->Q v H'->CE outer P w H s Q u s':=
  fun{σ' H' v u} J rv q=>⟨v,H',J.os,J.bare,J.base,J.Ro,rv,q⟩
 cases fl with
 |ret u=>obtain⟨v,σ',H',J,rv,q⟩:=hs;exact fin J rv q
 |next=>obtain⟨σ',H',J,q⟩:=hs;exact fin (v:=V.S4) (u:=OW.none) J rfl q
 |brk=>obtain⟨_,_,_,q⟩:=hs;exact False.elim q
 |cont=>obtain⟨_,_,_,q⟩:=hs;exact False.elim q
section
variable {X:Cx} {x:Str} {p pos:Pos} {e:Qn} {Z:List Qn} {t:TA} {id T:String} {r:List V->Hp->VK->Prop}
def G8 (r:List V->Hp->VK->Prop) (t:TA):TE:=fun a H Q=>t a H fun vs b=>r vs b Q
theorem d9 (n:iG X (.builtin id) r) (l:Gl X x) (hm:X.mg x=Ld) (j:Qx x=lD (.builtin id)) (ha:PA X (e::Z) t) (hn:x≠ "__name__":=by decide) (b:(x==("__debug__":Str))=Ph:=by decide)
  (m:Qy (e::Z) X.env=(Ph,eval e X.env)::Qy Z X.env:=by rfl) (o:(backTo pos (Qy Z X.env)).any (·.1)=Ph:=by rfl):PE X (.Call (.Name x p) (e::Z) [] pos) (G8 r t):=by
 intro a s c H Q I h;refine SY (mC I l hm j ?_ hn b);exact acD (cg (ha pos a s c H _ I h) fun d f ⟨vs,u,q,g,i⟩=>n a f c u vs d Q q g i) m o
theorem gf (n:iG X (.type T) r) (l:Gl X x) (hm:X.mg x=Ld) (j:Qx x=lD (.type T)) (ha:PA X (e::Z) t) (hn:x≠ "__name__":=by decide) (b:(x==("__debug__":Str))=Ph:=by decide)
  (m:Qy (e::Z) X.env=(Ph,eval e X.env)::Qy Z X.env:=by rfl) (o:(backTo pos (Qy Z X.env)).any (·.1)=Ph:=by rfl):PE X (.Call (.Name x p) (e::Z) [] pos) (G8 r t):=by
 intro a s c H Q I h;refine SY (mC I l hm j ?_ hn b);exact RK (cg (ha pos a s c H _ I h) fun d f ⟨vs,u,q,g,i⟩=>n a f c u vs d Q q g i) m o
end
end L2
namespace HT
open PySem PyProof.Rows
section
open PySem.SeqAt
open PySem.AutoSeq1 (wpAny_loadPart')
open PySem.MeetsSeq PySem.MeetsSeq2 PySem.MeetsSeq3
end
section
variable {prog:PF} {w:Qc} {A:PX} {E:OW->Pa->Prop} {s:Pa}
theorem cat_tup {t b:Pc} {vs ws:List OW} {Q:OW->Pa->Prop} (r:IsTup s.heap t vs.toArray) (hb:IsTup s.heap b ws.toArray) (j:vs≠[])
  (h1:ws=[]->Q (.ref t) s) (u:ws≠[]->Q (.ref s.heap.objs.size) {s with heap:=s.heap.push {cls:= .type "tuple",data:= .seq (vs++ws).toArray}})
  (hsz:vs.length+ws.length<=Po):wpAny (model prog w) A (Ri .Add (.ref t) (.ref b)) Q E s:=by
 obtain⟨⟨cls,dd,data,h⟩,d,m,n,l⟩:=id r;obtain⟨⟨v,p,g,q⟩,f,o,i,a⟩:=id hb;simp only at m l o a;subst m l o a;have e:vs.toArray++ws.toArray=(vs++ws).toArray:=by simp
 by_cases c:ws=[]
 .exact Ym ⟨_,d,rfl⟩ ⟨_,f,rfl⟩ SE Tq Rk Ra (Q2 _ _)
   (tuple_addW1 t b vs.toArray ws.toArray n i dd p h q (by simpa using j) (by simp[c])) ⟨d,f,h1 c⟩
 .refine Ym ⟨_,d,rfl⟩ ⟨_,f,rfl⟩ SE Tq Rk Ra (Q2 _ _)
   (tuple_addW2 t b vs.toArray ws.toArray n i dd p h q (by simpa using j) (by simpa using c) (by rw[Pm,Pm];exact hsz)) ⟨d,f,?_⟩
  rw[e];exact u c
def sIx (n d:Nat):Option Int->Nat
 |none=>d
 |some v=>if v<0 then(v+(n:Int)).toNat else min v.toNat n
theorem sIx_none (n d:Nat):sIx n d Ld=d:=rfl
theorem sIx_nat (n d k:Nat):sIx n d (lD (k:Int))=min k n:=by show(if(k:Int)<0 then((k:Int)+(n:Int)).toNat else min (k:Int).toNat n)=min k n;rw[if_neg (by omega),QK]
theorem KO (n d:Nat) (b:d<=n) (o:Option Int):sIx n d o<=n:=by
 cases o with
 |none=>exact b
 |some v=>
  show(if v<0 then(v+(n:Int)).toNat else min v.toNat n)<=n;by_cases a:v<0
  .rw[if_pos a];omega
  .rw[if_neg a];exact Vz _ _
theorem zO (v:Int) (n d:Nat):(if v<0 then max (v+(n:Int)) 0 else min v (n:Int))=((sIx n d (lD v):Nat):Int):=by
 show(if v<0 then max (v+(n:Int)) 0 else min v (n:Int))=(((if v<0 then(v+(n:Int)).toNat else min v.toNat n):Nat):Int);by_cases a:v<0
 .simp only[if_pos a];omega
 .simp only[if_neg a];omega
theorem yn (lo hi:Option Int) (n:Nat):Builtin.Slice.sliceAdjust lo hi 1 (n:Int)=(((sIx n 0 lo:Nat):Int),((sIx n n hi:Nat):Int)):=by
 have h1:¬((1:Int)<0):=by omega
 unfold Builtin.Slice.sliceAdjust;simp only[h1,if_false];refine Prod.ext ?_ ?_
 .cases lo with
  |none=>rfl
  |some v=>exact zO v n 0
 .cases hi with
  |none=>rfl
  |some v=>exact zO v n n
theorem ye (i j:Nat):Builtin.Slice.slicePlaces (i:Int) (j:Int) 1=j - i:=by
 unfold Builtin.Slice.slicePlaces;have h1:(1:Int)>0:=by omega
 simp only[h1,if_true,abr];split<;>omega
theorem gr (p:Uq v o) (h:Q o s):wpAny (model prog w) A (Builtin.Slice.slicePartIndex v) Q E s:=by
 cases p with
 |none=>exact slicePart_none h
 |int i t=>exact slicePart_int h
theorem iI {lo hi:Option Int} {Q:Int×Int×Nat->Pa->Prop} (hs:s.heap.IsSliceOf sl vl vu .none) (pl:Uq vl lo) (c:Uq vu hi)
  (h:Q (((sIx n 0 lo:Nat):Int),1,sIx n n hi - sIx n 0 lo) s):wpAny (model prog w) A (Builtin.Slice.sliceApplied (.ref sl) (pure (n:Int))) Q E s:=by
 obtain⟨d,b,e,a⟩:=id hs;unfold Builtin.Slice.sliceApplied Builtin.Slice.sliceFields;refine Bn (Bn (Tr b a rfl (Bn (Tr b a rfl (Bn (Tr b a rfl (OY ?_)))))));refine Bn (slicePart_none ?_);rw[if_neg (by decide)];refine Bn (gr pl (Bn (gr c (Bn (OY ?_)))));show wpAny _ _ (match Builtin.Slice.sliceAdjust lo hi 1 (n:Int) with|(lo,hi)=>pure (lo,(1:Int),Builtin.Slice.slicePlaces lo hi 1)) _ _ s;rw[yn lo hi n];show wpAny _ _ (pure (((sIx n 0 lo:Nat):Int),(1:Int),Builtin.Slice.slicePlaces ((sIx n 0 lo:Nat):Int) ((sIx n n hi:Nat):Int) 1)) _ _ s;rw[ye];exact OY h
theorem Dq (xs:Array OW) (i k:Nat):((P9 k).filterMap fun(m:Nat)=>xs[((i:Int)+(m:Int)*1).toNat]?).toArray=((xs.toList.drop i).take k).toArray:=by
 have e:(fun(m:Nat)=>xs[((i:Int)+(m:Int)*1).toNat]?)=fun m=>xs[i+m]? :=by
  funext m;have:((i:Int)+(m:Int)*1).toNat=i+m:=by omega
  rw[this]
 rw[e];have:=pick_run xs i k;rw[Ya] at this;have a:((fun x=>xs[x]?)∘fun x=>i+x)=fun m=>xs[i+m]? :=rfl;rw[a] at this;rw[this]
theorem getItem_tuple_cut {lo hi:Option Int} (a:IsTup s.heap t items) (hs:s.heap.IsSliceOf sl vl vu .none) (pl:Uq vl lo) (e:Uq vu hi)
  (g:¬(sIx items.size 0 lo=0/\sIx items.size items.size hi=items.size))
  (h:Q (.ref s.heap.objs.size) {s with heap:=s.heap.push {cls:= .type "tuple",data:= .seq ((items.toList.drop (sIx items.size 0 lo)).take (sIx items.size items.size hi - sIx items.size 0 lo)).toArray}})
  (hsz:items.size<=Po):wpAny (model prog w) A (getItem (.ref t) (.ref sl)) Q E s:=by
 have b:sizeOk (.seq ((items.toList.drop (sIx items.size 0 lo)).take (sIx items.size items.size hi - sIx items.size 0 lo)).toArray):=by show((items.toList.drop (sIx items.size 0 lo)).take (sIx items.size items.size hi - sIx items.size 0 lo)).toArray.size<=Po;rw[Pm,Qj,QE,PJ];omega
 have n:sIx items.size items.size hi<=items.size:=KO _ _ (O8 _) hi;obtain⟨f,j,i,o⟩:=id hs;have d:s.TypeIs (.ref sl) "slice":=⟨f,j,i⟩;unfold getItem
 try with_reducible refine QL ?_
 first|refine Bn (OY ?_)|skip
 refine Bn (VW a.typeIs (by decide) ?_);refine Bn (QS a.typeIs Qd
  (QM Qd a.typeIs entry_tuple_getitem ?_ (args_tuple_getitem _ _)))
 show wpAny _ _ (Builtin.Tuple.tupleItemsOf (.ref t)>>=_) _ _ s;refine Bn (tupleItemsOf_ a ?_);refine Bn (RZ d ?_);rw[if_pos (by decide)];refine Bn (iI hs pl e ?_);have c:¬((((sIx items.size 0 lo:Nat):Int)==0&&(1:Int)==1&&(sIx items.size items.size hi - sIx items.size 0 lo)==items.size)=Pb):=by intro q;rw[PN,PN] at q;have m:=eq_of_beq q.1.1;have l:=eq_of_beq q.2;exact g ⟨by omega,by omega⟩
 show wpAny _ _ (if(((sIx items.size 0 lo:Nat):Int)==0&&(1:Int)==1&&(sIx items.size items.size hi - sIx items.size 0 lo)==items.size)=Pb then _ else _) _ _ s;rw[if_neg c,Dq]
 first
  |exact Bn (P8 (OY ⟨_,rfl,OY h⟩) b)
  |exact Bn (P8 (Bn (OY (OY ⟨_,rfl,OY h⟩))) b)
  |exact Bn (Bn (P8 (OY (OY ⟨_,rfl,OY h⟩)) b))
  |exact Bn (Bn (P8 (OY ⟨_,rfl,OY h⟩) b))
end
end HT
namespace L2
open PySem PySem.Spec PyProof.Rows
abbrev TO:=St->Hp->(Option Int->Hp->Prop)->Prop
def PO (X:Cx) (e:Option Qn) (t:TO):Prop:=
 ∀(a:List (Pc×Obj)) (s:Pa) (b:St) (H:Hp) (Q:Option Int->Hp->Prop),Inv X a b H s->t b H Q->
  wpAny (model X.prog X.w) X.A (evalPart e X.env) (fun u c=>∃o H',Inv X a b H' c/\Uq u o/\Q o H') X.xe s
def zJ:TO:=fun _ H Q=>Q Ld H
def Dy (t:TE):TO:=fun a H Q=>t a H fun x b=>∃i,x= .int i/\Q (lD i) b
section
variable {X:Cx} {e:Qn} {U:TE} {Z Y:Option Qn} {S P:TO} {pos p2:Pos}
theorem oH:PO X Ld zJ:=by intro a s b H Q I h;rw[XJ];exact OY ⟨Ld,H,I,.none,h⟩
theorem jm (h:PE X e U):PO X (lD e) (Dy U):=by intro a s b H Q I f;rw[evalPart_some];refine cg (h a s b H _ I f) fun u l ⟨x,j,g,c,d⟩=> ?_;obtain⟨i,rfl,q⟩:=d;obtain⟨t,rfl⟩:=c;exact⟨lD i,j,g,.int i t,q⟩
def Lq (X:Cx) (r:V->Option Int->Option Int->Hp->VK->Prop):Prop:=
 ∀(a:List (Pc×Obj)) (s:Pa) (b:St) (H:Hp) (x:V) (v d c:OW) (Z Y:Option Int) (f:Pc) (Q:VK),Inv X a b H s->RelV x v->s.heap.IsSliceOf f d c .none->Uq d Z->Uq c Y->r x Z Y H Q->
  ∃T id,typeLookup (.type T) "__getitem__"=pure (lD (.builtin id))/\s.TypeIs v T/\wpAny (model X.prog X.w) X.A (getItem v (.ref f)) (EP X a b Q) X.xe s
def Oq (r:V->Option Int->Option Int->Hp->VK->Prop) (U:TE) (S P:TO):TE:=fun a H Q=>U a H fun x d=>S a d fun l c=>P a c fun u b=>r x l u b Q
theorem jB {r:V->Option Int->Option Int->Hp->VK->Prop} (E:Lq X r) (J:PE X e U) (F:PO X Z S) (B:PO X Y P):PE X (.Subscript e (.Slice Z Y Ld p2) pos) (Oq r U S P):=by intro a s d H Q I h;refine Subscript_ (cg (J a s d H _ I h) fun v m ⟨x,H1,O,n,t⟩=> ?_);refine wpAny_Slice (cg (F a m d H1 _ O t) fun g j ⟨l,H2,N,pl,p⟩=>cg (B a j d H2 _ N p) fun f c ⟨u,i,M,z,o⟩=> ?_);rw[XJ];refine OY ?_;have L:Inv X a d i {c with heap:=c.heap.push {cls:= .type "slice",data:= .fields #[g,f,.none]}}:=M.kept (t':=c.toks) fun b ob q=>Heap.get?_push_of_some _ q;obtain⟨T,id,K,C,G⟩:=E a {c with heap:=c.heap.push {cls:= .type "slice",data:= .fields #[g,f,.none]}} d i x v g f l u c.heap.objs.size Q L n (Heap.IsSliceOf.new ..) pl z o;show wpAny (model X.prog X.w) X.A (subscriptTail e (.Slice Z Y Ld p2) v (.ref c.heap.objs.size)) (EP X a d Q) X.xe {c with heap:=c.heap.push {cls:= .type "slice",data:= .fields #[g,f,.none]}};exact tail_any (ops:=[.ref c.heap.objs.size,v]) C K G (by with_unfolding_all rfl)
def BS (xs:List V) (Z Y:Option Int):List V:=(xs.drop (HT.sIx xs.length 0 Z)).take (HT.sIx xs.length xs.length Y - HT.sIx xs.length 0 Z)
theorem nA (xs:List V) (Z Y:Option Int):(BS xs Z Y).length<=xs.length:=by unfold BS;rw[Qj,QE];omega
def Ma (K:OK):V->Option Int->Option Int->Hp->VK->Prop:=fun x Z Y H Q=>∃a xs,x= .ref a/\TX K H a xs/\
 ¬(HT.sIx xs.length 0 Z=0/\HT.sIx xs.length xs.length Y=xs.length)/\∀p,H p=Ld->Q (.ref p) (upd H p (.tup (BS xs Z Y)))
theorem JP:Lq X (Ma X.K):=by
 intro d s p H x v u t Z Y w Q I i n pl j h;obtain⟨a,xs,rfl,l,m,q⟩:=h;cases i;obtain⟨o,r,g,f⟩:=I.tuple l;have c:o.toArray.size=xs.length:=by rw[Pm];exact r.length.symm
 refine⟨"tuple",_,Qd.lookup,g.typeIs,?_⟩;refine HT.getItem_tuple_cut g n pl j (by rw[c];exact m) ?_ (by rw[c];exact f);rw[c];refine⟨.ref s.heap.objs.size,_,I.laid (fun b z q=>Heap.get?_push_of_some _ q) (O8 _) ?_,rfl,q _ (I.Ro.fresh (O8 _))⟩;exact⟨Pp (nA xs Z Y) f,_,(r.drop (HT.sIx xs.length 0 Z)).take (HT.sIx xs.length xs.length Y - HT.sIx xs.length 0 Z),Vf.new _ _⟩
def Ib (K:OK):R2:=fun x y H Q=>∃a b xs ys,x= .ref a/\y= .ref b/\TX K H a xs/\TX K H b ys/\xs≠[]/\xs.length+ys.length<=Po/\
 (ys=[]->Q (.ref a) H)/\(ys≠[]->∀p,H p=Ld->Q (.ref p) (upd H p (.tup (xs++ys))))
theorem Vals.Wk (r:Vals xs us):us=[]↔xs=[]:=by
 cases r with
 |nil=>simp
 |cons _ _=>simp
theorem Gb:OpR X (Ri .Add) (Ib X.K):=by intro f s r H x y v u Q I j i h;obtain⟨a,b,xs,ys,rfl,rfl,ha,p,o,g,m,l⟩:=h;cases j;cases i;obtain⟨B,d,n,_⟩:=I.tuple ha;obtain⟨A,c,p2,_⟩:=I.tuple p;refine HT.cat_tup n p2 (fun z=>o (d.Wk.mp z)) (fun z=>⟨.ref a,H,I,rfl,m (c.Wk.mp z)⟩) (fun z=> ?_) (by rw[<-d.length,<-c.length];exact g);refine⟨.ref s.heap.objs.size,_,I.laid (fun b t q=>Heap.get?_push_of_some _ q) (O8 _) ?_,rfl,l (fun w=>z (c.Wk.mpr w)) _ (I.Ro.fresh (O8 _))⟩;exact⟨by rw[OZ];exact g,_,d.append c,Vf.new _ _⟩
end
def F3 (n:Nat) (i:Int):Option Nat:=if 0<=i then(if i<n then lD i.toNat else Ld) else if -(n:Int)<=i then lD (i+n).toNat else Ld
def kU (xs:List α) (i:Int):Option α:=(F3 xs.length i).bind fun j=>xs[j]?
theorem HL (h:F3 n i=lD j):seqIndex? i n=lD j/\j<n/\ -(n:Int)<=i/\i<n:=by
 unfold F3 at h;by_cases h0:0<=i
 .rw[if_pos h0] at h
  by_cases h1:i<n
  .rw[if_pos h1] at h;have e:=PK h;exact⟨by rw[seqIndex_of h0 h1,e],by omega,by omega,h1⟩
  .rw[if_neg h1] at h;cases h
 .rw[if_neg h0] at h
  by_cases h1: -(n:Int)<=i
  .rw[if_pos h1] at h;have e:=PK h;exact⟨by rw[seqIndex_neg (by omega) h1,e],by omega,h1,by omega⟩
  .rw[if_neg h1] at h;cases h
theorem sL (h:kU xs i=lD v):∃j,seqIndex? i xs.length=lD j/\xs[j]? =lD v/\j<xs.length/\ -(xs.length:Int)<=i/\i<xs.length:=by
 unfold kU at h;cases e:F3 xs.length i with
 |none=>rw[e] at h;cases h
 |some j=>rw[e] at h;obtain⟨h1,c,b,a⟩:=HL e;exact⟨j,h1,h,c,b,a⟩
theorem zt {j:Nat} (h:xs[j]? =lD v):kU xs (j:Int)=lD v:=by
 have a:=(O0.mp h).1;have e:F3 xs.length (j:Int)=lD j:=by unfold F3;rw[if_pos (by omega),if_pos (by omega)];simp
 unfold kU;rw[e];exact h
def GF (b:Qn):Prop:=∀o i,subscripted b Ph o i=operate [o,i] (getItem o i)
def ZO (X:Cx) (r:R2):Prop:=
 ∀(c a:Qn) (b:List (Pc×Obj)) (s:Pa) (d:St) (H:Hp) (x y:V) (v u:OW) (Q:VK),Inv X b d H s->RelV x v->RelV y u->r x y H Q->
  subscripted a Ph v u=operate [v,u] (getItem v u)->wpAny (model X.prog X.w) X.A (subscriptTail c a v u) (EP X b d Q) X.xe s
def Oz (X:Cx) (d:String) (r:V->List V->Hp->VK->Prop):Prop:=
 ∀(a:List (Pc×Obj)) (s:Pa) (b:St) (H:Hp) (x:V) (xs:List V) (v:OW) (c:List OW) (Q:VK),Inv X a b H s->RelV x v->Vals xs c->r x xs H Q->
  wpAny (model X.prog X.w) X.A (call (.builtin d) (v::c)) (EP X a b Q) X.xe s
section
variable {X:Cx} {a b:Qn} {ta tb:TE} {pos:Pos}
theorem ZO.or (h:ZO X r) (h':ZO X r'):ZO X (fun x y H Q=>r x y H Q\/r' x y H Q):=by
 intro c d e s f H x y v u Q I i g q j;rcases q with q|q
 .exact h c d e s f H x y v u Q I i g q j
 .exact h' c d e s f H x y v u Q I i g q j
theorem fH {r:R2} (i:ZO X r) (ha:PE X a ta) (hb:PE X b tb) (hs:GF b):PE X (.Subscript a b pos) (Il r ta tb):=by intro c s d H Q I h;exact Subscript_ (Ku ha hb I h fun v u e x y l j g f q=>i a b c e d l x y v u Q j g f q (hs _ _))
def LZ (K:OK):R2:=fun x y H Q=>∃p xs i v,x= .ref p/\y= .int i/\Um K H p xs/\kU xs i=lD v/\Q v H
def KI (K:OK):R2:=fun x y H Q=>∃p xs i v,x= .ref p/\y= .int i/\TX K H p xs/\kU xs i=lD v/\Q v H
def LI:R2:=fun x y H Q=>∃z i c,x= .str z/\y= .int i/\z.length<=Po/\kU z.cps.toList i=lD c/\Q (.str ⟨#[c]⟩) H
theorem Gp:ZO X (LZ X.K):=by
 intro e f c s n H x y v u Q I A o h l;obtain⟨p,xs,i,z,rfl,rfl,B,E,q⟩:=h;cases A;obtain⟨t,rfl⟩:=o;obtain⟨M,r,pl,N⟩:=I.list B;obtain⟨j,h1,J,O,G,F⟩:=sL E;obtain⟨w,m,L⟩:=r.get J;have C:=r.length;have hn:=tL;have d:EP X c n Q w s:=⟨z,H,I,L,q⟩;by_cases h0:0<=i
 .have g:i.toNat=j:=by
   rw[seqIndex_of h0 F] at h1;exact PK h1
  exact item_listR pl.isList h0 (by omega) (by rw[g];simpa using m) d l
 .have g:(i+(M.toArray.size:Int)).toNat=j:=by
   rw[seqIndex_neg (by omega) G] at h1;rw[Pm,<-C];exact PK h1
  exact subscriptTail_builtinR pl.isList.typeIs aaT.lookup
   (wpAny_getItem_list_neg pl.isList (by omega) (by rw[Pm]<;>omega) (by omega) (by rw[g];simpa using m) ⟨rfl,d⟩) l
theorem Cn:ZO X (KI X.K):=by
 intro d e c s g H x y v u Q I m l h n;obtain⟨p,xs,i,z,rfl,rfl,o,B,q⟩:=h;cases m;obtain⟨t,rfl⟩:=l;obtain⟨N,r,pl,G⟩:=I.tuple o;obtain⟨j,h1,C,M,L,J⟩:=sL B;obtain⟨w,E,F⟩:=r.get C;have A:=r.length;have hn:=tL;have f:EP X c g Q w s:=⟨z,H,I,F,q⟩;exact subscriptTail_builtinR pl.typeIs slot_tuple_getitem.lookup
  (getItem_tuple pl (by omega) (by omega) (by rw[Pm,<-A];exact h1) (by simpa using E) ⟨rfl,f⟩) n
theorem Ki:ZO X LI:=by
 intro d e f s C H x y v u Q I l g h m;obtain⟨z,i,c,rfl,rfl,F,o,q⟩:=h;obtain⟨t,rfl⟩:=l;obtain⟨E,rfl⟩:=g;obtain⟨j,h1,w,G,r,p⟩:=sL o;have n:z.cps.toList.length=z.length:=by simp[Str.length]
 rw[n] at h1 r p;have hn:=tL;exact tail_any (W3 s z t) slot_str_getitem.lookup (getItem_str (by have B:decide (i< -(2^63:Int))=Ph:=decide_eq_false (by omega);have A:decide (i≥2^63)=Ph:=decide_eq_false (by omega);rw[B,A,aag]) (by rw[h1];simpa using w) ⟨.str ⟨#[c]⟩,H,I.tok _,⟨_,rfl⟩,q⟩) m
def No (K:OK):R2:=fun x y H Q=>LZ K x y H Q\/KI K x y H Q\/LI x y H Q
theorem dF:ZO X (No X.K):=Gp.or (Cn.or Ki)
theorem tf (lo hi:Option Int) (n:Nat):(sliceBounds lo hi Ld n).1=((HT.sIx n 0 lo:Nat):Int)/\(sliceBounds lo hi Ld n).2.1=((HT.sIx n n hi:Nat):Int)/\(sliceBounds lo hi Ld n).2.2=1:=by
 refine⟨?_,?_,rfl⟩
 .cases lo with
  |none=>simp[sliceBounds,HT.sIx]
  |some i=>
   simp only[sliceBounds,HT.sIx,Yb,show(1:Int)>0 by decide,if_true];by_cases h:i<0
   .simp only[h,if_true]<;>omega
   .simp only[h,if_false]<;>omega
 .cases hi with
  |none=>simp[sliceBounds,HT.sIx]
  |some i=>
   simp only[sliceBounds,HT.sIx,Yb,show(1:Int)>0 by decide,if_true];by_cases h:i<0
   .simp only[h,if_true]<;>omega
   .simp only[h,if_false]<;>omega
theorem qW (c:List OW) (lo hi:Option Int):slicePick c.toArray lo hi Ld=((c.drop (HT.sIx c.length 0 lo)).take (HT.sIx c.length c.length hi - HT.sIx c.length 0 lo)).toArray:=by obtain⟨h1,e,d⟩:=tf lo hi c.toArray.size;unfold slicePick;rw[h1,e,d];simp only[sliceRange_one,pick_run,Pm]<;>rfl
def LV (K:OK):V->Option Int->Option Int->Hp->VK->Prop:=fun x lo hi H Q=>∃a xs,x= .ref a/\Um K H a xs/\∀p,H p=Ld->Q (.ref p) (upd H p (.lst (BS xs lo hi)))
theorem HM:Lq X (LV X.K):=by intro d s m H x v o n lo hi p Q I f l pl g h;obtain⟨a,xs,rfl,j,q⟩:=h;cases f;obtain⟨u,r,e,i⟩:=I.list j;have c:=r.length;refine⟨"list",_,aaT.lookup,e.isList.typeIs,?_⟩;refine wpAny_getItem_list_slice e.isList l pl g .none (by simp) ?_ (by rw[Pm]<;>omega);rw[qW,<-c];refine⟨.ref s.heap.objs.size,_,I.laid (fun b t q=>Heap.get?_push_of_some _ q) (O8 _) ?_,rfl,q _ (I.Ro.fresh (O8 _))⟩;exact⟨Pp (nA xs lo hi) i,_,0,(r.drop (HT.sIx xs.length 0 lo)).take (HT.sIx xs.length xs.length hi - HT.sIx xs.length 0 lo),Heap.get?_push_size _ rfl⟩
theorem iW:iG X (.type "list") (fun xs H Q=>∃p ys,xs=[.ref p]/\(Um X.K H p ys\/TX X.K H p ys)/\∀l,H l=Ld->Q (.ref l) (upd H l (.lst ys))):=by
 intro i s E H xs G Q I r h;obtain⟨p,ys,rfl,t,q⟩:=h;obtain⟨u,rfl,F⟩:=nF r;cases F
 have z:∀(d:List OW),Vals ys d->ys.length<=Po->∀(c:Heap) (g:Nat),(∀b o',s.heap.get? b=lD o'->c.get? b=lD o')->
   c.get? s.heap.objs.size=lD {cls:= .type "list",dict:=Ld,data:= .seq d.toArray g,slots:= #[]}->EP X i E Q (.ref s.heap.objs.size) {s with heap:=c}:=fun d f m c g j e=>
  ⟨.ref s.heap.objs.size,_,I.laid j (O8 _) (show ObjOk X.prog X.w _ c _ (.lst ys) from⟨m,d,g,f,e⟩),rfl,q _ (I.Ro.fresh (O8 _))⟩
 rcases t with t|t
 .obtain⟨d,f,pl,m⟩:=I.list t;have v:=f.length;obtain⟨o,A,C,n,B⟩:=pl.isList;exact ae4 p (.inl rfl) A C B (fun c g j e=>z d f m c g j e) (by simp only[Pm]<;>omega)
 .obtain⟨d,f,pl,m⟩:=I.tuple t;have v:=f.length;obtain⟨o,A,C,n,B⟩:=pl;exact ae4 p (.inr rfl) A C B (fun c g j e=>z d f m c g j e) (by simp only[Pm]<;>omega)
theorem gW:iG X (.type "tuple") (fun xs H Q=>∃p ys,xs=[.ref p]/\((Um X.K H p ys/\∀l,H l=Ld->Q (.ref l) (upd H l (.tup ys)))\/(TX X.K H p ys/\Q (.ref p) H))):=by
 intro f s A H xs B Q I r h;obtain⟨p,ys,rfl,h⟩:=h;obtain⟨u,rfl,n⟩:=nF r;cases n;rcases h with⟨d,q⟩|⟨d,q⟩
 .obtain⟨j,c,pl,g⟩:=I.list d
  have i:=c.length;refine call_tuple_list pl.isList (fun v t=> ?_) (by simp only[Pm]<;>omega);have m:=I.kept (t':=s.toks) t
  have z:=
   m.laid (t':=s.toks) (fun b o e=>Heap.get?_push_of_some _ e) (O8 _) (show ObjOk X.prog X.w _ _ _ (.tup ys) from⟨g,j,c,Vf.new _ _⟩)
  exact⟨.ref v.objs.size,_,z,rfl,q _ (m.Ro.fresh (O8 _))⟩
 .obtain⟨j,c,pl,g⟩:=I.tuple d;exact call_tuple_same pl ⟨.ref p,H,I,rfl,q⟩
def Op (K:OK) (T:String) (x:V) (H:Hp):Prop:=match x with
 | .str _=>T= "str"
 | .int _=>T= "int"
 | .ref p=>(T= "list"/\∃xs,Um K H p xs)\/(T= "tuple"/\∃o,K.lookup p=lD o/\o.cls= .type "tuple"/\o.dict=Ld)\/
   (T= "dict"/\((∃kvs,H p=lD (.dK kvs))\/∃kvs,H p=lD (.dT kvs)))\/(T= "set"/\∃S n,H p=lD (.set S n))
 |_=>False
theorem KG (I:Inv X pins σ H s) (r:RelV x v) (ty:Op X.K T x H):
  s.TypeIs v T/\∀a,v= .ref a->∃ob,s.heap.get? a=lD ob/\ob.dict=Ld:=by
 cases x with
 |str z=>obtain⟨t,rfl⟩:=r;cases(show T= "str" from ty);exact⟨W3 s z t,fun _ e=>nomatch e⟩
 |int i=>obtain⟨t,rfl⟩:=r;cases(show T= "int" from ty);exact⟨T1 s i t,fun _ e=>nomatch e⟩
 |ref p=>
  cases r;rcases ty with⟨rfl,xs,j⟩|⟨rfl,o,d,l,g⟩|⟨rfl,d⟩|⟨rfl,S,n,d⟩
  .obtain⟨m,_,pl,_⟩:=I.list j;refine⟨pl.isList.typeIs,fun a e=> ?_⟩;cases e;obtain⟨o,n,e,c,g,_⟩:=pl;exact⟨o,e,g⟩
  .refine⟨⟨o,I.XB p o d,l⟩,fun a e=> ?_⟩;cases e;exact⟨o,I.XB _ o d,g⟩
  .have z:∃o,s.heap.get? p=lD o/\o.ExactDict:=by
    rcases d with⟨kvs,d⟩|⟨kvs,d⟩
    .obtain⟨_,_,_,_,o,_,_,e,f,_⟩:=I.Ro p _ d;exact⟨o,e,f⟩
    .obtain⟨_,_,_,_,o,_,_,e,f,_⟩:=I.Ro p _ d;exact⟨o,e,f⟩
   obtain⟨o,e,f⟩:=z;refine⟨⟨o,e,f.1⟩,fun a h=> ?_⟩;cases h;exact⟨o,e,f.2.1⟩
  .obtain⟨o,_,_,_,e,f,_⟩:=I.Ro p _ d;refine⟨⟨o,e,f.1⟩,fun a h=> ?_⟩;cases h;exact⟨o,e,f.2.1⟩
 |_=>exact False.elim ty
def NX (K:OK) (T:String) (r:V->List V->Hp->VK->Prop) (e:TE) (t:TA):TE:=fun c H Q=>e c H fun x d=>Op K T x d/\t c d fun xs f=>r x xs f Q
variable {o e:Qn} {Z:List Qn} {to:TE} {t:TA} {name:Str} {Y U:Pos} {T S:String} {r:V->List V->Hp->VK->Prop}
theorem Aw (B:PlainAttrs T) (d:Slot T name S) (g:typeOf (.builtin S)=pure (.type "method_descriptor")) (hm:Oz X S r) (C:PE X o to) (ha:PA X (e::Z) t)
  (F:attributeBase o name X.env (eval o X.env)=eval o X.env:=by rfl)
  (i:((backTo U (Qy (e::Z) X.env)).all (fun x=> !x.1)&&(backToKw U (keywordEach [] X.env)).all (fun x=>x.1.isSome)
   &&decide ((e::Z).length+([]:List VU).length+(if([]:List VU).isEmpty then 0 else 1)<30))=Pb:=by rfl)
  (G:(Y.endLine==U.line)=Pb:=by rfl) (hs:Qy (e::Z) X.env=(Ph,eval e X.env)::Qy Z X.env:=by rfl) (j:(backTo U (Qy Z X.env)).any (·.1)=Ph:=by rfl):
  PE X (.Call (.Attribute o name Y) (e::Z) [] U) (NX X.K T r to t):=by
 intro c s f H Q I h;refine wpAny_Call_method_late F i G rfl (cg (C c s f H _ I h) fun v u ⟨x,M,n,l,ty,A⟩=> ?_);obtain⟨h1,E⟩:=KG n l ty;refine⟨T,S,B,d,g,h1,E,?_⟩;have m:=ha U c u f M _ n A;rw[hs] at m⊢;refine Calls.callWith_builtin (by show(Ph||(backTo U (Qy Z X.env)).any (·.1))=Ph;rw[j]<;>rfl) (Calls.evalArgs_plain ?_);exact cg m fun p q ⟨vs,L,J,w,z⟩=>hm c q f L x vs v p Q J l w z
end
def OG (X:Cx) (d:String) (r:V->List V->Hp->VK->Prop):Prop:=
 ∀(a:List (Pc×Obj)) (s:Pa) (b:St) (H:Hp) (x:V) (xs:List V) (v:OW) (c:List OW) (Q:VK),Inv X a b H s->RelV x v->Vals xs c->r x xs H Q->
  wpAny (model X.prog X.w) X.A (call (.builtin d) (v::c)) (EP X a b Q) X.xe s
theorem Vals.one:∀{x:V} {a:List OW},Vals [x] a->∃u,a=[u]/\RelV x u
 |_,_,.cons r .nil=>⟨_,rfl,r⟩
theorem Vals.rep (h:Vals xs us):∀k:Nat,Vals (Pe k xs).flatten (Pe k us).flatten
 |0=> .nil
 |k+1=>by rw[Qp,Qp,R0,R0];exact Vals.append h (Vals.rep h k)
theorem mM (b:List OW):∀(k:Nat) (a:List OW),
  Uj (fun x1 x2=>x1++x2) a.toArray (Pe k b.toArray)=(a++(Pe k b).flatten).toArray
 |0,a=>by simp
 |k+1,a=>by
  have e:a.toArray++b.toArray=(a++b).toArray:=by simp
  have c:(a++b)++(Pe k b).flatten=a++(Pe (k+1) b).flatten:=by rw[Qp,R0,PR]
  rw[<-c,<-mM b k (a++b),<-e,Qp,Ur]
section
variable {X:Cx} {Z:List (Pc×Obj)} {Y:St} {H:Hp} {s:Pa} {l b:Pc} {xs ys zs:List V}
theorem Inv.adG {c a:List OW} (I:Inv X Z Y H s) (j:H l=lD (.lst xs))
  (e:s.heap.get? l=lD {cls:= .type "list",data:= .seq c.toArray n}) (h:f c.toArray=a.toArray) (d:Vals ys a) (hz:ys.length<=Po):
  Inv X Z Y (upd H l (.lst ys)) {s with heap:=s.heap.update l (Obj.mapSeq f),toks:=t'}:=by
 have q:=agi e f;rw[h] at q;refine I.write (by rw[j];exact trivial) (.inl rfl) (fun m u i g=>(Heap.get?_update_other s.heap (Obj.mapSeq f) (Ne.symm i)).trans g) ⟨_,q⟩ ?_;exact⟨hz,a,_,d,q⟩
theorem Inv.ab9 (I:Inv X Z Y H s) (a:Vals ys Qh) (hz:ys.length<=Po):
  Inv X Z Y (upd H s.heap.objs.size (.lst ys)) {s with heap:=s.heap.push {cls:= .type "list",data:= .seq Qh.toArray},toks:=t'}:=
 I.laid (fun _ _ q=>Heap.get?_push_of_some _ q) (O8 _) ⟨hz,Qh,0,a,Heap.get?_push_size _ rfl⟩
theorem Inv.fresh (I:Inv X Z Y H s):H s.heap.objs.size=Ld:=I.Ro.fresh (O8 _)
theorem Inv.acd (I:Inv X Z Y H s) (c:H l=lD (.lst xs)):xs.length<=Po/\∃(a:List OW) (n:Nat),Vals xs a/\xs.length=a.length/\s.heap.get? l=lD {cls:= .type "list",data:= .seq a.toArray n}:=by obtain⟨z,a,n,r,e⟩:=I.Ro l _ c;exact⟨z,a,n,r,r.length,e⟩
theorem C3 (h:n<=Po):Builtin.List.listTooLong n=Ph:=by unfold Builtin.List.listTooLong;exact decide_eq_false (by omega)
end
section
variable {X:Cx}
def tW:V->List V->Hp->VK->Prop:=fun x vs H Q=>∃l xs y,x= .ref l/\vs=[y]/\H l=lD (.lst xs)/\xs.length<Po/\Q .S4 (upd H l (.lst (xs++[y])))
theorem im:OG X "list.append" tW:=by intro a s g H x vs v i Q I c rv h;obtain⟨l,xs,y,rfl,rfl,b,j,q⟩:=h;cases c;obtain⟨u,rfl,d⟩:=rv.one;obtain⟨z,f,n,r,m,e⟩:=I.acd b;refine S0 F.slot_list_append ⟨_,e,rfl⟩ F.entry_list_append (F.args_list_append_2 _ _) (PySem.list_append l f.toArray n u (by rw[Pm];omega)) ⟨e,?_⟩;refine⟨.S4,_,I.adG b e (by simp) (r.append (.cons d .nil)) ?_,rfl,q⟩;rw[OZ,Qm];omega
theorem AM (xs:List α) (k:Nat):(Pe k xs).flatten.length=k*xs.length:=by
 induction k with
 |zero=>simp
 |succ k a=>rw[Qp,R0,OZ,a,abt,Nat.add_comm]
end
section
variable {prog:PF} {w:Qc} {A:PX} {E:OW->Pa->Prop} {s:Pa}
set_option maxRecDepth 100000 in
end
end L2
namespace Att
open PySem PySem.W PySem.Calls PyProof.Rows
theorem nQ:∀(c:List Int) (vs:List OW),WellAll P h vs (c.map WData.int)->IntsAre vs c:=by
 intro c
 induction c with
 |nil=>intro vs w;rw[Qe] at w;cases w;exact .nil
 |cons n c d=>
  intro vs w;rw[Pd] at w;cases w with
  |cons a b=>cases a;exact .cons _ _ (d _ b)
theorem BQ {l:OpenLaw} (hn:l.most=lD n)
  (m:l.row.toRowW.claim.pre args=Pb) (f:WellAll P h vals args):
  ∃a vs ns,vals=[OW.ref a]/\args=[WData.list (ns.map WData.int)]/\h.get? a=lD {cls:= .type "list",data:= .seq vs.toArray}/\IntsAre vs ns/\ns.length<=n:=by
 have g:=(pre_splitW m).1;have j:l.pre.holds [] {args:=args}=Pb:=(pre_splitW m).2;obtain⟨d,r,rfl,h1,w⟩:=hasAllW_cons g;obtain rfl:=hasAllW_nil w;obtain⟨xs,rfl,v⟩:=hasW_list h1;obtain⟨ns,rfl⟩:=items_int v;have b:ns.length<=n:=by
  unfold OpenLaw.pre at j;have e:(WTm.not (.lt (.lit (.int (n:Int))) (.len (.arg 0)))).holds [] {args:=[.list (ns.map .int)]}=Pb:=by have e:=(holds_andW j).1;rw[hn] at e;exact e
  have c:=condW_of e (w_not (w_lt w_lit (w_len_list (w_arg rfl))));rw[OX] at c;refine RL fun q=> ?_;have t:(n:Int)<((ns.length:Nat):Int):=by omega
  first
   |(rw[decide_eq_true t] at c;exact absurd c (by decide))
   |(simp at c;omega)
 cases f with
 |cons p o=>
  cases o;cases p with
  |list u i=>exact⟨_,_,ns,rfl,rfl,u,nQ ns _ i,b⟩
theorem Cc (l:OpenLaw) (args:List WData):l.row.toRowW.claim.post args (.bool Pb) args=Pb:=
 postW_of
  (show WShape.has [] (.bool Pb) .bool=Pb by first|rfl|decide|simp[WShape.has,WShape.arms,WShape.armsAll])
  (show(WTm.eq .res (.lit (.bool Pb))).value [] {args:=args,res:=lD (.bool Pb),after:=args}=lD (.bool (Pb==Pb)) from w_eq_bool (w_res rfl) w_lit) rfl
theorem attach_call {l:OpenLaw} {n:Nat} {q:PF} {c:List Str} {E:(Str->Option OW)->Heap->Prop} {C:Qc->Heap->Prop} {d:DefRec}
  (hn:l.most=lD n) (u:d.params.defaults=[])
  (call:∀(w:Qc) (s₀ b:Pa) (mg mb:Str->Option OW) (fa:Pc) (o:Obj) (m j g:OW) (a:Pc) (vs:List OW) (i:List Int),
   Ground q c [] E w s₀ mg mb b.heap->C w b.heap->
   b.heap.get? fa=lD o->o.data= .func (docDef d.name d.params d.body d.scope m j g)->b.heap.CodeRec j d.name->mg d.name=lD (.ref fa)->
   b.heap.get? a=lD {cls:= .type "list",data:= .seq vs.toArray}->IntsAre vs i->i.length<=n->b.gens= #[]->
   codeAny (model l.prog w) callerA (.call (.ref fa) ⟨[.ref a],[]⟩) (fun r s'=>r= .ok (.ret (.bool Pb))/\OldK b.heap s'.heap/\s'.os=b.os/\AllBare s'.gens) b):
  WalkO q c E C l.row.toRowW d [] (fun f vs=>abu f vs):=by
 intro w s₀ b mg mb G Y fa o m j g dV kV I L S A t K B z T Q P F p J;obtain rfl:dV= .none:=Dflts.none A u;obtain rfl:kV= .none:=Dflts.noKw A;obtain⟨a,vs,i,rfl,rfl,v,e,h⟩:=BQ hn Q p;refine enter_call (Yl (call w s₀ b mg mb fa o m j g a vs i G Y I (fd_plain L) S t v e h K) fun r s' H=> ?_);obtain⟨rfl,O,N,M⟩:=H;exact⟨.inl ⟨.bool Pb,.bool Pb,[],rfl,fun _=>rfl,.bool Pb,Cc l _,fun _=>⟨V5,fun _ hm=>(nomatch hm)⟩⟩,O,N,M⟩
end Att
namespace L2
open PySem PySem.Spec PyProof.Rows
theorem rT:∀{vs:List OW} {a:List Int},IntsAre vs a->Vals (a.map V.int) vs
 |_,_,.nil=> .nil
 |_,_,.cons n t h=> .cons ⟨t,rfl⟩ (rT h)
def LF (H:Hp):Prop:=∀b,H b=Ld\/∃o xs,H b=lD (.frz o (.lst xs))
theorem Es {P:PF} {w:Qc} {K:OK} {mg mb:Str->Option OW} {Z:xF} {k:Nat} {fa a:Pc} {fd:QR} {x:Str} {sp:Sp} {c:Pa} {vs:List OW} {j:List Int}
  (Y:K.In c.heap) (U:c.heap.Ns P7 mg) (hb:c.heap.Ns builtinsNs mb) (E:∀x:Str,x≠ "__name__"->mb x=Qx x) (M:c.heap.NoLimit) (hg:c.gens= #[])
  (ha:c.heap.get? a=lD {cls:= .type "list",data:= .seq vs.toArray}) (hi:IntsAre vs j) (N:j.length<=Po) (hr:S5 k callerA)
  (F:∀base:Heap,K.In base->base.Ns P7 mg->FnOk P w K mg base Z k fa fd [x] sp) (Yz:∀(s:Pa) (u:OW),Vg s fd ⟨[u],[]⟩ [(x,u)])
  (C:∀H:Hp,LF H->Um K H a (j.map V.int)->sp [.ref a] H (fun v _=>v= .bl Pb) fun _ _ _=>False)
  (G:∀H e s',Z [] H c (fun _ _ _=>False) e s'->False):
  codeAny (model P w) callerA (.call (.ref fa) ⟨[.ref a],[]⟩) (fun r s'=>r= .ok (.ret (.bool Pb))/\OldK c.heap s'.heap/\s'.os=c.os/\AllBare s'.gens) c:=by
 have rv:=rT hi;have J:=hi.length
 have g:∀H:Hp,LF H->Um K H a (j.map V.int)->U3 P w H c.heap->(∀b,H b≠Ld->b=a)->(H a≠Ld->K.lookup a=Ld)->
   codeAny (model P w) callerA (.call (.ref fa) ⟨[.ref a],[]⟩) (fun r s'=>r= .ok (.ret (.bool Pb))/\OldK c.heap s'.heap/\s'.os=c.os/\AllBare s'.gens) c:=by
  intro H O hS X Q hK;have T:∀{b:Pc} {o:Obj},c.heap.get? b=lD o->H b=Ld->(tU c.heap H).get? b=lD o:=fun e n=>Fe e n;have B:∀{b:Pc} {o:Obj} {p:Array QT} {t:Nat},c.heap.get? b=lD o->o.data= .dict p t->H b=Ld:=fun{b o p t} e d=>by
   cases q:H b with
   |none=>rfl
   |some u=>have I:b=a:=Q b (by rw[q];simp);subst I;rw[ha] at e;cases e;have d':Data.seq vs.toArray _=Data.dict p t:=d;cases d'
  have f:∀{b:Pc} {m:Str->Option OW},c.heap.Ns b m->(tU c.heap H).Ns b m:=fun{b m} ⟨o,p,t,e,d,r⟩=>⟨o,p,t,T e (B e d),d,r⟩;have l:K.In (tU c.heap H):=fun b o e=>T (Y b o e) (by
   cases q:H b with
   |none=>rfl
   |some u=>have I:b=a:=Q b (by rw[q];simp);subst I;rw[hK (by rw[q];simp)] at e;cases e)
  have hM:Mod K mg (tU c.heap H):=⟨l,f U,⟨mb,f hb,E⟩,let⟨mc,h1,h2⟩:=M;⟨mc,f h1,h2⟩⟩;have e0:ZC P w K mg (tU c.heap H) callerA [] c H:=⟨rfl,hM,fun b o e=>HP e,abv (BV _ _),trivial,fun b hb=>absurd (show b∈([]:List Pc) from hb) (by simp),X,.of_eq hg⟩;refine Yl ((F _ l (f U)).run callerA [] c H ⟨[.ref a],[]⟩ [.ref a] [.ref a] _ _ hr e0 (Yz c (.ref a)) (.cons rfl .nil) (C H O hS)) fun r s' h=> ?_;cases r with
  |error e=>exact(G H e s' h).elim
  |ok fl=>
   cases fl with
   |next=>exact False.elim h
   |brk=>exact False.elim h
   |cont=>exact False.elim h
   |ret u=>
    obtain⟨v,H',os,A,un,L,r',q⟩:=h;have q':v= .bl Pb:=q;subst q';obtain rfl:u=OW.bool Pb:=r';refine⟨rfl,OldK.of_keep fun b o e=> ?_,os,A⟩;cases q:H b with
    |none=>exact un.keep b o e q (by intro z;exact absurd (show b∈([]:List Pc) from z) (by simp)) (by simp)
    |some u=>
     rcases O b with z|⟨ob,xs,z⟩
     .rw[q] at z;cases z
     .have z2:=un.V3 b ob _ z;obtain⟨S,_⟩:=X b _ z;obtain⟨e2,_⟩:=L b _ z2;rw[e] at S;cases S;exact e2
 cases hk:K.lookup a with
 |some o=>have e:=Y a o hk;rw[ha] at e;cases e;refine g (fun _=>Ld) (fun _=> .inl rfl) (.inr ⟨_,vs.toArray,_,hk,rfl,rfl,rfl,by rw[Pm,J];exact N,by simpa using rv⟩) (fun b u z=>by have i:(Ld:Option HO)=lD u:=z;cases i) (fun b z=>absurd rfl z) fun z=>absurd rfl z
 |none=>
  refine g (fun b=>if b=a then lD (.frz {cls:= .type "list",data:= .seq vs.toArray} (.lst (j.map V.int))) else Ld) (fun b=> ?_) (.inl (.inr ⟨{cls:= .type "list",data:= .seq vs.toArray},if_pos rfl⟩)) (fun b u z=> ?_) (fun b z=> ?_) fun _=>hk
  .by_cases hb:b=a
   .exact .inr ⟨_,_,if_pos hb⟩
   .exact .inl (if_neg hb)
  .by_cases hb:b=a
   .have i:=(if_pos hb).symm.trans z;cases i;subst hb;exact⟨ha,by rw[OX];exact N,vs,_,rv,ha⟩
   .have i:=(if_neg hb).symm.trans z;cases i
  .by_cases hb:b=a
   .exact hb
   .exact absurd (if_neg hb) z
def j3 (s:Sl):Arguments:=match s with
 | .FunctionDef _ a _ _ _ _ _ _ _ _=>a
 |_=>{posonlyargs:=[],args:=[],vararg:=Ld,kwonlyargs:=[],kw_defaults:=[],kwarg:=Ld,defaults:=[]}
def cI (s:Sl):List Sl:=match s with
 | .FunctionDef _ _ b _ _ _ _ _ _ _=>b
 |_=>[]
def aK (s:Sl):TK:=match s with
 | .FunctionDef _ _ _ _ _ _ sc _ _ _=>sc
 |_=>{kind:= .function,names:=[],isGenerator:=Ph,isCoroutine:=Ph}
abbrev gB:xF:=fun _ _ _ _ _ _=>False
abbrev E0:XK:=fun _ _ _=>False
theorem Ik:yM gB X E0:=fun _ _ _ _ _ _ _ h=>h.elim
structure TY (K:OK) (x qual:Str) (st:Sl) (f:Pc) (fd:QR):Prop where
 ex:∃(oc:OW) (od:Option Pc) (kV doc pm:OW) (an:Option Pc) (Rr ct:OW) (Yj:Array (Option OW)),
  fd=Sb x qual (j3 st) (cI st) (aK st) .none kV doc pm an Rr ct/\K.lookup f=lD ⟨oc,od,.func fd,Yj⟩/\Uo K Rr qual=Pb
 kp:RF K (.ref f)=Pb
section
variable {P:PF} {w:Qc} {K:OK} {mg:Str->Option OW} {base:Heap}
theorem TY.ok {x a:Str} {st:Sl} {f:Pc} {fd:QR} {N ps:List Str} {k:Nat} {sp:Sp} (F:TY K x a st f fd) (S:Tg N ps (aK st)) (len:∀vs H Q E,sp vs H Q E->vs.length=ps.length)
  (j:∀(b:OW) (A:PX) (outer:List Env) (s:Pa) (H:Hp) (vs:List V) (Q:VK) (E:XK),S5 k (A.deeper (envOfC a (aK st) s.heap.objs.size f b))->sp vs H Q E->
   ∃t,VS (nR gB P w K mg base N a (aK st) f b A outer s H E).Zl (cI st) t/\t {nx:=fun _ H'=>Q .S4 H',rt:=Q} (start N vs) H):FnOk P w K mg base gB (k+1) f fd ps sp:=by
 obtain⟨n,m,kV,g,l,o,b,ct,p,rfl,d,i⟩:=F.ex;refine MC d i S len fun A outer s H vs Q E e c=> ?_;obtain⟨t,h,q⟩:=j b A outer s H vs Q E e c;exact⟨t,h.Zl,q⟩
theorem TY.binds {x a:Str} {st:Sl} {f:Pc} {fd:QR} {ps:List Str} (F:TY K x a st f fd)
  (h:∀(kV b d:OW) (e:Option Pc) (g ct:OW) (c:List OW),c.length=ps.length->bindArgs (Sb x a (j3 st) (cI st) (aK st) .none kV b d e g ct) ⟨c,[]⟩=pure (ps.zip c)):Binds K fd ps []:=by
 obtain⟨j,i,kV,b,d,e,g,ct,m,rfl,l,n⟩:=F.ex;exact .all (h kV b d e g ct)
theorem Fu {st:Sl} {kV a d b ct:OW} (l:K.lookup f=lD ⟨oc,od,.func (Sb x qual (j3 st) (cI st) (aK st) .none kV a d an b ct),Yj⟩)
  (c:Uo K b qual=Pb) (k:RF K (.ref f)=Pb):TY K x qual st f (Sb x qual (j3 st) (cI st) (aK st) .none kV a d an b ct):=⟨⟨oc,od,kV,a,d,an,b,ct,Yj,rfl,l,c⟩,k⟩
end
theorem IK (a:S5 k A):A.units+1<cLine:=TC (Nat.add_le_add_left (by decide:1<=64) _) a.units
section
variable {X:Cx}
theorem pv (i:Nat) (c:X.N[i]? =lD x:=by rfl) (a:Nz X.env.scope x:=by first|exact Or.inl rfl|exact Or.inr (Or.inl rfl)|exact Or.inr (Or.inr rfl)) (b:(x==("__debug__":Str))=Ph:=by decide)
  (d:(x==("__classdict__":Str))=Ph:=by decide):PE X (.Name x pos) (qU i):=Kl c a b d
end
def Rg (H H':Hp):Prop:=∀b o,H b=lD o->H' b=lD o
theorem Rg.refl (H:Hp):Rg H H:=fun _ _ h=>h
theorem Rg.trans (a:Rg H H1) (b:Rg H1 H2):Rg H H2:=fun c o h=>b c o (a c o h)
theorem Rg.free (e:Rg H H') (h:H' l=Ld):H l=Ld:=by
 cases q:H l with
 |none=>rfl
 |some o=>rw[e l o q] at h;cases h
end L2
set_option maxHeartbeats 4000000
namespace L2
open PySem PySem.Spec PyProof.Rows
mutual
inductive DV (K:OK) (H:Hp):V->O9->Prop
 |S4:DV K H .S4 .none
 |bl (b:Bool):DV K H (.bl b) (.bool b)
 |int (i:Int):DV K H (.int i) (.int i)
 |str (x:Str):DV K H (.str x) (.str x)
 |tup {a:Pc} {xs:List V} {ds:List O9}:TX K H a xs->QV K H xs ds->DV K H (.ref a) (.tuple ds)
 |lst {a:Pc} {xs:List V} {ds:List O9}:Um K H a xs->QV K H xs ds->DV K H (.ref a) (.list ds)
inductive QV (K:OK) (H:Hp):List V->List O9->Prop
 |nil:QV K H [] []
 |cons {v:V} {vs:List V} {d:O9} {ds:List O9}:DV K H v d->QV K H vs ds->QV K H (v::vs) (d::ds)
end
section
variable {X:Cx} {Z:List (Pc×Obj)} {σ:St} {H:Hp} {s:Pa}
mutual
theorem DV.reads (I:Inv X Z σ H s):∀{v:V} {d:O9} {u:OW},DV X.K H v d->RelV v u->∃as,RO s.heap u d as
 |_,_,_,.S4,r=>by cases r;exact⟨_,.none⟩
 |_,_,_,.bl b,r=>by cases r;exact⟨_,.bool b⟩
 |_,_,_,.int i,r=>by obtain⟨t,rfl⟩:=r;exact⟨_,.int i t⟩
 |_,_,_,.str x,r=>by obtain⟨t,rfl⟩:=r;exact⟨_,.str x t⟩
 |_,_,_,.tup h hs,r=>by cases r;obtain⟨a,rv,⟨o,e,c,n,d⟩,_⟩:=I.tuple h;obtain⟨as,q⟩:=QV.reads I hs rv;exact⟨_,.tuple e c d (by simpa using q)⟩
 |_,_,_,.lst h hs,r=>by cases r;obtain⟨a,rv,⟨o,n,e,c,_,d⟩,_⟩:=I.list h;obtain⟨as,q⟩:=QV.reads I hs rv;exact⟨_,.list e c d (by simpa using q)⟩
theorem QV.reads (I:Inv X Z σ H s):∀{vs:List V} {ds:List O9} {a:List OW},QV X.K H vs ds->Vals vs a->∃as,Sx s.heap a ds as
 |_,_,_,.nil,r=>by cases r;exact⟨_,.nil⟩
 |_,_,_,.cons h hs,r=>by
  cases r with
  |cons c b=>obtain⟨as,q⟩:=DV.reads I h c;obtain⟨bs,d⟩:=QV.reads I hs b;exact⟨_,.cons q d⟩
end
end
def Gy (K:OK) (neg:Bool):R2:=fun x y H Q=>∃dx dy,DV K H x dx/\DV K H y dy/\dx.canLay0=Pb/\dy.canLay0=Pb/\dx.depth<=64/\Q (.bl (if neg then !O9.eqv dx dy else O9.eqv dx dy)) H
section
variable {X:Cx}
theorem tT (j:X.A.units+64<cLine):OpR X (Rf .Eq) (Gy X.K Ph):=by intro a s i H x y v u Q I c b h;obtain⟨dx,m,h1,g,l1,f,l,q⟩:=h;obtain⟨n,e⟩:=h1.reads I c;obtain⟨bs,d⟩:=g.reads I b;exact adp e d l1 f (by omega) ⟨.bl _,H,I,rfl,q⟩
theorem C9 (j:X.A.units+64<cLine):OpR X (Rf .NotEq) (Gy X.K Pb):=by intro a s i H x y v u Q I c b h;obtain⟨dx,m,h1,g,l1,f,l,q⟩:=h;obtain⟨n,e⟩:=h1.reads I c;obtain⟨bs,d⟩:=g.reads I b;exact adq e d l1 f (by omega) ⟨.bl _,H,I,rfl,q⟩
theorem qj:OpR X (Ri .FloorDiv) (rI (fun _ j=>0<j/\j.natAbs.log2<9000) fun i j=> .int (i/j)):=Nw fun i j _ _ _ _ _ a q=>by have h1:(0:Int)<j:=a.1;exact floordiv_int (by omega) (by rw[Int.fdiv_eq_ediv_of_nonneg i (by omega)];exact q) (.inl (PyProof.noPylong_of_log2 a.2))
end
def gG (env:Env):List (Str×Qa)->List (Str×Pc)->List (Str×Pc)
 |[],acc=>acc
 |(n,k)::r,acc=>if(k==Qa.free)=Pb then(match env.cells.lookup n with|some c=>gG env r ((n,c)::acc)|none=>gG env r acc) else gG env r acc
theorem kP {f:Str×Qa->List (Str×Pc)->Sem (ForInStep (List (Str×Pc)))}
  (h1:∀n k a,(k==Qa.free)=Ph->f (n,k) a=pure (.yield a)) (b:∀n c a,env.cells.lookup n=lD c->f (n,.free) a=pure (.yield ((n,c)::a))):
  ∀(names:List (Str×Qa)) (a:List (Str×Pc)),(∀y∈names,y.2= .free->∃c,env.cells.lookup y.1=lD c)->forIn names a f=pure (gG env names a)
 |[],a,_=>rfl
 |(n,k)::r,a,h=>by
  have d:=fun y i=>h y (Pl _ i);rw[VQ];cases hk:(k==Qa.free) with
  |false=>rw[h1 n k a hk,pure_bind];show forIn r a f=_;rw[kP h1 b r a d];simp only[gG,hk,Pj,if_false]
  |true=>
   have e:k= .free:=by simpa using hk
   subst e;obtain⟨c,g⟩:=h _ Pr rfl;rw[b n c a g,pure_bind];show forIn r ((n,c)::a) f=_;rw[kP h1 b r _ d];have j:=g;simp only[gG,hk,if_true,j]
theorem yr (h:∀y∈scope.names,y.2= .free->∃c,env.cells.lookup y.1=lD c):closureFor scope env=pure (gG env scope.names []):=by simp only[closureFor];rw[kP (fun n k a b=>by simp only[b,Pj,if_false]) (fun n c a d=>by simp only[beq_self_eq_true,if_true,cellOf,d,pure_bind]) scope.names [] h,pure_bind]
theorem jT:∀(names:List (Str×Qa)) (a:List (Str×Pc)),(∀x c,a.lookup x=lD c->env.cells.lookup x=lD c)->∀x c,(gG env names a).lookup x=lD c->env.cells.lookup x=lD c
 |[],_,h,x,c,e=>h x c e
 |(n,k)::r,a,h,x,c,e=>by
  unfold gG at e;split at e
  .split at e
   .rename_i g f
    refine jT r _ (fun y d q=> ?_) x c e;rw[Qw] at q;split at q
    .rename_i b;cases q;rw[eq_of_beq b];exact f
    .exact h y d q
   .exact jT r a h x c e
  .exact jT r a h x c e
theorem jY:∀(names:List (Str×Qa)) (a:List (Str×Pc)) (x:Str),(a.lookup x).isSome=Pb->((gG env names a).lookup x).isSome=Pb
 |[],_,_,h=>h
 |(n,k)::r,a,x,h=>by
  unfold gG;split
  .split
   .refine jY r _ x ?_
    rw[Qw];split
    .rfl
    .exact h
   .exact jY r a x h
  .exact jY r a x h
theorem lK:∀(names:List (Str×Qa)) (a:List (Str×Pc)) (x:Str) (c:Pc),(x,Qa.free)∈names->env.cells.lookup x=lD c->((gG env names a).lookup x).isSome=Pb
 |[],_,_,_,h,_=>by cases h
 |(n,k)::r,a,x,c,h,hc=>by
  rcases Py.mp h with z|h
  .cases z;simp only[gG,beq_self_eq_true,if_true,hc];exact jY r _ _ (by simp[Qw])
  .unfold gG
   split
   .split
    .exact lK r _ x c h hc
    .exact lK r a x c h hc
   .exact lK r a x c h hc
theorem wm (h:(x,Qa.free)∈names) (a:env.cells.lookup x=lD c):(gG env names []).lookup x=lD c:=by
 have q:=lK names [] x c h a;cases e:(gG env names []).lookup x with
 |none=>rw[e] at q;cases q
 |some d=>have z:=jT names [] (fun y d q=>by cases q) x d e;rw[a] at z;exact z.symm
theorem vn {env:Env} {a:TK} {x:Str} {k:Qa} (h:(relabel a env).names.lookup x=lD k):∃k0,(x,k0)∈a.names/\(k=k0\/(k0= .free/\k= .cell)):=by
 obtain⟨⟨n,k0⟩,hm,e⟩:=Pn.mp (Rj h);simp only at e;split at e
 .rename_i b
  cases e;have c:(k0==Qa.free)=Pb:=by rw[PN,PN] at b;exact b.1.1
  exact⟨k0,hm,.inr ⟨by simpa using c,rfl⟩⟩
 .cases e;exact⟨_,hm,.inl rfl⟩
theorem i9 {env:Env}:∀{names:List (Str×Qa)} {x:Str},names.lookup x=lD .free->
  (names.map fun(n,k)=>if(k==Qa.free&&env.scope.kind== .function&&env.kindOf n==lD .cell) then(n,Qa.cell) else(n,k)).lookup x=lD .cell\/
  (names.map fun(n,k)=>if(k==Qa.free&&env.scope.kind== .function&&env.kindOf n==lD .cell) then(n,Qa.cell) else(n,k)).lookup x=lD .free
 |[],_,h=>by cases h
 |(n,k)::r,x,h=>by
  rw[Qw] at h;rw[Pd];dsimp only;by_cases a:(k==Qa.free&&env.scope.kind== .function&&env.kindOf n==lD .cell)=Pb
  .rw[if_pos a,Qw]
   cases hx:x==n with
   |true=>exact .inl rfl
   |false=>rw[hx] at h;exact i9 h
  .rw[if_neg a,Qw]
   cases hx:x==n with
   |true=>rw[hx] at h;exact .inr h
   |false=>rw[hx] at h;exact i9 h
def gv (own:List Str) (a:List (Str×Nat)):List Str:=own++a.map (·.1)
def fR (own:List Str) (b:List (Str×Nat)) (a:St):St:=own.map (fun _=>Ld)++b.map fun p=>(a[p.2]?).join
def XT (X:Cx) (a:TK):List (Str×Nat)->Prop
 |[]=>True
 |p::r=>(X.N[p.2]? =lD p.1/\a.names.lookup p.1=lD .free/\(X.env.scope.names.lookup p.1=lD .cell\/X.env.scope.names.lookup p.1=lD .free))/\XT X a r
theorem XT.mem:∀{a:List (Str×Nat)},XT X scope a->∀p∈a,X.N[p.2]? =lD p.1/\scope.names.lookup p.1=lD .free/\(X.env.scope.names.lookup p.1=lD .cell\/X.env.scope.names.lookup p.1=lD .free)
 |[],_,p,hp=>by cases hp
 |q::r,h,p,hp=>by
  rcases Py.mp hp with z|hp
  .rw[z];exact h.1
  .exact h.2.mem p hp
def sY (X:Cx) (a:TK) (C:Pc):List (Str×Pc):=Ry (C+1) a.names (gG X.env a.names [])
theorem pG:∀(names:List (Str×Qa)) (n:Nat) (a:List (Str×Pc)) (x:Str) (c:Pc),(Ry n names a).lookup x=lD c->(n<=c/\(x,Qa.cell)∈names)\/a.lookup x=lD c
 |[],_,_,_,_,h=> .inr h
 |(y,k)::r,n,a,x,c,h=>by
  unfold Ry at h;by_cases b:(k==Qa.cell)=Pb
  .rw[if_pos b] at h
   have e:k= .cell:=by simpa using b
   rcases pG r _ _ x c h with⟨h1,d⟩|h1
   .exact .inl ⟨TU h1,Pl _ d⟩
   .rw[Qw] at h1
    split at h1
    .rename_i f;cases h1;exact .inl ⟨O8 _,by rw[eq_of_beq f,e];exact Pr⟩
    .exact .inr h1
  .rw[if_neg b] at h
   rcases pG r _ _ x c h with⟨h1,d⟩|h1
   .exact .inl ⟨h1,Pl _ d⟩
   .exact .inr h1
theorem Dr:∀(names:List (Str×Qa)) (n:Nat) (a:List (Str×Pc)) (x:Str),(x,Qa.cell)∉names->(Ry n names a).lookup x=a.lookup x
 |[],_,_,_,_=>rfl
 |(y,k)::r,n,a,x,h=>by
  have c:=fun z=>h (Pl _ z);unfold Ry;by_cases b:(k==Qa.cell)=Pb
  .have e:k= .cell:=by simpa using b
   rw[if_pos b,Dr r _ _ x c,Qw];have d:(x==y)=Ph:=by refine beq_eq_false_iff_ne.mpr fun z=>h ?_;rw[z,e];exact Pr
   rw[d]
  .rw[if_neg b];exact Dr r _ _ x c
theorem o8:∀(names:List (Str×Qa)) (h:Heap) (a:List (Str×Pc)) (x:Str) (c:Pc),(Ry h.objs.size names a).lookup x=lD c->(h.objs.size<=c/\(pushCells h names).IsCell c Ld)\/a.lookup x=lD c
 |[],_,_,_,_,e=> .inr e
 |(y,k)::r,h,a,x,c,e=>by
  unfold Ry at e;unfold pushCells;by_cases b:(k==Qa.cell)=Pb
  .rw[if_pos b] at e⊢
   rw[<-Heap.size_push h {cls:= .type "cell",data:= .cell Ld}] at e;rcases o8 r _ _ x c e with⟨h1,d⟩|h1
   .rw[Heap.size_push] at h1;exact .inl ⟨TU h1,d⟩
   .rw[Qw] at h1
    split at h1
    .cases h1;exact .inl ⟨O8 _,_,WE _ _ _ _ (Heap.get?_push_size _ rfl),rfl⟩
    .exact .inr h1
  .rw[if_neg b] at e⊢;exact o8 r _ _ x c e
theorem xp:∀(names:List (Str×Qa)) (n:Nat) (e:List (Str×Pc)),(∀x c,e.lookup x=lD c->c<n)->(∀x y c,e.lookup x=lD c->e.lookup y=lD c->x=y)->∀x y c,(Ry n names e).lookup x=lD c->(Ry n names e).lookup y=lD c->x=y
 |[],_,_,_,h2,x,y,c,e1,e2=>h2 x y c e1 e2
 |(z,k)::r,n,e,h1,h2,x,y,c,e1,e2=>by
  unfold Ry at e1 e2;by_cases h:(k==Qa.cell)=Pb
  .rw[if_pos h] at e1 e2
   refine xp r (n+1) ((z,n)::e) (fun a d q=> ?_) (fun a b d g f=> ?_) x y c e1 e2
   .rw[Qw] at q
    split at q
    .cases q;exact Q6 _
    .exact S1 (h1 a d q)
   .rw[Qw] at g f
    split at g
    .rename_i ha
     split at f
     .rename_i i;rw[eq_of_beq ha,eq_of_beq i]
     .cases g;exact absurd (h1 b _ f) (Qq _)
    .split at f
     .cases f;exact absurd (h1 a _ g) (Qq _)
     .exact h2 a b d g f
  .rw[if_neg h] at e1 e2;exact xp r n e h1 h2 x y c e1 e2
theorem yz:∀{names:List (Str×Qa)} {x:Str} {k a:Qa},(names.map (·.1)).Nodup->names.lookup x=lD k->(x,a)∈names->k=a
 |[],_,_,_,_,h,_=>by cases h
 |(y,j)::r,x,k,a,hn,h,hm=>by
  rw[Pd,Qr] at hn;rw[Qw] at h;rcases Py.mp hm with e|Z5
  .cases e;rw[beq_self_eq_true] at h;exact(PK h).symm
  .cases hx:x==y with
   |true=>rw[eq_of_beq hx] at Z5;exact absurd (Pn.mpr ⟨_,Z5,rfl⟩) hn.1
   |false=>rw[hx] at h;exact yz hn.2 h Z5
def dS (X:Cx) (s:Pa) (H:Hp) (a:TK) (C:Pc) (N:List Str) (fp:List Pc):Cx:=
 {X with N:=N,s₀:=s,H₀:=H,env:=compEnvC a (sY X a C) C X.env,outer:=X.stack,stack:=X.stack,ex:=fp,fn:=fun x=>((gG X.env a.names []).lookup x).isNone,pn:=[],xe:=fun _ _=>False}
section
variable {X:Cx} {Z:List (Pc×Obj)} {Y:St} {H:Hp} {s:Pa}
theorem su {a:TK} (I:Inv X Z Y H s) (e:(gG X.env a.names []).lookup x=lD c):X.env.cells.lookup x=lD c/\c<s.heap.objs.size:=by have h:=jT _ _ (fun _ _ q=>by cases q) x c e;obtain⟨v,o,z,_⟩:=I.cell x c h;exact⟨h,Heap.lt_size z⟩
theorem AJ (I:Inv X Z Y H s) (K:scope.kind= .function) (E:(scope.names.map (·.1)).Nodup)
  (B:∀y∈scope.names,y.2= .free->∃c,X.env.cells.lookup y.1=lD c) (d:s.heap.objs.size<=C) (g:∀b∈fp,qL X Z H b) (n:∀b∈fp,b<s.heap.objs.size):(dS X s H scope C N fp).Ok where
 mod:=I.ok.mod
 kind:=K
 glob:=I.ok.glob
 blt:=I.ok.blt
 above:=d
 inj:=xp _ _ _ (fun x c e=>S1 (PD (su I e).2 d)) fun x y c h1 j=>I.ok.inj x y c (su I h1).1 (su I j).1
 has:=fun x u=>by
  have G:∃k,(relabel scope X.env).names.lookup x=lD k/\(k= .cell\/k= .free):=by
   rcases u with z|z
   .exact⟨_,z,.inl rfl⟩
   .exact⟨_,z,.inr rfl⟩
  obtain⟨k,w,J⟩:=G;obtain⟨m,hm,F⟩:=vn w;have e:m= .free\/m= .cell:=by
   rcases F with z|⟨z,_⟩
   .subst z
    rcases J with z|z
    .exact .inr z
    .exact .inl z
   .exact .inl z
  have q:((sY X scope C).lookup x).isSome=Pb:=by
   rcases e with e|e
   .subst e;obtain⟨c,A⟩:=B _ hm rfl;exact SF _ _ _ (.inr (by rw[wm hm A];rfl))
   .subst e
    refine SF _ _ _ (.inl ?_);cases z:scope.names.lookup x with
    |none=>exact absurd hm (fun hm=>by
      have:∀{l:List (Str×Qa)},l.lookup x=Ld->(x,Qa.cell)∉l:=fun{l}=>by
       induction l with
       |nil=>exact fun _=>by simp
       |cons p r t=>
        intro h q;rw[Qw] at h;rcases Py.mp q with q|q
        .rw[<-q,beq_self_eq_true] at h;cases h
        .split at h
         .cases h
         .exact t h q
      exact this z hm)
    |some L=>rw[yz E z hm]
  exact Q3.mp q
 cab:=fun x c h1 j=>by
  have f:((gG X.env scope.names []).lookup x).isNone=Pb:=h1;have i:=j;rcases pG _ _ _ x c i with⟨z,_⟩|z
  .exact Pp d (TU z)
  .rw[z] at f;cases f
 hd:=I.ok.hd
 frames:=I.ok.frames
 stk:= .inl rfl
 exf:=fun b a=>⟨PU (PD (n b a) d),fun x c e=>by
  rcases pG _ _ _ x c e with⟨z,_⟩|z
  .exact RD (PD (PD (n b a) d) (TU z))
  .exact(g b a).2.2.2.2.1 x c (su I z).1⟩
 bs:=I.bs
 Zv:=Pp I.ok.Zv I.sz
 X7:=fun b o e a=>by
  rcases(g b a).2.2.2.1 with z|z
  .exact I.ok.X7 b o e z
  .exact absurd (PD (Heap.lt_size e) (Pp I.ok.Zv z)) (Qq _)
 XW:=fun b a v=>by
  rcases Py.mp (I.W9 b v) with z|z
  .exact(g b a).2.1 z
  .exact(g b a).2.2.1 z
 Vq:=I.stack
 frf:=I.XD
theorem EI (I:Inv X Z Y H s) (Uy:scope.kind= .function) (ZE:(scope.names.map (·.1)).Nodup)
  (ZF:∀y∈scope.names,y.2= .free->∃c,X.env.cells.lookup y.1=lD c) (hfv:XT X scope fv) (hD:s.heap.objs.size<=D) (hDC:D<C) (hC:s.heap.objs.size<=C) (hf:∀b∈fp,qL X Z H b) (ZZ:∀b∈fp,b<s.heap.objs.size)
  (WY:h1.Ns C m) (hoc:∀x c,(sY X scope C).lookup x=lD c->C<c->∃v,h1.IsCell c v) (hk:∀b o,s.heap.get? b=lD o->h1.get? b=lD o) (hd:∃n,h1.get? D=lD {cls:= .type "list",data:= .seq #[] n}):
  Inv (dS X s H scope C (gv own fv) fp) [] (fR own fv Y) (upd H D (.lst [])) {s with heap:=h1,toks:=t1}:=by
 have hn:=I.Ro.fresh hD;obtain⟨n,hd⟩:=hd;have hCD:=RD hDC;have Zf:∀x c,(sY X scope C).lookup x=lD c->C<c\/(X.env.cells.lookup x=lD c/\c<s.heap.objs.size):=fun x c e=>by
  rcases pG _ _ _ x c e with⟨z,_⟩|z
  .exact .inl z
  .exact .inr (su I z)
 refine⟨AJ I Uy ZE ZF hC hf ZZ,rfl,I.bare,Un.laid hk hD hn,⟨m,WY,fun i x v e1 e2 e3=> ?_⟩,fun x c e=> ?_,?_,fun x c e=> ?_,fun p hp=>absurd (show p∈([]:List (Pc×Obj)) from hp) (by simp),?_,?_⟩
 .
  have e1':(own++fv.map (·.1))[i]? =lD x:=e1;have Z6:(own.map (fun _=>(Ld:Option V))++fv.map fun p=>(Y[p.2]?).join)[i]? =lD (lD v):=e2;have hi:own.length<=i:=by
   by_cases hi:i<own.length
   .rw[Pz (by simpa using hi),Pg] at Z6
    cases q:own[i]? with
    |none=>rw[q] at Z6;cases Z6
    |some _=>rw[q] at Z6;cases Z6
   .omega
  rw[PH hi,Pg] at e1';rw[PH (by simpa using hi),Pg,OX] at Z6;cases q:fv[i - own.length]? with
  |none=>rw[q] at e1';cases e1'
  |some p=>
   rw[q] at e1' Z6;have ex:=PK e1';subst ex;have ev:(Y[p.2]?).join=lD v:=PK Z6;obtain⟨g1,g2,g3⟩:=hfv.mem p (Pu q);have ev2:Y[p.2]? =lD (lD v):=by
    cases z:Y[p.2]? with
    |none=>rw[z] at ev;cases ev
    |some y=>rw[z] at ev;exact congrArg lD ev
   obtain⟨m0,_,hl⟩:=I.loc;obtain⟨u,r,l⟩:=hl p.2 p.1 v g1 ev2 (.inr g3);refine⟨u,r,?_⟩;have l2:∃c,X.env.cells.lookup p.1=lD c/\s.heap.IsCell c (lD u):=by
    rcases l with⟨k,_⟩|⟨_,c,e,z⟩
    .have k':X.env.scope.names.lookup p.1=lD .local:=k
     rcases g3 with z|z
     .rw[z] at k';cases k'
     .rw[z] at k';cases k'
    .exact⟨c,e,z⟩
   obtain⟨c,e,o,ho,hdc⟩:=l2;refine .inr ⟨?_,c,?_,o,hk c o ho,hdc⟩
   .exact i9 g2
   .show(sY X scope C).lookup p.1=lD c;unfold sY;rw[Dr _ _ _ _ fun z=>by cases yz ZE g2 z];exact wm (Rj g2) e
 .rcases Zf x c e with z|⟨z,_⟩
  .exact hoc x c e z
  .obtain⟨v,o,ho,hdc⟩:=I.cell x c z;exact⟨v,o,hk c o ho,hdc⟩
 .show upd H D (.lst []) C=Ld;rw[aA hCD];exact I.Ro.fresh hC
 .show upd H D (.lst []) c=Ld
  rcases Zf x c e with z|⟨z1,z2⟩
  .rw[aA (RD (RP hDC z))];exact I.Ro.fresh (Pp hC (QJ z))
  .rw[aA (PU (PD z2 hD))];exact I.Uu x c z1
 .exact I.Ro.laid hk hD ⟨by show 0<=Po;exact Qb _,[],n,.nil,hd⟩
 .show(own.map (fun _=>(Ld:Option V))++fv.map fun p=>(Y[p.2]?).join).length=(own++fv.map (·.1)).length;simp
end
def Hi (X:Cx) (d:List Qn) (t:TT):Prop:=
 ∀(a:List (Pc×Obj)) (s:Pa) (b:St) (H:Hp) (Q:Bool->Hp->Prop),Inv X a b H s->t b H Q->
  wpAny (model X.prog X.w) X.A (forIn d Pb fun c r=>if r=Pb then do let ok<-isTrue c X.env (eval c X.env);pure (ForInStep.yield ok) else pure (ForInStep.yield r)) (TP X a b Q) X.xe s
def zZ:TT:=fun _ H Q=>Q Pb H
theorem iJ:Hi X [] zZ:=fun _ _ _ H _ I h=>wpAny_tests_nil ⟨H,I,h⟩
theorem Db (h:PT X c tc):Hi X [c] tc:=fun a s b H Q I d=>wpAny_tests_one (h a s b H Q I d)
def Az (J:It) (D:Pc) (c:St) (g:TG) (h:TT) (f:TE) (l:Hp) (Fin:Hp->Prop):Prop:=
 ∃W:Nat->Nat->St->Hp->Prop,(∃m,W 0 m c (upd l D (.lst [])))/\∀i m σ H,W i m σ H->
  (J.stop i H/\Fin H)\/(J.go i H/\∃N:St->Hp->Prop,(∀σ' H',N σ' H'->∃m',m'<m/\W (i+1) m' σ' H')/\
   ∀x H',J.yld i H x H'->g x σ H' fun a j=>h a j fun b e=>if b=Pb then f a e fun y d=>∃ys,d D=lD (.lst ys)/\ys.length<Po/\N a (upd d D (.lst (ys++[y]))) else N a e)
section
variable {prog:PF} {w:Qc} {A:PX} {s:Pa}
theorem BI {g o d:Qn} {f:List Qn} {b:TK} {pos:Pos} {it i:OW} {env:Env} {R:Vy->Pa->Prop} {XE:OW->Pa->Prop} (B:∀x s1,XE x s1->notedBy (model prog w) A env (fun e s2=>R (.error e) s2) x s1) (I:Nat->Pa->Prop)
  (j:∀n s,I n s->wpAny (model prog w) A (pyNext it) (fun r s1=>match r with
   |none=>R (.ok .next) s1
   |some v=>wpAny (model prog w) A (letOwnedTupleGo o it v) (fun _ s2=>wpAny (model prog w) A (assign o env v) (fun _ s3=>
     wpAny (model prog w) A (forIn f Pb fun c r=>if r=Pb then do let ok<-isTrue c env (eval c env);pure (ForInStep.yield ok) else pure (ForInStep.yield r)) (fun ok s4=>
      if ok=Pb then wpAny (model prog w) A (eval g env) (fun x s5=>
       wpAny (model prog w) A (call (.builtin "list.append") [i,x]) (fun _ s6=>∃m,m<n/\I m s6) (fun _ _=>False) s5) XE s4
      else∃m,m<n/\I m s4) (fun _ _=>False) s3) (fun _ _=>False) s2) (fun _ _=>False) s1) (fun _ _=>False) s)
  (n:Nat) (h:I n s):codeAny (model prog w) A (.compLoop (.ListComp g [⟨o,d,f,0⟩] b pos) 0 it i env) R s:=by
 refine codeAny_loop rfl I (fun n s C=> ?_) n h;show wpAny _ A (Sem.onRaise (compTurn (.ListComp g [⟨o,d,f,0⟩] b pos) 0 it i env) (fun x=>do noteFrame x env;theTreesLotGoes x)) _ _ s;refine wpAny_noted ?_;rw[compTurn_list]
 have l:∀{α:Type} {t:Sem α} {Q u:α->Pa->Prop} {E:OW->Pa->Prop} {s:Pa},wpAny (model prog w) A t Q (fun _ _=>False) s->(∀a s',Q a s'->u a s')->wpAny (model prog w) A t u E s:=
  fun h1 p=>wpAny_mono h1 p fun _ _ z=>False.elim z
 refine Bn (wpAny_standAt (Bn (l (j n s C) fun r s1 h1=> ?_)));cases r with
 |none=>exact OY h1
 |some v=>
  refine Bn (l h1 fun _ s2 p=>Bn (l p fun _ s3 H=>Bn (l H fun ok s4 q=> ?_)));cases ok with
  |false=>exact OY ⟨rfl,q⟩
  |true=>exact Bn (Bn (wpAny_mono q (fun x s5 G=>Bn (l G fun _ s6 F=>OY (OY ⟨rfl,F⟩))) B))
end
section
variable {X:Cx} {Z:List (Pc×Obj)} {Y:St} {H:Hp} {s:Pa}
theorem uj
  (h:Q (newEnv scope s.heap.objs.size globals (Ry (s.heap.objs.size+1) scope.names closure) qual Ld .none (lD env) builtinsNs) {s with heap:=pushCells (s.heap.push {cls:= .type "dict",data:= .dict #[]}) scope.names}):
  wpAny M A (newFunctionEnv scope globals closure [] qual Ld .none (lD env)) Q E s:=by
 simp only[newFunctionEnv,Xl,if_true];refine Bn (wpAny_alloc ?_);refine Bn (wpAny_layCells _ (fun c a b=>by cases hkc:a==Qa.cell<;>simp[hkc]) _ _ _ _ ?_);rw[show({s with heap:=s.heap.push {cls:= .type "dict",data:= .dict #[]}}:Pa).heap.objs.size=s.heap.objs.size+1 from Heap.size_push ..];rw[ZU];exact Bn (OY (OY h))
theorem xK {O tg q:Qn} {F:List Qn} {scope:TK} {pos:Pos} {own:List Str} {h:List (Str×Nat)} {g:TG} {tc:TT} {te:TE} {E:OW->Pa->Prop} {it:Pc} {fp:List Pc} {tn:Nat->Heap->Prop} {J:It} {Fin:Pc->Hp->Prop}
  {RR:OW->Pc->Vy->Pa->Prop} (I:Inv X Z Y H s) (hc:X.calm=Pb) (Uy:scope.kind= .function) (ZE:(scope.names.map (·.1)).Nodup) (ZF:∀y∈scope.names,y.2= .free->∃c,X.env.cells.lookup y.1=lD c) (hfv:XT X scope h)
  (T:Turn X.prog X.w X.K tg J fp it tn) (st:tn 0 s.heap) (G:∀b∈fp,qL X Z H b)
  (hg:∀C,PG (dS X s H scope C (gv own h) fp) tg g) (ht:∀C,Hi (dS X s H scope C (gv own h) fp) F tc) {W:Pc->OW->Pa->Prop} (he:∀C,PE ((dS X s H scope C (gv own h) fp).Vr (W C)) O te) (hEE:∀D C x s1,s.heap.objs.size<=C->W C x s1->notedBy (model X.prog X.w) X.A (compEnvC scope (sY X scope C) C X.env) (fun e s2=>RR (.ref D) C (.error e) s2) x s1)
  (hR:∀D,H D=Ld->Az J D (fR own h Y) g tc te H (Fin D))
  (hRR:∀D C H' s',Inv X Z Y H' s'->Fin D H'->(∃m,s'.heap.Ns C m)->s.heap.objs.size<=C->H' C=Ld->RR (.ref D) C (.ok .next) s'):
  wpAny (model X.prog X.w) X.A (newList []) (fun acc s3=>wpAny (model X.prog X.w) X.A (newFunctionEnv scope X.env.globals (gG X.env scope.names []) [] X.env.qual Ld .none (lD X.env)) (fun acs s4=>
   codeAny (model X.prog X.w) X.A (.compStart (.ListComp O [⟨tg,q,F,0⟩] scope pos) 0 (.ref it) acc {acs with scope:=relabel scope X.env}) (RR acc acs.locals) s4) E s3) E s:=by
 refine P8 ?_;generalize hH2:s.heap.push {cls:= .type "list",dict:=Ld,data:= .seq ([]:List OW).toArray}=h2;have hz:h2.objs.size=s.heap.objs.size+1:=by rw[<-hH2,Heap.size_push]
 refine uj (s:={s with heap:=h2}) ?_;have L:s.heap.objs.size<h2.objs.size:=by rw[hz];exact Q6 _
 have hC:s.heap.objs.size<=h2.objs.size:=QJ L;generalize hH1:pushCells (h2.push {cls:= .type "dict",data:= .dict #[]}) scope.names=h1;have kp2:∀b o,h2.get? b=lD o->h1.get? b=lD o:=fun b o e=>by rw[<-hH1];exact WE _ _ b o (Heap.get?_push_of_some _ e)
 have kp:∀b o,s.heap.get? b=lD o->h1.get? b=lD o:=fun b o e=>kp2 b o (by rw[<-hH2];exact Heap.get?_push_of_some _ e);have WY:h1.Ns h2.objs.size (fun _=>Ld):=by rw[<-hH1];exact(Heap.Ns.new h2 (.type "dict")).keeps (WE _ _)
 have hoc:∀x c,(sY X scope h2.objs.size).lookup x=lD c->h2.objs.size<c->∃v,h1.IsCell c v:=fun x c e TZ=>by
  have e':(Ry (h2.push {cls:= .type "dict",data:= .dict #[]}).objs.size scope.names (gG X.env scope.names [])).lookup x=lD c:=by rw[Heap.size_push];exact e
  rcases o8 _ _ _ x c e' with⟨_,z⟩|z
  .exact⟨Ld,by rw[<-hH1];exact z⟩
  .exact absurd (RP (su I z).2 (RP L TZ)) (Qq _)
 have hd:∃n,h1.get? s.heap.objs.size=lD {cls:= .type "list",data:= .seq #[] n}:=⟨0,kp2 _ _ (by rw[<-hH2];exact Heap.get?_push_size _ rfl)⟩;have ZZ:∀b∈fp,b<s.heap.objs.size:=fun b f=>by obtain⟨o,e,_⟩:=T.obj 0 _ st b f;exact Heap.lt_size e
 have hn:H s.heap.objs.size=Ld:=I.Ro.fresh (O8 _);obtain⟨W,⟨m0,w0⟩,turn⟩:=hR s.heap.objs.size hn;have M:∀{pl:List (Pc×Obj)} {H':Hp},(∀b∈fp,H' b=Ld)->(∀p∈pl,p.1∉fp)->∀b∈fp,qL (dS X s H scope h2.objs.size (gv own h) fp) pl H' b:=fun{pl H'} hn' Zd b f=>by have ok:=AJ (C:=h2.objs.size) (N:=gv own h) I Uy ZE ZF hC G ZZ;exact⟨hn' b f,(ok.exf b f).1,ok.XW b f,.inl f,(ok.exf b f).2,fun p hp=>by have hp':p∈([]:List (Pc×Obj))++pl:=hp;intro z;exact Zd p (by simpa using hp') (by rw[z];exact f)⟩
 have l:∀s4:Pa,s4={s with heap:=h1}->
   codeAny (model X.prog X.w) X.A (.compLoop (.ListComp O [⟨tg,q,F,0⟩] scope pos) 0 (.ref it) (.ref s.heap.objs.size) (compEnvC scope (sY X scope h2.objs.size) h2.objs.size X.env)) (RR (.ref s.heap.objs.size) h2.objs.size) s4:=by
  rintro s4 rfl
  have I0:Inv (dS X s H scope h2.objs.size (gv own h) fp) [] (fR own h Y) (upd H s.heap.objs.size (.lst [])) {s with heap:=h1}:=
   EI I Uy ZE ZF hfv (O8 _) L hC G ZZ WY hoc kp hd
  have st0:tn 0 h1:=T.keep 0 _ _ st fun b _ o e=>kp b o e;have fr0:∀b∈fp,(upd H s.heap.objs.size (.lst [])) b=Ld:=fun b f=>by rw[aA (PU (ZZ b f))];exact(G b f).1
  refine BI (fun x s1 z=>hEE _ _ x s1 hC z) (fun n s'=>∃i σ' H',Inv (dS X s H scope h2.objs.size (gv own h) fp) [] σ' H' s'/\tn i s'.heap/\(∀b∈fp,H' b=Ld)/\W i n σ' H') ?_ m0 ⟨0,_,_,I0,st0,fr0,w0⟩;rintro n s5 ⟨i,j,H5,I5,st5,fr5,w5⟩;rcases turn i n j H5 w5 with⟨stop,fin⟩|⟨go,N,hN,step⟩
  .refine cg (T.done (dS X s H scope h2.objs.size (gv own h) fp) rfl rfl rfl hc i [] s5 j H5 (fun _ _=>False) I5 (M fr5 (by simp)) st5 stop) fun r s6 ⟨hr,S⟩=> ?_;subst hr;obtain⟨mm,hm,_⟩:=S.loc;refine hRR _ _ H5 s6 ?_ fin ⟨mm,hm⟩ hC S.free;exact I.ack (ch:=fp) S.os S.base S.Ro S.bare fun b f=>⟨(G b f).2.2.2.1,(G b f).2.1,(G b f).2.2.2.2.1,(G b f).2.2.2.2.2⟩
  .refine cg (T.item (dS X s H scope h2.objs.size (gv own h) fp) rfl rfl rfl hc i [] s5 j H5 (fun _ _=>False) I5 (M fr5 (by simp)) st5 go) fun r s6 ⟨u,hr,h6⟩=> ?_
   subst hr;refine cg h6 fun _ s7 ⟨x,H7,I7,r7,y7,B,fr7⟩=> ?_;have I7':=I7.pinned (fp:=fp) (M fr7 (by simp)) (T.obj _ _ B);have t:∀{a:St} {P:Hp} {Q:Pa},Inv (dS X s H scope h2.objs.size (gv own h) fp) ([]++qE fp s7.heap) a P Q->N a P->∃m,m<n/\∃i σ' H',Inv (dS X s H scope h2.objs.size (gv own h) fp) [] σ' H' Q/\tn i Q.heap/\(∀b∈fp,H' b=Ld)/\W i m σ' H':=fun{a P Q} I8 n8=>by obtain⟨m',hm,w8⟩:=hN a P n8;refine⟨m',hm,i+1,a,P,I8.UY,T.keep _ _ _ B fun b f o e=>(I8.pin (b,o) (PM _ (PM _ (iM f e)))).1,fun b f=> ?_,w8⟩;obtain⟨o,e,d⟩:=T.obj _ _ B b f;exact(I8.pin (b,o) (PM _ (PM _ (iM f e)))).2.1
   refine cg (hg _ _ s7 j H7 x u _ I7' r7 (step x H7 y7)) fun _ Q ⟨a,P,I8,q8⟩=> ?_;refine cg (ht _ _ Q a P _ I8 q8) fun ok s9 ⟨H9,I9,q9⟩=> ?_;cases ok with
   |false=>rw[if_neg Pt] at q9⊢;exact t I9 q9
   |true=>rw[if_pos rfl] at q9⊢;refine cg (he _ _ s9 a H9 _ (I9.Vr _) q9) fun y s10 ⟨U,H10,aeZ,r10,ys,hy,hl,q10⟩=> ?_;have I10:=aeZ.T7;refine cg (im _ s10 a H10 (.ref s.heap.objs.size) [U] (.ref s.heap.objs.size) [y] (fun _ H11=>N a H11) I10 rfl (.cons r10 .nil) ⟨_,ys,U,rfl,rfl,hy,hl,q10⟩) fun _ s11 ⟨v11,H11,I11,_,q11⟩=> ?_;exact t I11 q11
 exact codeAny_compStart_list (l _ rfl) (T.self _ 0 _ _ _ (T.keep 0 _ _ st fun b _ o e=>kp b o e) (l _ rfl))
def vZ (own:List Str) (e:List (Str×Nat)) (b:TI) (g:TG) (d:TT) (c:TE):TE:=fun Y H Q=>b Y H fun J a=>∀D,a D=Ld->Az J D (fR own e Y) g d c a fun f=>Q (.ref D) f
theorem z7 {a:TK} (ok:X.Ok) (h:∀y∈a.names,y.2= .free->(X.env.scope.names.lookup y.1=lD .cell\/X.env.scope.names.lookup y.1=lD .free)):∀y∈a.names,y.2= .free->∃c,X.env.cells.lookup y.1=lD c:=
 fun y b e=>ok.has y.1 (h y b e)
theorem LG {a b:TK} (h:(a.names.all fun y=> !(y.2==Qa.free)||(b.names.lookup y.1==lD Qa.cell)||(b.names.lookup y.1==lD Qa.free))=Pb):
  ∀y∈a.names,y.2= .free->(b.names.lookup y.1=lD .cell\/b.names.lookup y.1=lD .free):=fun y c e=>by
 have q:=Qk.mp h y c;rw[e] at q
 simpa using q
theorem i4 {elt tg iter:Qn} {ifs:List Qn} {scope:TK} {pos:Pos} (own:List Str) (fv:List (Str×Nat)) {wi:TI} {g:TG} {tc:TT} {te:TE} (hc:X.calm=Pb) (hi:PI X tg iter wi)
  (hg:∀s H C fp,PG (dS X s H scope C (gv own fv) fp) tg g) (ht:∀s H C fp,Hi (dS X s H scope C (gv own fv) fp) ifs tc) (he:∀s H C fp,PE (dS X s H scope C (gv own fv) fp) elt te) (hfv:XT X scope fv)
  (ady:(scope.names.all fun y=> !(y.2==Qa.free)||(X.env.scope.names.lookup y.1==lD Qa.cell)||(X.env.scope.names.lookup y.1==lD Qa.free))=Pb)
  (Uy:scope.kind= .function:=by rfl) (ZE:(scope.names.map (·.1)).Nodup:=by decide+kernel)
  (aao:∀y∈scope.names,y.2= .local->scope.names.lookup y.1=lD .local:=by decide+kernel) (hs:∀x,foldedSetIterable iter X.env x=pure x:=by intro _;rfl):
  PE X (.ListComp elt [⟨tg,iter,ifs,0⟩] scope pos) (vZ own fv wi g tc te):=by
 intro Z s Y H Q I h;have ZF:=LG ady;rw[eval_ListComp];refine wpAny_comprehension_free (use:=Ld) rfl hs (yr (z7 I.ok ZF)) Uy aao (cg (hi Z s Y H _ I h) fun xv s1 h1=>cg h1 fun itv s2 h2=> ?_);obtain⟨it,fp,tn,J,H2,e,I2,T,st2,f2,R⟩:=h2;subst e;refine xK I2 hc Uy ZE (z7 I.ok ZF) hfv T st2 f2 (fun C=>hg _ _ C _) (fun C=>ht _ _ C _) (W:=fun _ _ _=>False) (fun C=>he _ _ C _) (fun _ _ _ _ _ z=>z.elim) (Fin:=fun D H'=>Q (.ref D) H') R ?_;intro D C H' s' I' fin hm hC hn;obtain⟨m,hm⟩:=hm;refine⟨m,hm,fun h' hs'=>⟨.ref D,H',?_,rfl,fin⟩⟩;obtain⟨f0,f1,_,f3,f4,f5⟩:=I2.W8 hC hn;exact I'.turned (t':=s'.toks) (fun b o hb q=>(hs'.2 b hb).trans q) f0 f1 f3 f4 f5
end
theorem HN {J:It} {D:Pc} {c:St} {g:TG} {l:TT} {j:TE} {o:Hp} {Fin:Hp->Prop} (n:Nat) (a:Nat->St->Hp->Prop) (h0:a 0 c (upd o D (.lst []))) (d:∀i σ H,i<n->a i σ H->J.go i H) (f:∀σ H,a n σ H->J.stop n H)
  (hs:∀i σ H x H',i<n->a i σ H->J.yld i H x H'->g x σ H' fun σ2 H2=>l σ2 H2 fun b H3=>if b=Pb then j σ2 H3 fun y H4=>∃ys,H4 D=lD (.lst ys)/\ys.length<Po/\a (i+1) σ2 (upd H4 D (.lst (ys++[y]))) else a (i+1) σ2 H3)
  (t:∀σ H,a n σ H->Fin H):Az J D c g l j o Fin:=by
 refine⟨fun i m σ H=>m=n - i/\i<=n/\a i σ H,⟨n,by simp,Qb _,h0⟩,?_⟩;rintro i m σ H ⟨rfl,hi,p⟩;by_cases h:i<n
 .exact .inr ⟨d i σ H h p,a (i+1),fun q H' r=>⟨n - (i+1),by omega,rfl,h,r⟩,fun x H' y=>hs i σ H x H' h p y⟩
 .have e:i=n:=by omega
  subst e;exact .inl ⟨f σ H p,t σ H p⟩
def AA (P:PF) (w:Qc) (K:OK) (mg:Str->Option OW) (base:Heap) (k:Nat) (x:Str) (ps:List Str) (sp:Sp):Prop:=
 ∃(f:Pc) (a:QR),FnOk P w K mg base gB k f a ps sp/\Binds K a ps []/\RF K (.ref f)=Pb/\mg x=lD (.ref f)
theorem hZ (C:AA X.prog X.w X.K X.mg X.base k x ps sp) (g:S5 j X.A) (ha:PA X (e::es) t) (a:k<=j:=by decide) (h:Gl X x:=by rfl)
  (c:(x==("__debug__":Str))=Ph:=by decide) (i:Qy (e::es) X.env=(Ph,eval e X.env)::Qy es X.env:=by rfl) (l:(backTo pos (Qy es X.env)).any (·.1)=Ph:=by rfl):
  PE X (.Call (.Name x p) (e::es) [] pos) (sk sp [] E0 t):=by
 obtain⟨f,n,F,b,d,m⟩:=C;exact F7 F (g.mono a) h m d b .nil Ik ha c i l
theorem Dx {α:Type} {xs:List α} {i:Int} {v:α} (h0:0<=i) (h:xs[i.toNat]? =lD v):kU xs i=lD v:=by have q:=zt h;rwa [Int.toNat_of_nonneg h0] at q
theorem Rg.tup {K:OK} (e:Rg H H') (h:TX K H a xs):TX K H' a xs:=by
 rcases h with(h|⟨o,h⟩)|h
 .exact .inl (.inl (e _ _ h))
 .exact .inl (.inr ⟨o,e _ _ h⟩)
 .exact .inr h
theorem bU (h:H p=Ld) (o:HO):Rg H (upd H p o):=fun b u q=>by rw[aA (cF q h)];exact q
theorem Mg:Qx "max"=lD (.builtin "max"):=by decide+kernel
theorem D6:Qx "min"=lD (.builtin "min"):=by decide+kernel
theorem lu:Qx "isinstance"=lD (.builtin "isinstance"):=by decide+kernel
theorem Ar:Qx "len"=lD (.builtin "len"):=by decide+kernel
theorem vQ:Qx "sorted"=lD (.builtin "sorted"):=by decide+kernel
theorem IX:Qx "all"=lD (.builtin "all"):=by decide+kernel
theorem Ms:Qx "str"=lD (.type "str"):=by decide+kernel
theorem uD:Qx "list"=lD (.type "list"):=by decide+kernel
theorem ul:Qx "tuple"=lD (.type "tuple"):=by decide+kernel
end L2
namespace L3
open PySem L2
abbrev D:=O9
inductive PV where
 |fz (d:D)
 |ow (ds:List D)
 |pl (i:Nat)
abbrev aO:=List (Option PV)
structure Xc where
 cls:Str
 fs:List (Str×D)
inductive Res (α:Type) where
 |ok (a:α)
 |er (x:Xc)
 |bad
namespace Res
def bind (r:Res α) (f:α->Res β):Res β:=match r with
 | .ok a=>f a
 | .er x=> .er x
 | .bad=> .bad
def Qi:Option α->Res α
 |some a=> .ok a
 |none=> .bad
theorem bind_ok (a:α) (f:α->Res β):(Res.ok a).bind f=f a:=rfl
end Res
abbrev bF:=Pc->Prop
def bx (O:bF) (p:Pc):bF:=fun b=>O b\/b=p
def Dm (O:bF) (p:Pc):bF:=fun b=>O b/\b≠p
def WZ:bF:=fun _=>False
def Ev (O:bF) (H:Hp) (a:bF) (H':Hp):Prop:=∀b o,H b=lD o->¬O b->H' b=lD o/\¬a b
theorem Ev.refl:Ev O H O H:=fun _ _ h n=>⟨h,n⟩
theorem Ev.trans (a:Ev O H O1 H1) (b:Ev O1 H1 O2 H2):Ev O H O2 H2:=fun p o h n=>let⟨h1,n1⟩:=a p o h n;b p o h1 n1
theorem Ev.grow (s:Rg H H'):Ev O H O H':=fun b o h n=>⟨s b o h,n⟩
theorem Ev.add (s:Rg H H') (a:H p=Ld):Ev O H (bx O p) H':=fun b o h n=>⟨s b o h,fun z=>z.elim n fun e=>by subst e;rw[h] at a;cases a⟩
theorem Ev.sub (h:∀b,O' b->O b):Ev O H O' H:=fun b o e n=>⟨e,fun z=>n (h b z)⟩
theorem Ev.mut (a:O p) (u:HO):Ev O H O (upd H p u):=fun b o h n=>⟨by rw[aA (fun e=>n (by rw[e];exact a))];exact h,n⟩
def Tv (K:OK) (H:Hp) (a:Pc) (xs:List V):Prop:=Rd H a (.lst xs)\/∃(b:List OW) (n:Nat),K.lookup a=lD {cls:= .type "list",data:= .seq b.toArray n}/\xs.length<=Po/\Vals xs b
theorem Tv.sq (h:Tv K H a xs):Um K H a xs:=by
 rcases h with h|⟨Qh,n,h1,h2,h3⟩
 .exact .inl h
 .exact .inr ⟨_,Qh.toArray,n,h1,rfl,rfl,rfl,by rw[Pm,<-h3.length];exact h2,by simpa using h3⟩
theorem Tv.of (h:H a=lD (.lst xs)):Tv K H a xs:= .inl (.inl h)
theorem Tv.same (e:Rg H H') (h:Tv K H a xs):Tv K H' a xs:=by
 rcases h with(h|⟨o,h⟩)|h
 .exact .inl (.inl (e _ _ h))
 .exact .inl (.inr ⟨o,e _ _ h⟩)
 .exact .inr h
theorem jX (H:Hp):Rg (fun _=>Ld) H:=fun _ _ h=>by cases h
def Wm (O:bF) (K:OK) (H:Hp) (a:Pc) (xs:List V):Prop:=Tv K H a xs/\(O a->Tv K (fun _=>Ld) a xs)
def U1 (O:bF) (K:OK) (H:Hp) (a:Pc) (xs:List V):Prop:=TX K H a xs/\(O a->TX K (fun _=>Ld) a xs)
section
variable {O Z:bF} {K:OK} {H H':Hp} {a:Pc} {xs:List V}
theorem Wm.ev (h:Wm O K H a xs) (e:Ev O H Z H'):Wm Z K H' a xs:=by
 obtain⟨h,k⟩:=h;by_cases z:O a
 .exact⟨Tv.same (jX H') (k z),fun _=>k z⟩
 .rcases h with(h|⟨o,h⟩)|h
  .obtain⟨h1,b⟩:=e a _ h z;exact⟨.inl (.inl h1),fun y=>absurd y b⟩
  .obtain⟨h1,b⟩:=e a _ h z;exact⟨.inl (.inr ⟨o,h1⟩),fun y=>absurd y b⟩
  .exact⟨.inr h,fun _=> .inr h⟩
theorem U1.ev (h:U1 O K H a xs) (e:Ev O H Z H'):U1 Z K H' a xs:=by
 obtain⟨h,k⟩:=h;by_cases z:O a
 .exact⟨(jX H').tup (k z),fun _=>k z⟩
 .rcases h with(h|⟨o,h⟩)|h
  .obtain⟨h1,b⟩:=e a _ h z;exact⟨.inl (.inl h1),fun y=>absurd y b⟩
  .obtain⟨h1,b⟩:=e a _ h z;exact⟨.inl (.inr ⟨o,h1⟩),fun y=>absurd y b⟩
  .exact⟨.inr h,fun _=> .inr h⟩
end
mutual
inductive DV (O:bF) (K:OK) (H:Hp):V->D->Prop
 |S4:DV O K H .S4 .none
 |bl (b:Bool):DV O K H (.bl b) (.bool b)
 |int (i:Int):DV O K H (.int i) (.int i)
 |str (x:Str):DV O K H (.str x) (.str x)
 |tup {a:Pc} {xs:List V} {ds:List D}:U1 O K H a xs->QV O K H xs ds->DV O K H (.ref a) (.tuple ds)
 |lst {a:Pc} {xs:List V} {ds:List D}:Wm O K H a xs->QV O K H xs ds->DV O K H (.ref a) (.list ds)
inductive QV (O:bF) (K:OK) (H:Hp):List V->List D->Prop
 |nil:QV O K H [] []
 |cons {v:V} {vs:List V} {d:D} {ds:List D}:DV O K H v d->QV O K H vs ds->QV O K H (v::vs) (d::ds)
end
section
variable {O Z:bF} {K:OK} {H H':Hp}
mutual
theorem DV.ev (e:Ev O H Z H'):∀{v:V} {d:D},DV O K H v d->DV Z K H' v d
 |_,_,.S4=> .S4
 |_,_,.bl b=> .bl b
 |_,_,.int i=> .int i
 |_,_,.str x=> .str x
 |_,_,.tup h hs=> .tup (h.ev e) (QV.ev e hs)
 |_,_,.lst h hs=> .lst (h.ev e) (QV.ev e hs)
theorem QV.ev (e:Ev O H Z H'):∀{vs:List V} {ds:List D},QV O K H vs ds->QV Z K H' vs ds
 |_,_,.nil=> .nil
 |_,_,.cons h hs=> .cons (DV.ev e h) (QV.ev e hs)
end
theorem QV.length:∀{vs:List V} {ds:List D},QV O K H vs ds->vs.length=ds.length
 |_,_,.nil=>rfl
 |_,_,.cons _ t=>by rw[Pf,Pf,t.length]
theorem QV.get:∀{vs:List V} {ds:List D} {i:Nat} {d:D},QV O K H vs ds->ds[i]? =lD d->∃v,vs[i]? =lD v/\DV O K H v d
 |_,_,_,_,.nil,e=>by simp at e
 |_,_,0,_,.cons h _,e=>by simp at e;subst e;exact⟨_,rfl,h⟩
 |_,_,i+1,d,.cons _ t,e=>by obtain⟨v,h1,a⟩:=QV.get t (by simpa using e);exact⟨v,by simpa using h1,a⟩
theorem QV.ZR:∀{vs:List V} {ds:List D} {i:Nat} {v:V},QV O K H vs ds->vs[i]? =lD v->∃d,ds[i]? =lD d/\DV O K H v d
 |_,_,_,_,.nil,e=>by simp at e
 |_,_,0,_,.cons h _,e=>by simp at e;subst e;exact⟨_,rfl,h⟩
 |_,_,i+1,v,.cons _ t,e=>by obtain⟨d,h1,a⟩:=QV.ZR t (by simpa using e);exact⟨d,by simpa using h1,a⟩
theorem QV.append:∀{vs ws:List V} {ds a:List D},QV O K H vs ds->QV O K H ws a->QV O K H (vs++ws) (ds++a)
 |_,_,_,_,.nil,h=>h
 |_,_,_,_,.cons h t,g=> .cons h (QV.append t g)
theorem QV.take:∀{vs:List V} {ds:List D} (n:Nat),QV O K H vs ds->QV O K H (vs.take n) (ds.take n)
 |_,_,0,_=> .nil
 |_,_,_+1,.nil=> .nil
 |_,_,n+1,.cons h t=> .cons h (QV.take n t)
theorem QV.drop:∀{vs:List V} {ds:List D} (n:Nat),QV O K H vs ds->QV O K H (vs.drop n) (ds.drop n)
 |_,_,0,h=>h
 |_,_,_+1,.nil=> .nil
 |_,_,n+1,.cons _ t=>QV.drop n t
theorem QV.flat (h:QV O K H vs ds):∀n:Nat,QV O K H (Pe n vs).flatten (Pe n ds).flatten
 |0=> .nil
 |n+1=>by rw[Qp,Qp,R0,R0];exact h.append (QV.flat h n)
mutual
theorem DV.plain:∀{v:V} {d:D},DV O K H v d->L2.DV K H v d
 |_,_,.S4=> .S4
 |_,_,.bl b=> .bl b
 |_,_,.int i=> .int i
 |_,_,.str x=> .str x
 |_,_,.tup h hs=> .tup h.1 (QV.plain hs)
 |_,_,.lst h hs=> .lst h.1.sq (QV.plain hs)
theorem QV.plain:∀{vs:List V} {ds:List D},QV O K H vs ds->L2.QV K H vs ds
 |_,_,.nil=> .nil
 |_,_,.cons h hs=> .cons (DV.plain h) (QV.plain hs)
end
end
def DX (O:bF) (K:OK) (H:Hp) (v:V):D->Prop
 | .list ds=>∃a xs,v= .ref a/\Tv K H a xs/\QV O K H xs ds
 |d=>DV O K H v d
theorem DV.x (h:DV O K H v d):DX O K H v d:=by
 cases h with
 |lst h a=>exact⟨_,_,rfl,h.1,a⟩
 |S4=>exact .S4
 |bl b=>exact .bl b
 |int i=>exact .int i
 |str x=>exact .str x
 |tup h a=>exact .tup h a
theorem DX.plain (h:DX O K H v d):L2.DV K H v d:=by
 cases d with
 |list ds=>obtain⟨a,xs,rfl,h1,c⟩:=h;exact .lst h1.sq c.plain
 |none=>exact DV.plain h
 |bool b=>exact DV.plain h
 |int i=>exact DV.plain h
 |str x=>exact DV.plain h
 |tuple ds=>exact DV.plain h
 |dict kvs=>exact DV.plain h
def Wr (K:OK) (b:Hp) (O:bF) (H:Hp) (v:V):PV->Prop
 | .fz d=>DV O K H v d
 | .ow ds=>∃a vs,v= .ref a/\O a/\b a=Ld/\H a=lD (.lst vs)/\QV O K H vs ds
 | .pl _=>False
structure Rl (K:OK) (B:bF) (H0:Hp) (O:bF) (σ:St) (H:Hp) (ρ:aO):Prop where
 same:Rg H0 H
 bo:∀a,B a->O a
 bd:∀a,B a->H0 a≠Ld
 od:∀a,H a=Ld->¬O a
 len:σ.length=ρ.length
 slot:∀(i:Nat) (x:PV),ρ[i]? =lD (lD x)->∃v,σ[i]? =lD (lD v)/\Wr K H0 O H v x
 one:∀(i j:Nat) (ds es:List D) (v:V),ρ[i]? =lD (lD (.ow ds))->ρ[j]? =lD (lD (.ow es))->σ[i]? =lD (lD v)->σ[j]? =lD (lD v)->i=j
def Uv (K:OK) (e:Hp) (O:bF) (b:St) (H:Hp) (ρ:aO) (v:V):PV->Prop
 | .fz d=>DV O K H v d
 | .ow ds=>∃a vs,v= .ref a/\O a/\e a=Ld/\H a=lD (.lst vs)/\QV O K H vs ds/\∀(i:Nat) (c:List D),ρ[i]? =lD (lD (.ow c))->b[i]?≠lD (lD (.ref a))
 | .pl i=>b[i]? =lD (lD v)
def j8:PV->Prop
 | .ow _=>False
 |_=>True
def jb:PV->PV
 | .ow ds=> .fz (.list ds)
 |p=>p
section
variable {K:OK} {B O X:bF} {Z H H':Hp} {Y:St} {ρ ρ':aO} {v:V}
theorem Wr.grow (s:Rg H H') (h:Wr K Z O H v x):Wr K Z O H' v x:=by
 cases x with
 |fz d=>exact DV.ev (Ev.grow s) h
 |ow ds=>obtain⟨a,vs,e,h1,f,c,b⟩:=h;exact⟨a,vs,e,h1,f,s _ _ c,b.ev (Ev.grow s)⟩
 |pl i=>exact h
theorem Rl.grow (R:Rl K B Z O Y H ρ) (s:Rg H H'):Rl K B Z O Y H' ρ:=
 ⟨R.same.trans s,R.bo,R.bd,fun a h=>R.od a (s.free h),R.len,fun i x h=>let⟨v,h1,h2⟩:=R.slot i x h;⟨v,h1,h2.grow s⟩,R.one⟩
theorem Rl.Z7 (R:Rl K B Z O Y H ρ) (h:H p=Ld):Z p=Ld:=R.same.free h
theorem Rl.add (R:Rl K B Z O Y H ρ) (s:Rg H H') (c:H p=Ld) (f:H' p≠Ld):Rl K B Z (bx O p) Y H' ρ:=by
 refine⟨R.same.trans s,fun a h=> .inl (R.bo a h),R.bd,fun a h z=>z.elim (R.od a (s.free h)) fun e=>f (by rw[<-e];exact h),R.len,fun i x h=> ?_,R.one⟩;obtain⟨v,h1,b⟩:=R.slot i x h;refine⟨v,h1,?_⟩;cases x with
 |fz d=>exact DV.ev (Ev.add s c) b
 |ow ds=>obtain⟨a,vs,e,m,l,j,g⟩:=b;exact⟨a,vs,e,.inl m,l,s _ _ j,g.ev (Ev.add s c)⟩
 |pl i=>exact b
theorem Rl.Zw (R:Rl K B Z O Y H ρ) (h:Z a=Ld):¬B a:=fun z=>R.bd a z h
theorem Rl.sub (R:Rl K B Z O Y H ρ) {a:Pc} (h0:Z a=Ld) (h:∀(i:Nat) (o:List D),ρ[i]? =lD (lD (.ow o))->Y[i]?≠lD (lD (.ref a))):Rl K B Z (Dm O a) Y H ρ:=by
 refine⟨R.same,fun b c=>⟨R.bo b c,fun e=>R.Zw h0 (e▸c)⟩,R.bd,fun b c z=>R.od b c z.1,R.len,fun i x g=> ?_,R.one⟩;obtain⟨v,h1,f⟩:=R.slot i x g;refine⟨v,h1,?_⟩;cases x with
 |fz d=>exact DV.ev (Ev.sub fun b z=>z.1) f
 |ow ds=>obtain⟨b,vs,e,n,m,l,j⟩:=f;subst e;exact⟨b,vs,rfl,⟨n,fun e=>h i ds g (by rw[h1,e])⟩,m,l,j.ev (Ev.sub fun b z=>z.1)⟩
 |pl i=>exact f
theorem uJ (h:H a=lD (.lst vs)) (n:¬O a) (b:QV O K H vs ds):DV O K H (.ref a) (.list ds):= .lst ⟨Tv.of h,fun z=>absurd z n⟩ b
theorem mh {pv:PV} (R:Rl K B Z O Y H ρ) (h:Uv K Z O Y H ρ v pv):∃X,Ev O H X H/\Rl K B Z X Y H ρ/\Uv K Z X Y H ρ v (jb pv):=by
 cases pv with
 |fz d=>exact⟨O,.refl,R,h⟩
 |pl i=>exact⟨O,.refl,R,h⟩
 |ow ds=>obtain⟨a,vs,rfl,h1,g,f,e,c⟩:=h;exact⟨Dm O a,Ev.sub fun b z=>z.1,R.sub g c,uJ f (fun z=>z.2 rfl) (e.ev (Ev.sub fun b z=>z.1))⟩
theorem oh (pv:PV):j8 (jb pv):=by cases pv<;>trivial
theorem Uv.keep {pv:PV} (hs:j8 pv) (e:Ev O H X H') (h:Uv K Z O Y H ρ v pv):Uv K Z X Y H' ρ' v pv:=by
 cases pv with
 |fz d=>exact DV.ev e h
 |pl i=>exact h
 |ow ds=>exact hs.elim
def Ox:Option (Option PV)->Option D
 |some (lD (.fz d))=>lD d
 |some (lD (.ow ds))=>lD (.list ds)
 |_=>Ld
def sj (ρ:aO):PV->Option D
 | .fz d=>lD d
 | .ow ds=>lD (.list ds)
 | .pl i=>Ox ρ[i]?
theorem kF {pv:PV} (R:Rl K B Z O Y H ρ) (h:Uv K Z O Y H ρ v pv) (e:sj ρ pv=lD d):DX O K H v d:=by
 cases pv with
 |fz r=>cases e;exact DV.x h
 |ow ds=>cases e;obtain⟨a,vs,rfl,h1,A,n,m,z⟩:=h;exact⟨a,vs,rfl,Tv.of n,m⟩
 |pl i=>
  have b:Ox ρ[i]? =lD d:=e;have p:=h;cases q:ρ[i]? with
  |none=>rw[q] at b;cases b
  |some o=>
   cases o with
   |none=>rw[q] at b;cases b
   |some x=>
    obtain⟨u,f,c⟩:=R.slot i x q;rw[p] at f;cases f;rw[q] at b;cases x with
    |fz r=>cases b;exact DV.x c
    |ow ds=>cases b;obtain⟨a,vs,rfl,w,t,l,g⟩:=c;exact⟨a,vs,rfl,Tv.of l,g⟩
    |pl j=>exact c.elim
def toS (ρ:aO) (i:Nat):Option (Option PV)->Option (D×aO)
 |some (lD (.fz d))=>lD (d,ρ)
 |some (lD (.ow ds))=>lD (.list ds,ρ.set i (lD (.fz (.list ds))))
 |_=>Ld
def vL (ρ:aO):PV->Option (D×aO)
 | .fz d=>lD (d,ρ)
 | .ow ds=>lD (.list ds,ρ)
 | .pl i=>toS ρ i ρ[i]?
theorem bO {l:List α} (h:(l.set i x)[j]? =lD y):(j=i/\y=x)\/(j≠i/\l[j]? =lD y):=by
 rw[QI] at h;by_cases e:i=j
 .rw[if_pos e] at h
  split at h
  .cases h;exact .inl ⟨e.symm,rfl⟩
  .cases h
 .rw[if_neg e] at h;exact .inr ⟨fun z=>e z.symm,h⟩
theorem r8 {pv:PV} (R:Rl K B Z O Y H ρ) (h:Uv K Z O Y H ρ v pv) (e:vL ρ pv=lD (d,ρ')):∃X,Ev O H X H/\Rl K B Z X Y H ρ'/\DV X K H v d:=by
 cases pv with
 |fz d'=>cases e;exact⟨O,.refl,R,h⟩
 |ow ds=>cases e;obtain⟨a,vs,rfl,h1,h2,U,T,S⟩:=h;exact⟨Dm O a,Ev.sub fun b z=>z.1,R.sub h2 S,uJ U (fun z=>z.2 rfl) (T.ev (Ev.sub fun b z=>z.1))⟩
 |pl i=>
  have c:toS ρ i ρ[i]? =lD (d,ρ'):=e;have t:=h;cases q:ρ[i]? with
  |none=>rw[q] at c;cases c
  |some o=>
   cases o with
   |none=>rw[q] at c;cases c
   |some x=>
    obtain⟨u,E,A⟩:=R.slot i x q;rw[t] at E;cases E;rw[q] at c;cases x with
    |fz d'=>cases c;exact⟨O,.refl,R,A⟩
    |pl j=>exact A.elim
    |ow ds=>
     cases c;obtain⟨a,vs,rfl,k1,Q,P,N⟩:=A;have m:Ev O H (Dm O a) H:=Ev.sub fun b z=>z.1;have F:=uJ P (fun z=>z.2 rfl) (N.ev m);refine⟨Dm O a,m,⟨R.same,fun b l=>⟨R.bo b l,fun e=>R.Zw Q (e▸l)⟩,R.bd,fun b l z=>R.od b l z.1,by rw[QZ];exact R.len,fun j x g=> ?_,fun j k xs ys w r p=> ?_⟩,F⟩
     .rcases bO g with⟨rfl,f⟩|⟨SR,g⟩
      .cases f;exact⟨_,t,F⟩
      .obtain⟨u,C,n⟩:=R.slot j x g
       refine⟨u,C,?_⟩;cases x with
       |fz d=>exact DV.ev m n
       |pl i=>exact n
       |ow xs=>obtain⟨b,G,rfl,M,L,J,I⟩:=n;exact⟨b,G,rfl,⟨M,fun z=>SR (R.one j i xs ds (.ref a) g q (by rw[C,z]) t)⟩,L,J,I.ev m⟩
     .rcases bO r with⟨rfl,f⟩|⟨_,r⟩
      .cases f
      .rcases bO p with⟨rfl,f⟩|⟨_,p⟩
       .cases f
       .exact R.one j k xs ys w r p
end
def Zy (K:OK) (B:bF) (H:Hp) (c:OW) (dx:Option Pc) (x:Xc):Prop:=
 (∃a,c= .ref a/\Qv K P7 x.cls=lD (lD (.ref a)))/\∃fs,(∀p,dx=lD p->H p=lD (.xd fs))/\∀f d,x.fs.lookup f=lD d->dx≠Ld/\∃v,fs.lookup f=lD v/\DV B K H v d
def XE (K:OK) (B:bF) (a:Hp) (E:XK) (x:Xc):Prop:=∀c dx H',Rg a H'->Zy K B H' c dx x->E c dx H'
def WR (K:OK) (E:XK) (B:bF) (b:Hp) (P:α->Prop):Res α->Prop
 | .ok a=>P a
 | .er x=>XE K B b E x
 | .bad=>False
section
variable {K:OK} {E:XK} {B:bF} {Z:Hp}
theorem WR.bind (h:WR K E B Z P (r.bind k)):WR K E B Z (fun a=>WR K E B Z P (k a)) r:=by cases r<;>exact h
theorem WR.Qi (h:WR K E B Z P ((Res.Qi o).bind k)):∃a,o=lD a/\WR K E B Z P (k a):=by
 cases o with
 |none=>exact h.elim
 |some a=>exact⟨a,rfl,h⟩
theorem WR.imp (h:WR K E B Z P r) (g:∀a,P a->P' a):WR K E B Z P' r:=by
 cases r with
 |ok a=>exact g a h
 |er x=>exact h
 |bad=>exact h
end
abbrev FE:=aO->Res (PV×aO)
abbrev FT:=aO->Res (Bool×aO)
abbrev FA:=aO->Res (List PV×aO)
def EO (K:OK) (E:XK) (t:TE) (f:FE):Prop:=
 ∀(B:bF) (b:Hp) (O:bF) (a:St) (H:Hp) (ρ:aO) (Q:VK),Rl K B b O a H ρ->WR K E B b (fun r=>∀O' v H',Ev O H O' H'->Rl K B b O' a H' r.2->Uv K b O' a H' r.2 v r.1->Q v H') (f ρ)->t a H Q
def WL (K:OK) (E:XK) (t:TT) (f:FT):Prop:=
 ∀(B:bF) (b:Hp) (O:bF) (a:St) (H:Hp) (ρ:aO) (Q:Bool->Hp->Prop),Rl K B b O a H ρ->WR K E B b (fun r=>∀O' H',Ev O H O' H'->Rl K B b O' a H' r.2->Q r.1 H') (f ρ)->t a H Q
def AO (K:OK) (E:XK) (t:TA) (f:FA):Prop:=
 ∀(B:bF) (b:Hp) (O:bF) (a:St) (H:Hp) (ρ:aO) (Q:List V->Hp->Prop),Rl K B b O a H ρ->WR K E B b (fun r=>∀O' vs H',Ev O H O' H'->Rl K B b O' a H' r.2->Paired (fun v pv=>Uv K b O' a H' r.2 v pv/\j8 pv) vs r.1->Q vs H') (f ρ)->t a H Q
inductive RV where
 |fz (d:D)
 |ow (ds:List D)
def RV.pv:RV->PV
 | .fz d=> .fz d
 | .ow ds=> .ow ds
def Fin (O:bF) (K:OK) (H:Hp) (Q:VK):RV->Prop
 | .fz d=>∀v H',Rg H H'->DV O K H' v d->Q v H'
 | .ow ds=>∀p vs H',Rg H H'->H p=Ld->H' p=lD (.lst vs)->QV (bx O p) K H' vs ds->Q (.ref p) H'
def lL (O:bF) (H:Hp):Prop:=∀a,H a=Ld->¬O a
section
variable {K:OK} {E:XK} {B O X:bF} {Y H H':Hp} {Z:St} {ρ ρ':aO} {v:V}
theorem jO (R:Rl K B Y O Z H ρ) (h:∀X v H',Ev O H X H'->Rl K B Y X Z H' ρ->Uv K Y X Z H' ρ v rv.pv->Q v H'):Fin O K H Q rv:=by
 cases rv with
 |fz d=>exact fun v H' s c=>h O v H' (Ev.grow s) (R.grow s) c
 |ow ds=>intro p vs H' s b e c;refine h (bx O p) (.ref p) H' (Ev.add s b) (R.add s b (by rw[e];simp)) ⟨p,vs,rfl,.inr rfl,R.Z7 b,e,c,fun i o hi z=> ?_⟩;obtain⟨u,h1,a,j,g,n,m,f,l⟩:=R.slot i _ hi;rw[z] at h1;cases h1;cases g;rw[b] at f;cases f
theorem Fin.new (b:QV O K H vs ds) (h:Fin O K H Q (.ow ds)):∀p,H p=Ld->Q (.ref p) (upd H p (.lst vs)):=fun p a=>
 h p vs _ (bU a _) a aD (b.ev (Ev.add (bU a _) a))
theorem Fin.Xe (b:QV O K H vs ds) (c:lL O H) (h:Fin O K H Q (.fz (.tuple ds))):∀p,H p=Ld->Q (.ref p) (upd H p (.tup vs)):=fun p a=>
 h (.ref p) _ (bU a _) (.tup ⟨TX.of aD,fun z=>absurd z (c p a)⟩ (b.ev (Ev.grow (bU a _))))
theorem Fin.at (h:Fin O K H Q (.fz d)) (a:DV O K H v d):Q v H:=h v H (Rg.refl H) a
def AW (ρ:aO) (i:Nat):Option (Option PV)->Res (PV×aO)
 |some (lD (.fz d))=> .ok (.fz d,ρ)
 |some (lD (.ow _))=> .ok (.pl i,ρ)
 |_=> .bad
def aa (i:Nat):FE:=fun ρ=>AW ρ i ρ[i]?
theorem ay:EO K E (qU i) (aa i):=by
 intro B Y O Z H ρ Q R w;unfold aa at w;cases q:ρ[i]? with
 |none=>rw[q] at w;exact w.elim
 |some o=>
  cases o with
  |none=>rw[q] at w;exact w.elim
  |some x=>
   rw[q] at w;obtain⟨v,h1,a⟩:=R.slot i x q;cases x with
   |fz d=>exact⟨v,h1,w O v H .refl R a⟩
   |ow ds=>exact⟨v,h1,w O v H .refl R h1⟩
   |pl j=>exact w.elim
def pC (d:D):FE:=fun ρ=> .ok (.fz d,ρ)
theorem DG (h:∀O H,DV O K H v d):EO K E (tC v) (pC d):=fun B Y O Z H ρ Q R w=>w O v H .refl R (h O H)
theorem aQ:EO K E (tC (.int i)) (pC (.int i)):=DG fun _ _=> .int i
theorem vC:EO K E (tC (.bl b)) (pC (.bool b)):=DG fun _ _=> .bl b
theorem yX:EO K E (tC (.str x)) (pC (.str x)):=DG fun _ _=> .str x
theorem o9:EO K E (tC .S4) (pC .none):=DG fun _ _=> .S4
def kG (K:OK) (r:R2) (f:D->D->Option RV):Prop:=∀(O:bF) (H:Hp) (x y:V) (dx a:D) (rv:RV) (Q:VK),lL O H->DX O K H x dx->DX O K H y a->f dx a=lD rv->Fin O K H Q rv->r x y H Q
def aH (f:D->D->Option RV) (fa fb:FE):FE:=fun ρ=>(fa ρ).bind fun a=>(fb a.2).bind fun b=>(Res.Qi (sj b.2 (jb a.1))).bind fun dx=>(Res.Qi (sj b.2 b.1)).bind fun c=>(Res.Qi (f dx c)).bind fun rv=> .ok (rv.pv,b.2)
theorem bR (q:kG K r f) (ha:EO K E ta fa) (hb:EO K E tb fb):EO K E (Il r ta tb) (aH f fa fb):=by intro B Y O Z H ρ Q R w;refine ha B Y O Z H ρ _ R (w.bind.imp fun a h P x N z F p=> ?_);obtain⟨J,u,R2,o⟩:=mh F p;refine hb B Y J Z N a.2 _ R2 (h.bind.imp fun b c I y M g d n=> ?_);have e:=o.keep (oh a.1) g (ρ':=b.2);obtain⟨dx,j,c⟩:=c.Qi;obtain⟨A,i,c⟩:=c.Qi;obtain⟨rv,l,c⟩:=c.Qi;refine q I M x y dx A rv Q d.od (kF d e j) (kF d n i) l (jO d fun G v L t C m=> ?_);exact c G v L (z.trans (u.trans (g.trans t))) C m
def Oi (K:OK) (r:V->Hp->VK->Prop) (f:D->Option RV):Prop:=∀(O:bF) (H:Hp) (x:V) (dx:D) (rv:RV) (Q:VK),lL O H->DX O K H x dx->f dx=lD rv->Fin O K H Q rv->r x H Q
def IY (f:D->Option RV) (fa:FE):FE:=fun ρ=>(fa ρ).bind fun a=>(Res.Qi (sj a.2 a.1)).bind fun dx=>(Res.Qi (f dx)).bind fun rv=> .ok (rv.pv,a.2)
theorem IU (i:Oi K r f) (ha:EO K E ta fa):EO K E (NM r ta) (IY f fa):=by intro B Y O Z H ρ Q R w;refine ha B Y O Z H ρ _ R (w.bind.imp fun a b o x q l c h=> ?_);obtain⟨dx,d,b⟩:=b.Qi;obtain⟨rv,e,b⟩:=b.Qi;exact i o q x dx rv Q c.od (kF c h d) e (jO c fun n v p j m g=>b n v p (l.trans j) m g)
def NV:D->Option Bool
 | .bool b=>lD b
 |_=>Ld
theorem Jw (h:DX O K H x d) (e:NV d=lD b):x= .bl b:=by cases d<;>cases e;cases h;rfl
def a9 (fa:FE):aO->Res (Bool×aO):=fun ρ=>(fa ρ).bind fun a=>(Res.Qi (sj a.2 a.1)).bind fun d=>(Res.Qi (NV d)).bind fun b=> .ok (b,a.2)
theorem eg (ha:EO K E ta fa):WL K E (DJ ta) (a9 fa):=by intro B Y O Z H ρ Q R w;refine ha B Y O Z H ρ _ R (w.bind.imp fun a c j x l i e h=> ?_);obtain⟨d,f,c⟩:=c.Qi;obtain⟨b,g,c⟩:=c.Qi;exact⟨b,Jw (kF e h f) g,c j l i e⟩
theorem Ix (ha:EO K E ta fa):WL K E (tB ta) (a9 fa):=eg ha
def wT (fa fb:FT):FT:=fun ρ=>(fa ρ).bind fun a=>if a.1=Pb then fb a.2 else .ok (Ph,a.2)
def Cg (fa fb:FT):FT:=fun ρ=>(fa ρ).bind fun a=>if a.1=Pb then .ok (Pb,a.2) else fb a.2
def tH (fa:FT):FT:=fun ρ=>(fa ρ).bind fun a=> .ok (!a.1,a.2)
theorem WL.next (h:WL K E t f) (R:Rl K B Y O1 Z H1 ρ) (a:Ev O H O1 H1) (w:WR K E B Y (fun r=>∀X H',Ev O H X H'->Rl K B Y X Z H' r.2->Q r.1 H') (f ρ)):t Z H1 Q:=
 h B Y O1 Z H1 ρ Q R (w.imp fun r q X H' b c=>q X H' (a.trans b) c)
theorem EO.next (h:EO K E t f) (R:Rl K B Y O1 Z H1 ρ) (b:Ev O H O1 H1) (w:WR K E B Y (fun r=>∀X v H',Ev O H X H'->Rl K B Y X Z H' r.2->Uv K Y X Z H' r.2 v r.1->Q v H') (f ρ)):t Z H1 Q:=
 h B Y O1 Z H1 ρ Q R (w.imp fun r q X v H' c d a=>q X v H' (b.trans c) d a)
theorem zW (h1:WL K E t f) (i:WL K E u g):WL K E (JW t u) (wT f g):=by
 intro B Y O Z H ρ Q R w;refine h1 B Y O Z H ρ _ R (w.bind.imp fun a c j l d e=> ?_);obtain⟨b,h⟩:=a;cases b with
 |true=>exact i.next e d c
 |false=>exact c j l d e
theorem J0 (h1:WL K E t f) (i:WL K E u g):WL K E (NP t u) (Cg f g):=by
 intro B Y O Z H ρ Q R w;refine h1 B Y O Z H ρ _ R (w.bind.imp fun a c j l d e=> ?_);obtain⟨b,h⟩:=a;cases b with
 |true=>exact c j l d e
 |false=>exact i.next e d c
theorem HK (h1:WL K E t f):WL K E (KM t) (tH f):=by intro B Y O Z H ρ Q R w;exact h1 B Y O Z H ρ _ R (w.bind.imp fun a b e g c d=>b e g c d)
def e8:FT:=fun ρ=> .ok (Pb,ρ)
theorem iC:WL K E zZ e8:=fun B Y O Z H ρ Q R w=>w O H .refl R
def yI (fa fb:FE):FE:=fun ρ=>(a9 fa ρ).bind fun a=>if a.1=Pb then fb a.2 else .ok (.fz (.bool Ph),a.2)
theorem Cs (ha:EO K E ta fa) (hb:EO K E tb fb):EO K E (HX ta tb) (yI fa fb):=by
 intro B Y O Z H ρ Q R w;refine eg ha B Y O Z H ρ (fun c d=>if c=Pb then tb Z d Q else Q (.bl Ph) d) R (w.bind.imp fun a e i d f g=> ?_);obtain⟨b,h⟩:=a;cases b with
 |true=>exact hb.next g f e
 |false=>exact e i _ d f g (.bl Ph)
def au:FA:=fun ρ=> .ok ([],ρ)
def af (fa:FE) (c:FA):FA:=fun ρ=>(fa ρ).bind fun a=>(c a.2).bind fun b=> .ok (jb a.1::b.1,b.2)
theorem bB:AO K E qw au:=fun B Y O Z H ρ Q R w=>w O [] H .refl R .nil
theorem bj (ha:EO K E ta fa) (i:AO K E tr fr):AO K E (gQ ta tr) (af fa fr):=by intro B Y O Z H ρ Q R w;refine ha B Y O Z H ρ _ R (w.bind.imp fun a e t x r l n h=> ?_);obtain⟨p,j,R2,g⟩:=mh n h;refine i B Y p Z r a.2 _ R2 (e.bind.imp fun b d o ys q c m f=> ?_);exact d o (x::ys) q (l.trans (j.trans c)) m (.cons ⟨g.keep (oh a.1) c,oh a.1⟩ f)
def tP (ρ:aO):List PV->Option (List D)
 |[]=>lD []
 |p::r=>match sj ρ p with
  |some d=>(match tP ρ r with
   |some ds=>lD (d::ds)
   |none=>Ld)
  |none=>Ld
theorem yC (R:Rl K B Y O Z H ρ):∀{vs:List V} {ps:List PV} {ds:List D},Paired (fun v pv=>Uv K Y O Z H ρ v pv/\j8 pv) vs ps->tP ρ ps=lD ds->Paired (DX O K H) vs ds
 |_,_,_,.nil,e=>by cases e;exact .nil
 |_,_,_,.cons (l₂:=ps) (b:=p) h t,e=>by
  unfold tP at e;cases q:sj ρ p with
  |none=>rw[q] at e;cases e
  |some d=>
   rw[q] at e;dsimp only at e;cases q2:tP ρ ps with
   |none=>rw[q2] at e;cases e
   |some a=>rw[q2] at e;cases e;exact .cons (kF R h.1 q) (yC R t q2)
def o0 (ρ:aO):List PV->Option (List D×aO)
 |[]=>lD ([],ρ)
 |p::r=>match vL ρ p with
  |some (d,ρ1)=>(match o0 ρ1 r with
   |some (ds,ρ2)=>lD (d::ds,ρ2)
   |none=>Ld)
  |none=>Ld
theorem uh:∀{vs:List V} {ps:List PV} {ds:List D} {O:bF} {ρ ρ':aO},Rl K B Y O Z H ρ->Paired (fun v pv=>Uv K Y O Z H ρ v pv/\j8 pv) vs ps->o0 ρ ps=lD (ds,ρ')->∃X,Ev O H X H/\Rl K B Y X Z H ρ'/\QV X K H vs ds
 |_,_,_,O,_,_,R,.nil,e=>by cases e;exact⟨O,.refl,R,.nil⟩
 |_,_,_,O,ρ,ρ',R,.cons (l₁:=vs) (l₂:=ps) (b:=p) h t,e=>by
  unfold o0 at e;cases q:vL ρ p with
  |none=>rw[q] at e;cases e
  |some r=>
   obtain⟨d,a⟩:=r;rw[q] at e;dsimp only at e;cases q2:o0 a ps with
   |none=>rw[q2] at e;cases e
   |some l=>obtain⟨z,i⟩:=l;rw[q2] at e;cases e;obtain⟨w,g,o,n⟩:=r8 R h.1 q;have j:Paired (fun v pv=>Uv K Y w Z H a v pv/\j8 pv) vs ps:=Paired.TR t fun v pv ⟨h1,c⟩=>⟨h1.keep c g,c⟩;obtain⟨u,f,R2,m⟩:=uh o j q2;exact⟨u,g.trans f,R2,.cons (n.ev f) m⟩
abbrev FN:=List D->Res RV
def l4 (K:OK) (n:Nat) (F:FN):Sp:=fun vs H Q E=>vs.length=n/\∃(B:bF) (ds:List D),(∀a,B a->H a≠Ld)/\QV B K H vs ds/\WR K E B H (Fin B K H Q) (F ds)
def bV (fa:FA):FE:=fun ρ=>(fa ρ).bind fun a=>(Res.Qi (o0 a.2 a.1)).bind fun b=>if b.1.length<=1000 then .ok (.fz (.tuple b.1),b.2) else .bad
def eX (fa:FA):FE:=fun ρ=>(fa ρ).bind fun a=>(Res.Qi (o0 a.2 a.1)).bind fun b=>if b.1.length<=1000 then .ok (.ow b.1,b.2) else .bad
theorem xt (h:n<=1000):n<=Po:=Pp h (by decide)
theorem gu (ha:AO K E ta fa):EO K E (Gx ta) (bV fa):=by
 intro B Y O Z H ρ Q R w;refine ha B Y O Z H ρ _ R (w.bind.imp fun a e r vs t j m g=> ?_);obtain⟨⟨ds,d⟩,q,b⟩:=e.Qi;obtain⟨p,i,R2,c⟩:=uh m g q;dsimp only at b;by_cases hn:ds.length<=1000
 .rw[if_pos hn] at b;refine⟨by rw[c.length];exact xt hn,Fin.Xe c R2.od (jO R2 fun n v o h l f=>b n v o (j.trans (i.trans h)) l f)⟩
 .rw[if_neg hn] at b;exact b.elim
theorem ja (ha:AO K E ta fa):EO K E (Mu ta) (eX fa):=by
 intro B Y O Z H ρ Q R w;refine ha B Y O Z H ρ _ R (w.bind.imp fun a e r vs t j m g=> ?_);obtain⟨⟨ds,d⟩,q,b⟩:=e.Qi;obtain⟨p,i,R2,c⟩:=uh m g q;dsimp only at b;by_cases hn:ds.length<=1000
 .rw[if_pos hn] at b;refine⟨by rw[c.length];exact xt hn,Fin.new c (jO R2 fun n v o h l f=>b n v o (j.trans (i.trans h)) l f)⟩
 .rw[if_neg hn] at b;exact b.elim
def Jd (K:OK) (r:List V->Hp->VK->Prop) (f:List D->Option RV):Prop:=∀(O:bF) (H:Hp) (xs:List V) (ds:List D) (rv:RV) (Q:VK),lL O H->Paired (DX O K H) xs ds->f ds=lD rv->Fin O K H Q rv->r xs H Q
def jn (f:List D->Option RV) (fa:FA):FE:=fun ρ=>(fa ρ).bind fun a=>(Res.Qi (tP a.2 a.1)).bind fun ds=>(Res.Qi (f ds)).bind fun rv=> .ok (rv.pv,a.2)
theorem rD (i:Jd K r f) (ha:AO K E ta fa):EO K E (G8 r ta) (jn f fa):=by intro B Y O Z H ρ Q R w;refine ha B Y O Z H ρ _ R (w.bind.imp fun a d o vs t l c h=> ?_);obtain⟨ds,q,b⟩:=d.Qi;obtain⟨rv,e,b⟩:=b.Qi;exact i o t vs ds rv Q c.od (yC c h q) e (jO c fun n v p j m g=>b n v p (l.trans j) m g)
def NO:D->Option Int
 | .int i=>lD i
 |_=>Ld
theorem Kt (h:DX O K H x d) (e:NO d=lD i):x= .int i:=by cases d<;>cases e;cases h;rfl
abbrev FO:=aO->Res (Option Int×aO)
def Nh (K:OK) (E:XK) (t:TO) (f:FO):Prop:=
 ∀(B:bF) (Y:Hp) (O:bF) (Z:St) (H:Hp) (ρ:aO) (Q:Option Int->Hp->Prop),Rl K B Y O Z H ρ->WR K E B Y (fun r=>∀X H',Ev O H X H'->Rl K B Y X Z H' r.2->Q r.1 H') (f ρ)->t Z H Q
def jV:FO:=fun ρ=> .ok (Ld,ρ)
def dW (fa:FE):FO:=fun ρ=>(fa ρ).bind fun a=>(Res.Qi (sj a.2 a.1)).bind fun d=>(Res.Qi (NO d)).bind fun i=> .ok (lD i,a.2)
theorem lF:Nh K E zJ jV:=fun B Y O Z H ρ Q R w=>w O H .refl R
theorem iu (ha:EO K E ta fa):Nh K E (Dy ta) (dW fa):=by intro B Y O Z H ρ Q R w;refine ha B Y O Z H ρ _ R (w.bind.imp fun a e j x l h c g=> ?_);obtain⟨d,q,b⟩:=e.Qi;obtain⟨i,f,b⟩:=b.Qi;exact⟨i,Kt (kF c g q) f,b j l h c⟩
def NU (K:OK) (r:V->Option Int->Option Int->Hp->VK->Prop) (f:D->Option Int->Option Int->Option RV):Prop:=∀(O:bF) (H:Hp) (x:V) (lo hi:Option Int) (dx:D) (rv:RV) (Q:VK),lL O H->DX O K H x dx->f dx lo hi=lD rv->Fin O K H Q rv->r x lo hi H Q
def xj (f:D->Option Int->Option Int->Option RV) (fa:FE) (b c:FO):FE:=fun ρ=>(fa ρ).bind fun a=>(b a.2).bind fun l=>(c l.2).bind fun h=>(Res.Qi (sj h.2 (jb a.1))).bind fun dx=>(Res.Qi (f dx l.1 h.1)).bind fun rv=> .ok (rv.pv,h.2)
theorem xi (q:NU K r f) (ha:EO K E ta fa) (t:Nh K E tl fl) (u:Nh K E th fh):EO K E (Oq r ta tl th) (xj f fa fl fh):=by intro B Y O Z H ρ Q R w;refine ha B Y O Z H ρ _ R (w.bind.imp fun a i O1 x U C I p=> ?_);obtain⟨N,A,R2,o⟩:=mh I p;refine t B Y N Z U a.2 _ R2 (i.bind.imp fun l g M T e G=> ?_);refine u B Y M Z T l.2 _ G (g.bind.imp fun h b L S d c=> ?_);obtain⟨dx,j,b⟩:=b.Qi;obtain⟨rv,m,b⟩:=b.Qi;exact q L S x l.1 h.1 dx rv Q c.od (kF c (o.keep (oh a.1) (e.trans d)) j) m (jO c fun J v P z F n=>b J v P (C.trans (A.trans (e.trans (d.trans z)))) F n)
end
theorem uZ {l:List α} (h:(l.set i x)[i]? =lD y):i<l.length:=by
 rw[QI] at h;rw[if_pos rfl] at h;split at h
 .assumption
 .cases h
section
variable {K:OK} {E:XK} {B O U:bF} {Z H H':Hp} {Y:St} {ρ ρ':aO} {v:V}
theorem Rl.mut {i:Nat} {ds r:List D} {a:Pc} {c:List V} (R:Rl K B Z O Y H ρ) (hi:ρ[i]? =lD (lD (.ow ds))) (A:Y[i]? =lD (lD (.ref a))) (C:O a) (h0:Z a=Ld) (P:QV O K H c r):
  Rl K B Z O Y (upd H a (.lst c)) (ρ.set i (lD (.ow r))):=by
 have ev:Ev O H O (upd H a (.lst c)):=Ev.mut C _;refine⟨fun b o e=>by rw[aA (cF e h0)];exact R.same b o e,R.bo,R.bd,fun b g=> ?_,by rw[QZ];exact R.len,fun j x f=> ?_,fun j k xs ys w N M X T=> ?_⟩
 .by_cases e:b=a
  .rw[e,aD] at g;cases g
  .rw[aA e] at g;exact R.od b g
 .rcases bO f with⟨rfl,Q⟩|⟨SR,f⟩
  .cases Q;exact⟨_,A,a,c,rfl,C,h0,aD,P.ev ev⟩
  .obtain⟨u,t,n⟩:=R.slot j x f
   refine⟨u,t,?_⟩;cases x with
   |fz d=>exact DV.ev ev n
   |pl i=>exact n
   |ow xs=>obtain⟨b,F,rfl,L,J,I,G⟩:=n;have q:b≠a:=fun z=>SR (R.one j i xs ds (.ref a) f hi (by rw[t,z]) A);exact⟨b,F,rfl,L,J,by rw[aA q];exact I,G.ev ev⟩
 .have own:∀{j:Nat} {xs:List D},(ρ.set i (lD (.ow r)))[j]? =lD (lD (.ow xs))->∃ys,ρ[j]? =lD (lD (.ow ys)):=fun{j xs} h=>by
   rcases bO h with⟨rfl,_⟩|⟨_,h⟩
   .exact⟨_,hi⟩
   .exact⟨_,h⟩
  obtain⟨m,p⟩:=own N;obtain⟨l,S⟩:=own M;exact R.one j k m l w p S X T
theorem rR (h:n<1000000):n<Po:=PD h (by decide)
def EY:Option (Option PV)->Option (List D)
 |some (lD (.ow ds))=>lD ds
 |_=>Ld
theorem AK (h:EY o=lD ds):o=lD (lD (.ow ds)):=by
 unfold EY at h;split at h
 .cases h;rfl
 .cases h
def iE (i:Nat) (fe:FE):FE:=fun ρ=>(Res.Qi (EY ρ[i]?)).bind fun _=>(fe ρ).bind fun a=>(Res.Qi (vL a.2 a.1)).bind fun b=>(Res.Qi (EY b.2[i]?)).bind fun ds=>
 if ds.length<1000000 then .ok (.fz .none,b.2.set i (lD (.ow (ds++[b.1])))) else .bad
theorem EN (u:EO K E te fe):EO K E (NX K "list" tW (qU i) (gQ te qw)) (iE i fe):=by
 intro B Z O Y H ρ Q R w;obtain⟨I,p,w⟩:=w.Qi;obtain⟨v,h,a,vs,rfl,S,P,z,N⟩:=R.slot i _ (AK p);refine⟨_,h,.inl ⟨rfl,_,Um.of z⟩,?_⟩;refine u B Z O Y H ρ _ R (w.bind.imp fun b c X y H1 C J q=> ?_);obtain⟨⟨d,n⟩,o,c⟩:=c.Qi;obtain⟨L,A,R2,G⟩:=r8 J q o;obtain⟨ds,e,c⟩:=c.Qi;have e:=AK e;obtain⟨M,m,T,f,F,l,t,r,j⟩:=R2.slot i _ e;subst F;rw[h] at m;cases m;dsimp only at c;by_cases g:ds.length<1000000
 .rw[if_pos g] at c;refine⟨a,f,y,rfl,rfl,r,rR (by rw[j.length];exact g),?_⟩;exact c L .S4 _ (C.trans (A.trans (Ev.mut l _))) (R2.mut e h l t (j.append (.cons G .nil))) .S4
 .rw[if_neg g] at c;exact c.elim
abbrev FG:=PV->aO->Res aO
abbrev LX:=List D->aO->Res aO
def GO (K:OK) (E:XK) (g:TG) (f:FG):Prop:=
 ∀(B:bF) (Z:Hp) (O:bF) (Y:St) (H:Hp) (ρ:aO) (v:V) (pv:PV) (Q:St->Hp->Prop),Rl K B Z O Y H ρ->Uv K Z O Y H ρ v pv->WR K E B Z (fun ρ'=>∀U σ' H',Ev O H U H'->Rl K B Z U σ' H' ρ'->Q σ' H') (f pv ρ)->g v Y H Q
def Nv (K:OK) (E:XK) (g:KZ) (f:LX):Prop:=
 ∀(B:bF) (Z:Hp) (O:bF) (Y:St) (H:Hp) (ρ:aO) (vs:List V) (ds:List D) (Q:St->Hp->Prop),Rl K B Z O Y H ρ->QV O K H vs ds->WR K E B Z (fun ρ'=>∀U σ' H',Ev O H U H'->Rl K B Z U σ' H' ρ'->Q σ' H') (f ds ρ)->g vs Y H Q
theorem Rl.acy (R:Rl K B Z O Y H ρ) (h:DV O K H v d):Rl K B Z O (Y.set i (lD v)) H (ρ.set i (lD (.fz d))):=by
 refine⟨R.same,R.bo,R.bd,R.od,by rw[QZ,QZ];exact R.len,fun j x a=> ?_,fun j k xs ys w c b l g=> ?_⟩
 .rcases bO a with⟨rfl,e⟩|⟨q,a⟩
  .cases e;have:=uZ a;exact⟨v,by rw[QI,if_pos rfl,if_pos (by rw[R.len];exact this)],h⟩
  .obtain⟨u,p,o⟩:=R.slot j x a;exact⟨u,by rw[QI,if_neg (fun z=>q z.symm)];exact p,o⟩
 .rcases bO c with⟨rfl,f⟩|⟨n,c⟩
  .cases f
  .rcases bO b with⟨rfl,f⟩|⟨m,b⟩
   .cases f
   .rw[QI,if_neg (fun z=>n z.symm)] at l;rw[QI,if_neg (fun z=>m z.symm)] at g;exact R.one j k xs ys w c b l g
theorem Rl.adB (R:Rl K B Z O Y H ρ) (h:Uv K Z O Y H ρ v (.ow ds)):Rl K B Z O (Y.set i (lD v)) H (ρ.set i (lD (.ow ds))):=by
 obtain⟨a,vs,rfl,h1,C,A,t,m⟩:=h;refine⟨R.same,R.bo,R.bd,R.od,by rw[QZ,QZ];exact R.len,fun j x f=> ?_,fun j k xs ys w r c g d=> ?_⟩
 .rcases bO f with⟨rfl,e⟩|⟨I,f⟩
  .cases e;have:=uZ f;exact⟨.ref a,by rw[QI,if_pos rfl,if_pos (by rw[R.len];exact this)],a,vs,rfl,h1,C,A,t⟩
  .obtain⟨u,p,o⟩:=R.slot j x f;exact⟨u,by rw[QI,if_neg (fun z=>I z.symm)];exact p,o⟩
 .rcases bO r with⟨rfl,G⟩|⟨n,b⟩
  .rcases bO c with⟨rfl,F⟩|⟨l,c⟩
   .rfl
   .rw[QI,if_neg (fun z=>l z.symm)] at d
    rcases bO g with⟨_,e⟩|⟨z,_⟩
    .cases e;exact absurd d (m k ys c)
    .exact absurd rfl z
  .have q:=b
   rw[QI,if_neg (fun z=>n z.symm)] at g;rcases bO c with⟨rfl,G⟩|⟨l,c⟩
   .rcases bO d with⟨_,e⟩|⟨z,_⟩
    .cases e;exact absurd g (m j xs b)
    .exact absurd rfl z
   .rw[QI,if_neg (fun z=>l z.symm)] at d;exact R.one j k xs ys w b c g d
def gN (i:Nat):FG:=fun pv ρ=>match pv with
 | .ow ds=> .ok (ρ.set i (lD (.ow ds)))
 | .fz d=> .ok (ρ.set i (lD (.fz d)))
 | .pl j=>(Res.Qi (vL ρ (.pl j))).bind fun b=> .ok (b.2.set i (lD (.fz b.1)))
theorem bz:GO K E (rL i) (gN i):=by
 intro B Z O Y H ρ v pv Q R p w;cases pv with
 |ow ds=>exact w O _ H .refl (R.adB p)
 |fz d=>exact w O _ H .refl (R.acy p)
 |pl j=>obtain⟨⟨d,a⟩,q,w⟩:=WR.Qi (show WR K E B Z _ ((Res.Qi (vL ρ (.pl j))).bind fun b=> .ok (b.2.set i (lD (.fz b.1)))) from w);obtain⟨f,c,R2,e⟩:=r8 R p q;exact w f _ H c (R2.acy e)
def yf:LX:=fun ds ρ=>match ds with
 |[]=> .ok ρ
 |_=> .bad
def l8 (f:FG) (g:LX):LX:=fun ds ρ=>match ds with
 |[]=> .bad
 |d::r=>(f (.fz d) ρ).bind fun a=>g r a
theorem ug:Nv K E KY yf:=by
 intro B Z O Y H ρ vs ds Q R a w;cases a with
 |nil=>exact⟨rfl,w O Y H .refl R⟩
 |cons _ _=>exact w.elim
theorem iO (h1:GO K E t f) (m:Nv K E u g):Nv K E (CS t u) (l8 f g):=by
 intro B Z O Y H ρ vs ds Q R o w;cases o with
 |nil=>exact w.elim
 |cons l j=>rename_i v vs d ds;refine⟨_,_,rfl,h1 B Z O Y H ρ _ (.fz d) _ R l (WR.imp (WR.bind w) fun c i z b C e p=> ?_)⟩;exact m B Z z b C c _ _ Q p (j.ev e) (i.imp fun h q r a A n R2=>q r a A (e.trans n) R2)
def Oh:D->Option (List D)
 | .tuple ds=>lD ds
 |_=>Ld
theorem Fk (h:DX O K H x d) (e:Oh d=lD ds):∃a xs,x= .ref a/\U1 O K H a xs/\QV O K H xs ds:=by
 cases d<;>cases e;cases h with
 |tup h b=>exact⟨_,_,rfl,h,b⟩
def gT (n:Nat) (f:LX):FG:=fun pv ρ=>(Res.Qi (sj ρ pv)).bind fun d=>(Res.Qi (Oh d)).bind fun ds=>if ds.length=n then f ds ρ else .bad
theorem tK (h:Nv K E t f):GO K E (Lj K n t) (gT n f):=by
 intro B Z O Y H ρ v pv Q R p w;obtain⟨d,e,w⟩:=w.Qi;obtain⟨ds,c,w⟩:=w.Qi;obtain⟨a,xs,rfl,g,b⟩:=Fk (kF R p e) c;by_cases hn:ds.length=n
 .rw[if_pos hn] at w;exact⟨a,xs,rfl,g.1,b.length.trans hn,h B Z O Y H ρ xs ds Q R b w⟩
 .rw[if_neg hn] at w;exact w.elim
inductive Fl where
 |nx (ρ:aO)
 |rt (rv:RV)
 |bk (ρ:aO)
 |ct (ρ:aO)
abbrev FS:=aO->Res Fl
def XZ (K:OK) (B:bF) (Z:Hp) (O:bF) (H:Hp) (D:Ends):Fl->Prop
 | .nx ρ'=>∀U σ' H',Ev O H U H'->Rl K B Z U σ' H' ρ'->D.nx σ' H'
 | .bk ρ'=>∀U σ' H',Ev O H U H'->Rl K B Z U σ' H' ρ'->D.bk σ' H'
 | .ct ρ'=>∀U σ' H',Ev O H U H'->Rl K B Z U σ' H' ρ'->D.ct σ' H'
 | .rt rv=>Fin B K Z D.rt rv
def SO (K:OK) (E:XK) (t:TS) (g:FS):Prop:=
 ∀(B:bF) (Z:Hp) (O:bF) (Y:St) (H:Hp) (ρ:aO) (D:Ends),Rl K B Z O Y H ρ->WR K E B Z (XZ K B Z O H D) (g ρ)->t D Y H
theorem XZ.ev {D:Ends} (e:Ev O H O1 H1) (h:XZ K B Z O H D fl):XZ K B Z O1 H1 D fl:=by
 cases fl with
 |nx ρ'=>exact fun U a H' b c=>h U a H' (e.trans b) c
 |bk ρ'=>exact fun U a H' b c=>h U a H' (e.trans b) c
 |ct ρ'=>exact fun U a H' b c=>h U a H' (e.trans b) c
 |rt rv=>exact h
def cT:FS:=fun ρ=> .ok (.nx ρ)
def aE (f g:FS):FS:=fun ρ=>(f ρ).bind fun a=>match a with
 | .nx ρ1=>g ρ1
 |a=> .ok a
def dE (f:FE):FS:=fun ρ=>(f ρ).bind fun a=> .ok (.nx a.2)
def aZ (f:FE) (g:FG):FS:=fun ρ=>(f ρ).bind fun a=>(g a.1 a.2).bind fun b=> .ok (.nx b)
def lV (c:FT) (f g:FS):FS:=fun ρ=>(c ρ).bind fun a=>if a.1=Pb then f a.2 else g a.2
def B3 (ρ:aO):PV->Option RV
 | .fz d=>lD (.fz d)
 | .ow ds=>lD (.ow ds)
 | .pl i=>match ρ[i]? with
  |some (lD (.fz d))=>lD (.fz d)
  |some (lD (.ow ds))=>lD (.ow ds)
  |_=>Ld
def dc (f:FE):FS:=fun ρ=>(f ρ).bind fun a=>(Res.Qi (B3 a.2 a.1)).bind fun rv=> .ok (.rt rv)
theorem j0:SO K E Fi cT:=fun B Z O Y H ρ D R w=>w O Y H .refl R
theorem aI (h1:SO K E t f) (e:SO K E u g):SO K E (K8 t u) (aE f g):=by
 intro B Z O Y H ρ D R w;refine h1 B Z O Y H ρ {D with nx:=u D} R (WR.imp (WR.bind w) fun d b=> ?_);cases d with
 |nx a=>exact fun j c l h i=>e B Z j c l a D i (WR.imp b fun d q=>q.ev h)
 |rt rv=>exact b
 |bk a=>exact b
 |ct a=>exact b
theorem zn (h:EO K E t f):SO K E (Cy t) (dE f):=by intro B Z O Y H ρ D R w;exact h B Z O Y H ρ _ R (w.bind.imp fun a b e x g c d i=>b e Y g c d)
theorem eC (h:EO K E t f) (j:GO K E g fg):SO K E (Hf t g) (aZ f fg):=by intro B Z O Y H ρ D R w;refine h B Z O Y H ρ _ R (w.bind.imp fun a e p x r m n i=> ?_);exact j B Z p Y r a.2 x a.1 _ n i (e.bind.imp fun c d o b q l R2=>d o b q (m.trans l) R2)
theorem rG (m:WL K E c fc) (h1:SO K E t f) (n:SO K E u g):SO K E (JN c t u) (lV fc f g):=by
 intro B Z O Y H ρ D R w;refine m B Z O Y H ρ _ R (w.bind.imp fun a e j l h i=> ?_);obtain⟨b,d⟩:=a;cases b with
 |true=>exact h1 B Z j Y l d D i (WR.imp e fun o q=>q.ev h)
 |false=>exact n B Z j Y l d D i (WR.imp e fun o q=>q.ev h)
theorem Jt {pv:PV} (R:Rl K B Z O Y H ρ) (p:Uv K Z O Y H ρ v pv) (e:B3 ρ pv=lD rv) (w:Fin B K Z Q rv):Q v H:=by
 have ow:∀{a:Pc} {vs:List V} {ds:List D},O a->Z a=Ld->H a=lD (.lst vs)->QV O K H vs ds->Fin B K Z Q (.ow ds)->Q (.ref a) H:=fun{a vs ds} h1 g f c w=>
  w a vs H R.same g f (c.ev (Ev.sub fun b z=>z.elim (R.bo b) fun e=>by rw[e];exact h1))
 have fz:∀{d:D},DV O K H v d->Fin B K Z Q (.fz d)->Q v H:=fun{d} h w=>w v H R.same (h.ev (Ev.sub R.bo));cases pv with
 |fz d=>cases e;exact fz p w
 |ow ds=>cases e;obtain⟨a,vs,rfl,h1,g,f,c,r⟩:=p;exact ow h1 g f c w
 |pl i=>
  have n:=p;unfold B3 at e;dsimp only at e;cases q:ρ[i]? with
  |none=>rw[q] at e;cases e
  |some o=>
   cases o with
   |none=>rw[q] at e;cases e
   |some x=>
    obtain⟨u,m,l⟩:=R.slot i x q;rw[n] at m;cases m;rw[q] at e;cases x with
    |fz d=>cases e;exact fz l w
    |ow ds=>cases e;obtain⟨a,vs,rfl,h1,g,f,c⟩:=l;exact ow h1 g f c w
    |pl j=>exact l.elim
theorem eB (h:EO K E t f):SO K E (JA t) (dc f):=by intro B Z O Y H ρ D R w;refine h B Z O Y H ρ _ R (w.bind.imp fun a b g x i e d c=> ?_);obtain⟨rv,q,b⟩:=b.Qi;exact Jt d c q b
def B9 (K:OK) (J:It) (O:bF) (H:Hp) (ds:List D):Prop:=∀U H',Ev O H U H'->lL U H'->
 (∀i,i<ds.length->J.go i H'/\∀x YV,J.yld i H' x YV->Rg H' YV/\∃d,ds[i]? =lD d/\DV U K YV x d)/\J.stop ds.length H'
abbrev FI:=aO->Res (List D×aO)
def IO (K:OK) (E:XK) (b:TI) (c:FI):Prop:=
 ∀(B:bF) (Z:Hp) (O:bF) (Y:St) (H:Hp) (ρ:aO) (a:It->Hp->Prop),Rl K B Z O Y H ρ->WR K E B Z (fun r=>∀U J H',Ev O H U H'->Rl K B Z U Y H' r.2->B9 K J U H' r.1->a J H') (c ρ)->b Y H a
def vB (gt:FG) (b:FS):List D->FS
 |[],ρ=> .ok (.nx ρ)
 |d::r,ρ=>(gt (.fz d) ρ).bind fun a=>(b a).bind fun c=>match c with
  | .nx ρ2=>vB gt b r ρ2
  | .ct ρ2=>vB gt b r ρ2
  | .bk ρ2=> .ok (.nx ρ2)
  | .rt rv=> .ok (.rt rv)
def fM (c:FI) (gt:FG) (b:FS):FS:=fun ρ=>(c ρ).bind fun a=>vB gt b a.1 a.2
theorem yT (hi:IO K E wi fi) (hg:GO K E g gt) (hb:SO K E tb b):SO K E (JT wi g tb) (fM fi gt b):=by
 intro B Z O Y H ρ D R w;refine hi B Z O Y H ρ _ R (w.bind.imp fun a M F J T Q S P=> ?_);obtain⟨ds,C⟩:=a;dsimp only at M P S;refine⟨fun i m c H'=>m=ds.length - i/\i<=ds.length/\∃O2 ρ2,Ev F T O2 H'/\Rl K B Z O2 c H' ρ2/\WR K E B Z (XZ K B Z O H D) (vB gt b (ds.drop i) ρ2),⟨_,rfl,Qb _,F,C,.refl,S,M⟩,?_⟩;rintro i m l L ⟨rfl,hi,O2,ρ2,e2,R2,w2⟩;obtain⟨go,n⟩:=P O2 L e2 R2.od;by_cases u:i<ds.length
 .obtain⟨g1,g2⟩:=go i u
  refine .inr ⟨g1,fun c H'=>i+1<=ds.length/\∃O2 ρ2,Ev F T O2 H'/\Rl K B Z O2 c H' ρ2/\WR K E B Z (XZ K B Z O H D) (vB gt b (ds.drop (i+1)) ρ2),fun c H' ⟨h1,h2⟩=>⟨ds.length - (i+1),by omega,rfl,h1,h2⟩,fun x I y=> ?_⟩;obtain⟨N,d,hd,dv⟩:=g2 x I y;have ed:ds.drop i=d::ds.drop (i+1):=by obtain⟨_,q⟩:=O0.mp hd;rw[QA u,q]
  rw[ed] at w2;have e3:Ev O2 L O2 I:=Ev.grow N;refine hg B Z O2 l I ρ2 x (.fz d) _ (R2.grow N) dv (WR.imp (WR.bind w2) fun A X O4 z H4 e4 R4=> ?_);have j:=e2.trans (e3.trans e4);refine hb B Z O4 z H4 A _ R4 (WR.imp (WR.bind X) fun fl t=> ?_);cases fl with
  |nx f=>exact fun r h G o p=>⟨u,r,f,j.trans o,p,t⟩
  |ct f=>exact fun r h G o p=>⟨u,r,f,j.trans o,p,t⟩
  |bk f=>exact fun r h G o p=>t r h G (Q.trans (j.trans o)) p
  |rt rv=>exact t
 .have e:i=ds.length:=by omega
  subst e;rw[Rn (O8 _)] at w2;exact .inl ⟨n,w2 O2 l L (Q.trans e2) R2⟩
def gz:D->Option (List D)
 | .tuple ds=>lD ds
 | .list ds=>lD ds
 |_=>Ld
def zP (K:OK) (c:TE):TI:=fun Y H R=>c Y H fun x b=>∃a,x= .ref a/\(((∃xs,Um K b a xs)/\R (N7 K a) b)\/((∃xs,TX K b a xs)/\R (Oa K a) b))
theorem jI (u:PE X l tl):PI X tg l (zP X.K tl):=by
 intro f s Y H R I h;refine cg (u f s Y H _ I h) fun v d ⟨x,m,c,n,r⟩=> ?_;obtain⟨a,e,q⟩:=r;subst e;cases n;rcases q with⟨⟨xs,g⟩,q⟩|⟨⟨xs,g⟩,q⟩
 .obtain⟨j,rv,p,t⟩:=c.list g
  refine Va p.isList ?_;refine⟨d.heap.objs.size,[d.heap.objs.size],_,_,m,rfl,c.kept fun b o e=>Heap.get?_push_of_some _ e,BX a _,⟨_,Heap.get?_push_size _ rfl,rfl,rfl⟩,fun b i=> ?_,q⟩;have e:b=d.heap.objs.size:=by simpa using i
  subst e;exact c.W8 (O8 _) (c.Ro.fresh (O8 _))
 .obtain⟨j,rv,p,t⟩:=c.tuple g
  refine UU (show d.heap.IsTuple a j.toArray from p) ?_;refine⟨d.heap.objs.size,[d.heap.objs.size],_,_,m,rfl,c.kept fun b o e=>Heap.get?_push_of_some _ e,yy a _,⟨_,Heap.get?_push_size _ rfl,rfl,rfl⟩,fun b i=> ?_,q⟩;have e:b=d.heap.objs.size:=by simpa using i
  subst e;exact c.W8 (O8 _) (c.Ro.fresh (O8 _))
theorem AH (h:Wm O K H a xs) (c:QV O K H xs ds):B9 K (N7 K a) O H ds:=by intro U H' e n;have b:=h.ev e;have f:=c.ev e;refine⟨fun i hi=> ?_,⟨xs,b.1.sq,by rw[c.length];exact O8 _⟩⟩;obtain⟨x,l,_⟩:=f.get (Pq hi);refine⟨⟨xs,x,b.1.sq,l⟩,?_⟩;rintro y m ⟨rfl,hy⟩;obtain⟨d,j,g⟩:=f.ZR (hy xs b.1.sq);exact⟨Rg.refl _,d,j,g⟩
theorem Eb (h:U1 O K H a xs) (c:QV O K H xs ds):B9 K (Oa K a) O H ds:=by intro U H' e n;have b:=h.ev e;have f:=c.ev e;refine⟨fun i hi=> ?_,⟨xs,b.1,by rw[c.length];exact O8 _⟩⟩;obtain⟨x,l,_⟩:=f.get (Pq hi);refine⟨⟨xs,x,b.1,l⟩,?_⟩;rintro y m ⟨rfl,hy⟩;obtain⟨d,j,g⟩:=f.ZR (hy xs b.1);exact⟨Rg.refl _,d,j,g⟩
def iK (fe:FE):FI:=fun ρ=>(fe ρ).bind fun a=>(Res.Qi (vL a.2 a.1)).bind fun b=>(Res.Qi (gz b.1)).bind fun ds=> .ok (ds,b.2)
theorem mU (h:EO K E tl fe):IO K E (zP K tl) (iK fe):=by
 intro B Z O Y H ρ p R w;refine h B Z O Y H ρ _ R (w.bind.imp fun a b r x j g o m=> ?_);obtain⟨⟨d,l⟩,q,b⟩:=b.Qi;obtain⟨i,f,R2,n⟩:=r8 o m q;obtain⟨ds,c,b⟩:=b.Qi;dsimp only at c;cases n with
 |tup h e=>cases c;exact⟨_,rfl,.inr ⟨⟨_,h.1⟩,b i _ j (g.trans f) R2 (Eb h e)⟩⟩
 |lst h e=>cases c;exact⟨_,rfl,.inl ⟨⟨_,h.1.sq⟩,b i _ j (g.trans f) R2 (AH h e)⟩⟩
 |_=>cases c
def fF (lo:Int) (n:Nat):List D:=(P9 n).map fun(k:Nat)=> .int (lo+(k:Int))
theorem DM:B9 K (Nc lo n) O H (fF lo n):=by
 intro U H' e b;have a:(fF lo n).length=n:=by unfold fF;rw[OX,PZ]
 refine⟨fun i hi=> ?_,by show n<=_;rw[a];exact O8 _⟩;rw[a] at hi;refine⟨hi,?_⟩;rintro x c ⟨rfl,rfl⟩;exact⟨Rg.refl _,.int (lo+i),by unfold fF;rw[Pg,List.getElem?_range hi];rfl,.int _⟩
def i7 (i:Int):Prop:= -(2^62)<=i/\i<2^62
noncomputable instance (i:Int):Decidable (i7 i):=by unfold i7;infer_instance
def dZ:List D->Option (List D)
 |[.int j]=>if i7 j then lD (fF 0 j.toNat) else Ld
 |_=>Ld
def g8 (f:List D->Option (List D)) (fa:FA):FI:=fun ρ=>(fa ρ).bind fun a=>(Res.Qi (tP a.2 a.1)).bind fun ds=>(Res.Qi (f ds)).bind fun xs=> .ok (xs,a.2)
theorem lO (h:AO K E ta fa):IO K E (IH ta) (g8 dZ fa):=by
 intro B Z O Y H ρ n R w;refine h B Z O Y H ρ _ R (w.bind.imp fun a c l vs m i e f=> ?_);obtain⟨ds,q,c⟩:=c.Qi;obtain⟨xs,b,c⟩:=c.Qi;have px:=yC e f q;unfold dZ at b;split at b
 .rename_i j
  split at b
  .rename_i d
   cases b;cases px with
   |cons h1 g=>cases g;cases h1;exact⟨j,rfl,d.1,d.2,c l _ m i e DM⟩
  .cases b
 .cases b
end
section
variable {K:OK} {E:XK} {B O Y:bF} {X H H':Hp} {Z:St} {ρ ρ':aO} {v:V}
def EW:Option PV->Option PV
 |some (.fz d)=>lD (.fz d)
 |_=>Ld
def da (ρ:aO):aO:=ρ.map EW
theorem xX {i:Nat} (h:(da ρ)[i]? =lD (lD x)):∃d,x= .fz d/\ρ[i]? =lD (lD (.fz d)):=by
 unfold da at h;rw[Pg] at h;cases q:ρ[i]? with
 |none=>rw[q] at h;cases h
 |some o=>
  rw[q] at h;have a:=PK h;unfold EW at a;split at a
  .cases a;exact⟨_,rfl,rfl⟩
  .cases a
def se (ρ:aO):List Nat->Option (List D×aO)
 |[]=>lD ([],ρ)
 |j::r=>match vL ρ (.pl j) with
  |some (d,ρ1)=>(match se ρ1 r with
   |some (c,ρ2)=>lD (d::c,ρ2)
   |none=>Ld)
  |none=>Ld
theorem BW (R:Rl K B X O Z H ρ) (h:vL ρ (.pl i)=lD (d,ρ')):∃v,Z[i]? =lD (lD v):=by
 have a:toS ρ i ρ[i]? =lD (d,ρ'):=h;cases q:ρ[i]? with
 |none=>rw[q] at a;cases a
 |some o=>
  cases o with
  |none=>rw[q] at a;cases a
  |some x=>obtain⟨v,b,_⟩:=R.slot i x q;exact⟨v,b⟩
theorem wF:∀{f:List Nat} {ds:List D} {O:bF} {ρ ρ':aO},Rl K B X O Z H ρ->se ρ f=lD (ds,ρ')->∃Y vs,Ev O H Y H/\Rl K B X Y Z H ρ'/\QV Y K H vs ds/\f.map (fun j=>(Z[j]?).join)=vs.map lD
 |[],_,O,_,_,R,e=>by cases e;exact⟨O,[],.refl,R,.nil,rfl⟩
 |j::r,_,O,ρ,ρ',R,e=>by
  unfold se at e;cases q:vL ρ (.pl j) with
  |none=>rw[q] at e;cases e
  |some p=>
   obtain⟨d,a⟩:=p;rw[q] at e;dsimp only at e;cases q2:se a r with
   |none=>rw[q2] at e;cases e
   |some i=>obtain⟨c,h⟩:=i;rw[q2] at e;cases e;obtain⟨v,b⟩:=BW R q;obtain⟨w,m,t,o⟩:=r8 (pv:= .pl j) R b q;obtain⟨u,vs,g,R2,n,l⟩:=wF t q2;exact⟨u,v::vs,m.trans g,R2,.cons (o.ev g) n,by rw[Pd,Pd,l,b];rfl⟩
def dX (gt:FG) (ft:FT) (fe:FE):List D->aO->List D->Res (List D)
 |[],_,acc=> .ok acc
 |d::r,ρ,acc=>(gt (.fz d) ρ).bind fun c=>(ft c).bind fun b=>if b.1=Pb then(fe b.2).bind fun a=>(Res.Qi (vL a.2 a.1)).bind fun x=>
   if acc.length<1000000 then dX gt ft fe r (da x.2) (acc++[x.1]) else .bad
  else dX gt ft fe r (da b.2) acc
def mF:Res α->Res α
 | .er _=> .bad
 |r=>r
def jp (n:Nat) (b:List Nat) (e:FI) (gt:FG) (ft:FT) (fe:FE):FE:=fun ρ=>(e ρ).bind fun a=>(Res.Qi (se a.2 b)).bind fun c=>
 (mF (dX gt ft fe a.1 (Pe n Ld++c.1.map fun d=>lD (.fz d)) [])).bind fun xs=> .ok (.ow xs,c.2)
theorem Ap {own:List Str} (h:own.length=n):own.map (fun _=>(Ld:Option V))=Pe n Ld:=by
 subst h
 induction own with
 |nil=>rfl
 |cons x r a=>rw[Pd,a,Pf,Qp]
theorem zh (h:WR K E B X P (mF r)):∃a,r= .ok a/\P a:=by
 cases r with
 |ok a=>exact⟨a,rfl,h⟩
 |er x=>exact h.elim
 |bad=>exact h.elim
def M7 (K:OK) (J:It) (O:bF) (H:Hp) (ds:List D):Prop:=∀Y H',Ev O H Y H'->Rg H H'->lL Y H'->
 (∀i,i<ds.length->J.go i H'/\∀x YV,J.yld i H' x YV->Rg H' YV/\∃d,ds[i]? =lD d/\DV Y K YV x d)/\J.stop ds.length H'
def N3 (K:OK) (E:XK) (b:TI) (c:FI):Prop:=
 ∀(B:bF) (X:Hp) (O:bF) (Z:St) (H:Hp) (ρ:aO) (a:It->Hp->Prop),Rl K B X O Z H ρ->WR K E B X (fun r=>∀Y J H',Ev O H Y H'->Rl K B X Y Z H' r.2->M7 K J Y H' r.1->a J H') (c ρ)->b Z H a
theorem IO.s (h:IO K E wi fi):N3 K E wi fi:=fun B X O Z H ρ c R w=>h B X O Z H ρ c R (w.imp fun r q Y J H' e R a=>q Y J H' e R fun d f b _ n=>a d f b n)
theorem wu (hn:own.length=n) (hf:fv.map (·.2)=fj)
  (hi:N3 K E wi fi) (hg:GO K E0 g gt) (ht:WL K E0 tc ft) (he:EO K E0 te fe):EO K E (vZ own fv wi g tc te) (jp n fj fi gt ft fe):=by
 intro B X O Z H ρ Q R w;refine hi B X O Z H ρ _ R (w.bind.imp fun a w1 O1 J H1 e1 R1 it=> ?_);obtain⟨ds,ρ1⟩:=a;obtain⟨⟨cs,ρ2⟩,qc,w1⟩:=w1.Qi;dsimp only at qc it;obtain⟨C,vs,e2,R2,YS,hvs⟩:=wF R1 qc;obtain⟨xs,qx,w1⟩:=zh (WR.bind w1);intro f S;have hB:∀{H':Hp},Rg H1 H'->H' f≠Ld->∀a,bx C f a->H' a≠Ld:=fun{H'} s nd a h z=>h.elim (fun q=>R2.od a (s.free z) q) fun e=>nd (by rw[<-e];exact z);refine⟨fun i m F H'=>m=ds.length - i/\i<=ds.length/\∃(t:List D) (ys:List V) (l:aO),Rg H1 H'/\H' f=lD (.lst ys)/\QV (bx C f) K H' ys t/\F.length=l.length/\(∀(j:Nat) (x:PV),l[j]? =lD (lD x)->∃d u,x=PV.fz d/\F[j]? =lD (lD u)/\DV (bx C f) K H' u d)/\dX gt ft fe (ds.drop i) l t= .ok xs,
  ⟨_,rfl,Qb _,[],[],_,bU S _,aD,.nil,?_,fun j x G=> ?_,qx⟩,?_⟩
 .unfold fR;rw[OZ,OZ,OX,OX,Px,OX,hn,<-YS.length];have:=congrArg QY hvs;rw[OX,OX,<-hf,OX] at this;omega
 .have hm:fv.map (fun p=>(Z[p.2]?).join)=vs.map lD:=by rw[<-hvs,<-hf,Qf];rfl
  unfold fR;rw[Ap hn,hm];by_cases hj:j<n
  .rw[Pz (by rw[Px];exact hj),RJ,if_pos hj] at G;cases G
  .rw[PH (by rw[Px];omega),Px,Pg] at G⊢
   cases qd:cs[j - n]? with
   |none=>rw[qd] at G;cases G
   |some d=>rw[qd] at G;cases G;obtain⟨u,hu,du⟩:=YS.get qd;exact⟨d,u,rfl,by rw[hu];rfl,du.ev (Ev.add (bU S _) S)⟩
 .rintro i m F H' ⟨rfl,hi,t,ys,l,s,hD,dys,hl,Yi,c⟩
  have nD:H' f≠Ld:=by rw[hD];simp
  have no':=fun a z h=>hB s nD a h z;have ev1:=e2.trans (Ev.add s S);obtain⟨go,stop⟩:=it (bx C f) H' ev1 s no';by_cases TZ:i<ds.length
  .obtain⟨g1,g2⟩:=go i TZ
   refine .inr ⟨g1,fun A I=>i+1<=ds.length/\∃(t:List D) (ys:List V) (l:aO),Rg H1 I/\I f=lD (.lst ys)/\QV (bx C f) K I ys t/\A.length=l.length/\(∀(j:Nat) (x:PV),l[j]? =lD (lD x)->∃d u,x=PV.fz d/\A[j]? =lD (lD u)/\DV (bx C f) K I u d)/\dX gt ft fe (ds.drop (i+1)) l t= .ok xs,
    fun A I ⟨h1,h2⟩=>⟨ds.length - (i+1),by omega,rfl,h1,h2⟩,fun x H3 y=> ?_⟩
   obtain⟨s3,d,hd,dv⟩:=g2 x H3 y;have ed:ds.drop i=d::ds.drop (i+1):=by obtain⟨_,q⟩:=O0.mp hd;rw[QA TZ,q]
   rw[ed] at c;have hD3:=s3 _ _ hD;have nD3:H3 f≠Ld:=by rw[hD3];simp
   have sv:=s.trans s3;have RC:Rl K (bx C f) H3 (bx C f) F H3 l:=⟨Rg.refl _,fun _ h=>h,hB sv nD3,fun a z h=>hB sv nD3 a h z,hl,fun j x G=>by obtain⟨d,u,rfl,h1,h2⟩:=Yi j x G;exact⟨u,h1,h2.ev (Ev.grow s3)⟩,fun j k xs ys w hj=>by obtain⟨d,u,e,_⟩:=Yi j _ hj;cases e⟩;unfold dX at c;have P:∀{O5:bF} {A:St} {I:Hp} {L:aO} {T:Hp},Rl K (bx C f) H3 O5 A I L->(∀b o,b≠f->I b=lD o->T b=lD o)->A.length=(da L).length/\∀(j:Nat) (x:PV),(da L)[j]? =lD (lD x)->∃d u,x=PV.fz d/\A[j]? =lD (lD u)/\DV (bx C f) K T u d:=fun{O5 A I L T} N k=>by refine⟨by unfold da;rw[OX];exact N.len,fun j x G=> ?_⟩;obtain⟨d,rfl,hxx⟩:=xX G;obtain⟨u,h1,h2⟩:=N.slot j _ hxx;refine⟨d,u,rfl,h1,DV.ev (fun b o h n=>⟨k b o (fun e=>n (.inr e)) h,n⟩) (DV.ev (Ev.sub N.bo) h2)⟩
   refine hg _ _ _ F H3 l x (.fz d) _ RC dv ?_;cases qg:gt (.fz d) l with
   |er z=>rw[qg] at c;cases c
   |bad=>rw[qg] at c;cases c
   |ok ρ3=>
    rw[qg,Res.bind_ok] at c;intro O4 σ4 H4 e4 R4;refine ht _ _ _ σ4 H4 ρ3 _ R4 ?_;cases qt:ft ρ3 with
    |er z=>rw[qt] at c;cases c
    |bad=>rw[qt] at c;cases c
    |ok b=>
     obtain⟨b,U⟩:=b;rw[qt,Res.bind_ok] at c;intro O5 I e5 N;cases b with
     |false=>rw[if_neg Pt] at c⊢;obtain⟨l5,k5⟩:=P N fun b o _ h=>h;refine⟨TZ,t,ys,da U,sv.trans N.same,N.same _ _ hD3,?_,l5,k5,c⟩;exact dys.ev (Ev.grow (s3.trans N.same))
     |true=>
      rw[if_pos rfl] at c⊢;refine he _ _ _ σ4 I U _ N ?_;cases qe:fe U with
      |er z=>rw[qe] at c;cases c
      |bad=>rw[qe] at c;cases c
      |ok r=>
       rw[qe,Res.bind_ok] at c;intro O6 yv T e6 R6 p6;cases q7:vL r.2 r.1 with
       |none=>rw[q7] at c;cases c
       |some xr=>
        obtain⟨xd,ρ7⟩:=xr;rw[q7] at c;obtain⟨O7,e7,R7,dv7⟩:=r8 R6 p6 q7;have hD7:=R7.same _ _ hD3;have M:(if t.length<1000000 then dX gt ft fe (ds.drop (i+1)) (da ρ7) (t++[xd]) else .bad)= .ok xs:=c;by_cases hl6:t.length<1000000
        .rw[if_pos hl6] at M
         have up:∀b o,b≠f->T b=lD o->upd T f (.lst (ys++[yv])) b=lD o:=fun b o hb h=>by rw[aA hb];exact h
         have evD:Ev (bx C f) T (bx C f) (upd T f (.lst (ys++[yv]))):=fun b o h n=>⟨up b o (fun e=>n (.inr e)) h,n⟩;have aet:=dys.ev (Ev.grow (s3.trans R7.same));obtain⟨l5,k5⟩:=P R7 up;refine⟨ys,hD7,rR (by rw[dys.length];exact hl6),TZ,t++[xd],ys++[yv],da ρ7,fun b o h=> ?_,aD,?_,l5,k5,M⟩
         .rw[aA (cF h S)];exact R7.same _ _ (sv _ _ h)
         .exact(aet.append (.cons (DV.ev (Ev.sub R7.bo) dv7) .nil)).ev evD
        .rw[if_neg hl6] at M;cases M
  .have e:i=ds.length:=by omega
   subst e;rw[Rn (O8 _)] at c;have c:=c;cases c;refine .inl ⟨stop,?_⟩;refine w1 (bx C f) (.ref f) H' (e1.trans ev1) (R2.add s S nD) ⟨f,ys,rfl,.inr rfl,R2.Z7 S,hD,dys,fun k es hk z=> ?_⟩;obtain⟨u,h1,b,us,e2,g1,g2,g3,g4⟩:=R2.slot k _ hk;rw[z] at h1;cases h1;cases e2;rw[S] at g3;cases g3
theorem om (hn:own.length=n) (c:fv.map (·.2)=fj)
  (hi:IO K E wi fi) (b:GO K E0 g gt) (a:WL K E0 tc ft) (d:EO K E0 te fe):EO K E (vZ own fv wi g tc te) (jp n fj fi gt ft fe):=wu hn c hi.s b a d
def JB (ρ:aO):Option (Option PV)->Res (List D×aO)
 |some (lD (.ow ds))=> .ok (ds,ρ)
 |_=> .bad
def Fz (i:Nat):FI:=fun ρ=>JB ρ ρ[i]?
theorem wA:N3 K E (zP K (qU i)) (Fz i):=by
 intro B X O Z H ρ u R w;unfold Fz at w;cases q:ρ[i]? with
 |none=>rw[q] at w;exact w.elim
 |some o=>
  cases o with
  |none=>rw[q] at w;exact w.elim
  |some x=>
   cases x with
   |fz d=>rw[q] at w;exact w.elim
   |pl j=>rw[q] at w;exact w.elim
   |ow ds=>rw[q] at w;obtain⟨v,h1,a,vs,rfl,r,p,c,m⟩:=R.slot i _ q;refine⟨_,h1,a,rfl,.inl ⟨⟨vs,Um.of c⟩,w O _ H .refl R fun Y H' e s n=> ?_⟩⟩;have k:=s _ _ c;have b:=m.ev e;refine⟨fun j l=> ?_,⟨vs,Um.of k,by rw[b.length];exact O8 _⟩⟩;obtain⟨x,h,_⟩:=b.get (Pq l);refine⟨⟨vs,x,Um.of k,h⟩,?_⟩;rintro y t ⟨rfl,hy⟩;obtain⟨d,g,f⟩:=b.ZR (hy vs (Um.of k));exact⟨Rg.refl _,d,g,f⟩
def cr (F:FN) (n:Nat) (fa:FA):FE:=fun ρ=>(fa ρ).bind fun a=>(Res.Qi (o0 a.2 a.1)).bind fun b=>if b.1.length=n then(mF (F b.1)).bind fun rv=> .ok (rv.pv,b.2) else .bad
theorem xA (ha:AO K E ta fa):EO K E (sk (l4 K n F) [] E0 ta) (cr F n fa):=by
 intro B X O Z H ρ Q R w;refine ha B X O Z H ρ _ R (w.bind.imp fun a e A vs C m p h=> ?_);obtain⟨⟨ds,d⟩,q,b⟩:=e.Qi;obtain⟨t,l,R2,c⟩:=uh p h q;dsimp only at b;by_cases hn:ds.length=n
 .rw[if_pos hn] at b;obtain⟨rv,f,b⟩:=zh (WR.bind b);rw[PY];refine⟨c.length.trans hn,t,ds,fun a z i=>R2.od a i z,c,?_⟩;rw[f];exact jO R2 fun r v u j o g=>b r v u (m.trans (l.trans j)) o g
 .rw[if_neg hn] at b;exact b.elim
end
def fV (N:Nat) (g:FS):FN:=fun ds=>(g (ds.map (fun d=>lD (.fz d))++Pe (N - ds.length) Ld)).bind fun a=>match a with
 | .rt rv=> .ok rv
 | .nx _=> .ok (.fz .none)
 |_=> .bad
theorem EZ (hb:∀a,B a->H a≠Ld) (f:QV B K H vs ds):Rl K B H B (L2.start N vs) H (ds.map (fun d=>lD (.fz d))++Pe (N.length - ds.length) Ld):=by
 have l:=f.length;refine⟨Rg.refl _,fun _ h=>h,hb,fun a z h=>hb a h z,?_,fun i x g=> ?_,fun i j xs ys w hi=> ?_⟩
 .unfold L2.start;rw[OZ,OZ,OX,OX,Px,Px,l]
 all_goals
  have b:∀{i:Nat} {x:PV},(ds.map (fun d=>lD (PV.fz d))++Pe (N.length - ds.length) Ld)[i]? =lD (lD x)->∃d,x= .fz d/\ds[i]? =lD d:=fun{i x} h=>by
   by_cases hi:i<ds.length
   .rw[Pz (by rw[OX];exact hi),Pg] at h
    cases q:ds[i]? with
    |none=>rw[q] at h;cases h
    |some d=>rw[q] at h;cases h;exact⟨d,rfl,rfl⟩
   .rw[PH (by rw[OX];omega),RJ] at h;split at h<;>cases h
 .obtain⟨d,rfl,m⟩:=b g;obtain⟨v,c,n⟩:=f.get m;refine⟨v,?_,n⟩;have hi:=(O0.mp c).1;unfold L2.start;rw[Pz (by rw[OX];exact hi),Pg,c];rfl
 .obtain⟨d,e,_⟩:=b hi;cases e
theorem OI (F:TY K x qual st f fd) (S:Tg N ps (aK st)) (hn:ps.length=n)
  (o:∀(a:OW) (A:PX) (outer:List Env) (s:Pa) (H:Hp) (E:XK),S5 k (A.deeper (Qu qual (aK st) s.heap.objs.size f a))->
   ∃t,VS (nR gB P w K mg base N qual (aK st) f a A outer s H E).Zl (cI st) t/\SO K E t g):FnOk P w K mg base gB (k+1) f fd ps (l4 K n (fV N.length g)):=by
 refine F.ok S (fun vs H Q E h=>h.1.trans hn.symm) (fun a A outer s H vs Q E i h=> ?_);obtain⟨t,c,d⟩:=o a A outer s H E i;obtain⟨r,B,ds,j,m,h⟩:=h;refine⟨t,c,d B H B _ H _ _ (EZ j m) (WR.imp (WR.bind h) fun l q=> ?_)⟩;cases l with
 |rt rv=>exact q
 |nx ρ=>exact fun u b p e R=>q .S4 p R.same .S4
 |bk ρ=>exact q.elim
 |ct ρ=>exact q.elim
end L3
namespace L3
open PySem PySem.Spec PyProof.Rows L2
theorem OpR.or (h:OpR X f r) (h':OpR X f r'):OpR X f (fun x y H Q=>r x y H Q\/r' x y H Q):=by
 intro a s b H x y v u Q I d c q;rcases q with q|q
 .exact h a s b H x y v u Q I d c q
 .exact h' a s b H x y v u Q I d c q
theorem K9 (I:Inv X pins σ H s) (h:Tv X.K H l xs):xs.length<=Po/\∃(a:List OW) (n:Nat),Vals xs a/\xs.length=a.length/\s.heap.get? l=lD {cls:= .type "list",data:= .seq a.toArray n}:=by
 rcases h with(h|⟨o,h⟩)|⟨a,n,h1,h2,h3⟩
 .exact I.acd h
 .obtain⟨_,z,a,n,r,e⟩:=I.Ro l _ h;exact⟨z,a,n,r,r.length,e⟩
 .exact⟨h2,a,n,h3,h3.length,I.XB _ _ h1⟩
def IA (K:OK):R2:=fun x y H Q=>∃l b xs zs,x= .ref l/\y= .ref b/\Tv K H l xs/\Tv K H b zs/\xs.length+zs.length<=Po/\∀p,H p=Ld->Q (.ref p) (upd H p (.lst (xs++zs)))
theorem Hw:OpR X (Ri .Add) (IA X.K):=by
 intro a s w H x y v u Q I g f h;obtain⟨l,b,xs,A,rfl,rfl,m,o,E,q⟩:=h;cases g;cases f;obtain⟨z,d,n,r,F,e⟩:=K9 I m;obtain⟨B,c,C,i,j,t⟩:=K9 I o;refine PySem.P.add_list e t ?_ (by rw[Pm,Pm];omega);have p:d.toArray++c.toArray=(d++c).toArray:=by simp
 rw[p];exact⟨.ref _,_,I.ab9 (r.append i) (by rw[OZ];omega),rfl,q _ I.fresh⟩
def Jh (K:OK):R2:=fun x y H Q=>∃l k xs,x= .ref l/\y= .int k/\Tv K H l xs/\ -(2^63)<=k/\k<2^63/\xs.length*k.toNat<=Po/\
 ∀p,H p=Ld->Q (.ref p) (upd H p (.lst (Pe k.toNat xs).flatten))
theorem F6:OpR X (Ri .Mult) (Jh X.K):=by
 intro i s M H x y v u Q I B A h;obtain⟨l,k,xs,rfl,rfl,E,h1,G,j,q⟩:=h;cases B;obtain⟨t,rfl⟩:=A;obtain⟨z,b,n,r,C,e⟩:=K9 I E;have c:b.toArray.size*k.toNat<=Po:=by rw[Pm,<-C];exact j
 have d:¬b.toArray.size*k.toNat>(2^63 - 1)/8:=by
  have:(Po:Nat)<=(2^63 - 1)/8:=by decide
  omega
 have f:¬(!Builtin.List.listFitsIndex k)=Pb:=by rw[fitsIndex_both h1 G];exact Pt
 have g:¬Builtin.List.listTooLong (b.toArray.size*k.toNat)=Pb:=by rw[C3 c];exact Pt
 have L:Uj (fun p o=>p++o) #[] (Pe (if b.toArray.isEmpty=Pb then 0 else k.toNat) b.toArray)=(Pe k.toNat b).flatten.toArray:=by
  have J:=fun m=>by have:=mM b m [];rw[Us] at this;exact this
  rw[J];cases b with
  |nil=>simp
  |cons a N=>rw[if_neg (by simp)]
 refine Xm (by decide) ⟨_,e,rfl⟩ (fun w=>T1 w k t) noFill_list_mul F.fills_int_mul F.slot_int_rmul repeat_list F.slot_int_index.lookup
  (S0 F.slot_int_rmul (T1 s k t) F.entry_int_rmul (F.args_int_rmul_2 _ _) (int___rmul___int_list k t l b.toArray n)
   ⟨e,rfl,⟨_,e,rfl⟩,S0 F.slot_list_mul ⟨_,e,rfl⟩ F.entry_list_mul (F.args_list_mul_2 _ _) (AutoListH.list___mul___list_int_3 l b.toArray n k t f d g) ⟨e,?_⟩⟩)
 rw[L];exact⟨.ref _,_,I.ab9 (r.rep k.toNat) (by rw[AM,Nat.mul_comm];exact j),rfl,q _ I.fresh⟩
section
variable {K:OK}
def fI (g:Int->Int->Int):D->D->Option RV
 | .int i,.int j=>lD (.fz (.int (g i j)))
 |_,_=>Ld
def fB (g:Int->Int->Bool):D->D->Option RV
 | .int i,.int j=>lD (.fz (.bool (g i j)))
 |_,_=>Ld
def MR (C:Int->Int->Bool) (g:Int->Int->Int):D->D->Option RV
 | .int i,.int j=>if C i j=Pb then lD (.fz (.int (g i j))) else Ld
 |_,_=>Ld
theorem vA (h:fI g dx dy=lD rv):∃i j,dx= .int i/\dy= .int j/\rv= .fz (.int (g i j)):=by
 unfold fI at h;split at h
 .cases h;exact⟨_,_,rfl,rfl,rfl⟩
 .cases h
theorem MU:kG K (xo fun i j=> .int (g i j)) (fI g):=by intro O H x y dx c rv Q n b a e q;obtain⟨i,j,rfl,rfl,rfl⟩:=vA e;cases b;cases a;exact⟨i,j,rfl,rfl,q.at (.int _)⟩
theorem zg:kG K (xo fun i j=> .bl (g i j)) (fB g):=by
 intro O H x y dx c rv Q n b a e q;unfold fB at e;split at e
 .cases e;cases b;cases a;exact⟨_,_,rfl,rfl,q.at (.bl _)⟩
 .cases e
theorem yY (d:∀i j,C i j=Pb->C' i j):kG K (rI C' fun i j=> .int (g i j)) (MR C g):=by
 intro O H x y dx f rv Q n b a e q;unfold MR at e;split at e
 .split at e
  .rename_i c;cases e;cases b;cases a;exact⟨_,_,rfl,rfl,d _ _ c,q.at (.int _)⟩
  .cases e
 .cases e
theorem C6 (h:DX O K H x (.list ds)):∃a xs,x= .ref a/\Tv K H a xs/\QV O K H xs ds:=h
theorem xl (h:DX O K H x (.tuple ds)):∃a xs,x= .ref a/\U1 O K H a xs/\QV O K H xs ds:=Fk h rfl
def Ff (K:OK):R2:=fun x y H Q=>xo (fun i j=> .int (i+j)) x y H Q\/IA K x y H Q\/Ib K x y H Q
theorem kg:OpR X (Ri .Add) (Ff X.K):=OpR.or JI (OpR.or Hw Gb)
def bZ:D->D->Option RV
 | .int i,.int j=>lD (.fz (.int (i+j)))
 | .list xs,.list ys=>if xs.length+ys.length<=1000000 then lD (.ow (xs++ys)) else Ld
 | .tuple xs,.tuple ys=>if xs≠[]/\xs.length+ys.length<=1000000 then lD (.fz (.tuple (xs++ys))) else Ld
 |_,_=>Ld
theorem rA (h:n<=1000000):n<=Po:=Pp h (by decide)
theorem QV.ne (h:QV O K H vs ds):vs=[]↔ds=[]:=by cases h<;>simp
theorem j9:kG K (Ff K) bZ:=by
 intro O H x y dx l rv Q n h g e q;unfold bZ at e;split at e
 .cases e;cases h;cases g;exact .inl ⟨_,_,rfl,rfl,q.at (.int _)⟩
 .split at e
  .rename_i f;cases e;obtain⟨a,xs,rfl,h1,c⟩:=C6 h;obtain⟨b,ys,rfl,i,d⟩:=C6 g;exact .inr (.inl ⟨a,b,xs,ys,rfl,rfl,h1,i,rA (by rw[c.length,d.length];exact f),Fin.new (c.append d) q⟩)
  .cases e
 .split at e
  .rename_i f;cases e;obtain⟨a,xs,rfl,h1,c⟩:=xl h;obtain⟨b,ys,rfl,i,d⟩:=xl g;refine .inr (.inr ⟨a,b,xs,ys,rfl,rfl,h1.1,i.1,fun z=>f.1 (c.ne.mp z),rA (by rw[c.length,d.length];exact f.2),fun z=> ?_,fun _=>Fin.Xe (c.append d) n q⟩);have j:=d.ne.mp z;subst j;rw[PY] at q;exact q.at (.tup h1 c)
  .cases e
 .cases e
def E1 (K:OK):R2:=fun x y H Q=>rI Zx (fun i j=> .int (i*j)) x y H Q\/Jh K x y H Q
theorem Gu:OpR X (Ri .Mult) (E1 X.K):=OpR.or Ky F6
def gb (i:Int):Bool:=decide (-(2^64)<i/\i<2^64)
theorem qC (h:gb i=Pb): -(2^64)<i/\i<2^64:=of_decide_eq_true h
def Bz:D->D->Option RV
 | .int i,.int j=>if(gb i||gb j)=Pb then lD (.fz (.int (i*j))) else Ld
 | .list xs,.int k=>if xs.length*k.toNat<=1000000/\ -(2^63)<=k/\k<2^63 then lD (.ow (Pe k.toNat xs).flatten) else Ld
 |_,_=>Ld
theorem Hr:kG K (E1 K) Bz:=by
 intro O H x y dx g rv Q n d c e q;unfold Bz at e;split at e
 .split at e
  .rename_i b
   cases e;cases d;cases c;refine .inl ⟨_,_,rfl,rfl,?_,q.at (.int _)⟩;rcases(Bool.or_eq_true _ _).mp b with z|z
   .exact .inl (qC z)
   .exact .inr (qC z)
  .cases e
 .split at e
  .rename_i b;cases e;cases c;obtain⟨a,xs,rfl,h1,f⟩:=C6 d;exact .inr ⟨a,_,xs,rfl,rfl,h1,b.2.1,b.2.2,rA (by rw[f.length];exact b.1),Fin.new (f.flat _) q⟩
  .cases e
 .cases e
def v7:=fI fun i j=>i - j
theorem GH:kG K (xo fun i j=> .int (i - j)) v7:=MU
def Lc (_ j:Int):Bool:=decide (0<j)
def bC:=MR Lc fun i j=>i % j
theorem lQ:kG K (rI (fun _ j=>0<j) fun i j=> .int (i % j)) bC:=yY fun i j h=>of_decide_eq_true h
def JS (_ j:Int):Bool:=decide (0<j/\j<2^128)
def cG:=MR JS fun i j=>i/j
theorem uF:kG K (rI (fun _ j=>0<j/\j.natAbs.log2<9000) fun i j=> .int (i/j)) cG:=yY fun i j h=>by
 have a:=of_decide_eq_true h;refine⟨a.1,?_⟩;have b:j.natAbs<2^128:=by have:=a.2;omega
 have c:=(Nat.log2_lt (by omega)).mpr b;omega
def Ex (i j:Int):Bool:=decide (0<=j/\j<=1000000/\i.natAbs<2^64)
theorem Hg (i j:Int) (h:Ex i j=Pb):KQ i j:=by unfold Ex at h;exact(show 0<=j/\j<=1000000/\i.natAbs<2^64 from of_decide_eq_true h)
def nY:=MR Ex fun i j=>i^j.toNat
theorem GW:kG K (rI KQ fun i j=> .int (i^j.toNat)) nY:=yY Hg
def Lo:=fB fun i j=>decide (i<j)
def NL:=fB fun i j=>decide (i<=j)
def J1:=fB fun i j=>decide (j<i)
def LA:=fB fun i j=>decide (j<=i)
theorem Eo:kG K (xo fun i j=> .bl (decide (i<j))) Lo:=zg
theorem Ks:kG K (xo fun i j=> .bl (decide (i<=j))) NL:=zg
theorem yj:kG K (xo fun i j=> .bl (decide (j<i))) J1:=zg
theorem Kf:kG K (xo fun i j=> .bl (decide (j<=i))) LA:=zg
def Ce (d:D):Bool:=d.canLay0&&decide (d.depth<=64)
def kW (d e:D):Option RV:=if(Ce d&&e.canLay0)=Pb then lD (.fz (.bool (O9.eqv d e))) else Ld
def vE (d e:D):Option RV:=if(Ce d&&e.canLay0)=Pb then lD (.fz (.bool (!O9.eqv d e))) else Ld
theorem u8:kG K (Gy K Ph) kW:=by
 intro O H x y dx d rv Q n c b e q;unfold kW at e;split at e
 .rename_i a;cases e;unfold Ce at a;simp only[PN,decide_eq_true_eq] at a;exact⟨dx,d,c.plain,b.plain,a.1.1,a.2,a.1.2,q.at (.bl _)⟩
 .cases e
theorem Fr:kG K (Gy K Pb) vE:=by
 intro O H x y dx d rv Q n c b e q;unfold vE at e;split at e
 .rename_i a;cases e;unfold Ce at a;simp only[PN,decide_eq_true_eq] at a;exact⟨dx,d,c.plain,b.plain,a.1.1,a.2,a.1.2,q.at (.bl _)⟩
 .cases e
def sO:D->D->Option RV
 | .none,.none=>lD (.fz (.bool Pb))
 |_,.none=>lD (.fz (.bool Ph))
 |_,_=>Ld
def Eu:D->D->Option RV
 | .none,.none=>lD (.fz (.bool Ph))
 |_,.none=>lD (.fz (.bool Pb))
 |_,_=>Ld
theorem CL (h:DX O K H x d) (c:d≠ .none):x≠ .S4:=by
 cases d with
 |none=>exact absurd rfl c
 |list ds=>obtain⟨a,xs,rfl,_⟩:=C6 h;simp
 |tuple ds=>obtain⟨a,xs,rfl,_⟩:=xl h;simp
 |bool b=>cases h;simp
 |int b=>cases h;simp
 |str b=>cases h;simp
 |dict b=>cases h
theorem Ax:kG K (fun x y H Q=>y= .S4/\Q (.bl (decide (x= .S4))) H) sO:=by
 intro O H x y dx d rv Q n b a e q;unfold sO at e;split at e
 .cases e;cases b;cases a;exact⟨rfl,q.at (.bl _)⟩
 .rename_i c;cases e;cases a;refine⟨rfl,?_⟩;rw[decide_eq_false (CL b c)];exact q.at (.bl _)
 .cases e
theorem AQ:kG K (fun x y H Q=>y= .S4/\Q (.bl (!decide (x= .S4))) H) Eu:=by
 intro O H x y dx d rv Q n b a e q;unfold Eu at e;split at e
 .cases e;cases b;cases a;exact⟨rfl,q.at (.bl _)⟩
 .rename_i c;cases e;cases a;refine⟨rfl,?_⟩;rw[decide_eq_false (CL b c)];exact q.at (.bl _)
 .cases e
def Ht (K:OK) (neg:Bool):R2:=fun x y H Q=>∃d ds,L2.DV K H x d/\(L2.DV K H y (.list ds)\/L2.DV K H y (.tuple ds))/\d.canLay0=Pb/\O9.canLayAll0 ds=Pb/\d.depth<=64/\Q (.bl (if neg then !(ds.any fun e=>O9.eqv e d) else ds.any fun e=>O9.eqv e d)) H
theorem CJ (m:X.A.units+65<cLine):OpR X (Rf .In) (Ht X.K Ph):=by
 intro f s l H x y v u Q I i c h;obtain⟨d,ds,h1,a,l1,g,j,q⟩:=h;obtain⟨n,e⟩:=h1.reads I i;have hm:min (O9.depthAll ds) d.depth<=64:=Pp (Vz _ _) j;rcases a with a|a
 .obtain⟨bs,b⟩:=a.reads I c;exact ads b e g l1 (by omega) ⟨.bl _,H,I,rfl,q⟩
 .obtain⟨bs,b⟩:=a.reads I c;exact adt b e g l1 (by omega) ⟨.bl _,H,I,rfl,q⟩
theorem An (m:X.A.units+65<cLine):OpR X (Rf .NotIn) (Ht X.K Pb):=by
 intro f s l H x y v u Q I i c h;obtain⟨d,ds,h1,a,l1,g,j,q⟩:=h;obtain⟨n,e⟩:=h1.reads I i;have hm:min (O9.depthAll ds) d.depth<=64:=Pp (Vz _ _) j;rcases a with a|a
 .obtain⟨bs,b⟩:=a.reads I c;exact adu b e g l1 (by omega) ⟨.bl _,H,I,rfl,q⟩
 .obtain⟨bs,b⟩:=a.reads I c;exact adv b e g l1 (by omega) ⟨.bl _,H,I,rfl,q⟩
def Lr (d e:D):Option RV:=match gz e with
 |some ds=>if(Ce d&&O9.canLayAll0 ds)=Pb then lD (.fz (.bool (ds.any fun e=>O9.eqv e d))) else Ld
 |none=>Ld
def Ho (d e:D):Option RV:=match gz e with
 |some ds=>if(Ce d&&O9.canLayAll0 ds)=Pb then lD (.fz (.bool (!ds.any fun e=>O9.eqv e d))) else Ld
 |none=>Ld
theorem Dv (a:DX O K H y e) (h:gz e=lD ds):L2.DV K H y (.list ds)\/L2.DV K H y (.tuple ds):=by
 unfold gz at h;split at h
 .cases h;exact .inr a.plain
 .cases h;exact .inl a.plain
 .cases h
theorem Eg:kG K (Ht K Ph) Lr:=by
 intro O H x y dx f rv Q n c b e q;unfold Lr at e;split at e
 .rename_i ds d
  split at e
  .rename_i a;cases e;unfold Ce at a;simp only[PN,decide_eq_true_eq] at a;exact⟨dx,ds,c.plain,Dv b d,a.1.1,a.2,a.1.2,q.at (.bl _)⟩
  .cases e
 .cases e
theorem AI:kG K (Ht K Pb) Ho:=by
 intro O H x y dx f rv Q n c b e q;unfold Ho at e;split at e
 .rename_i ds d
  split at e
  .rename_i a;cases e;unfold Ce at a;simp only[PN,decide_eq_true_eq] at a;exact⟨dx,ds,c.plain,Dv b d,a.1.1,a.2,a.1.2,q.at (.bl _)⟩
  .cases e
 .cases e
def dR (d e:D):Option RV:=match gz d,e with
 |some ds,.int i=>(kU ds i).map .fz
 |_,_=>Ld
theorem E9 (h:QV O K H xs ds) (e:kU ds i=lD d):∃v,kU xs i=lD v/\DV O K H v d:=by
 unfold kU at e⊢;rw[h.length];cases q:F3 ds.length i with
 |none=>rw[q] at e;cases e
 |some j=>rw[q] at e;exact h.get e
theorem ff:kG K (No K) dR:=by
 intro O H x y dx l rv Q n h j e q;unfold dR at e;split at e
 .rename_i ds i b
  cases j;cases qa:kU ds i with
  |none=>rw[qa] at e;cases e
  |some d=>
   rw[qa] at e;cases e;unfold gz at b;split at b
   .cases b;obtain⟨a,xs,rfl,h1,f⟩:=xl h;obtain⟨v,c,g⟩:=E9 f qa;exact .inr (.inl ⟨a,xs,i,v,rfl,rfl,h1.1,c,q.at g⟩)
   .cases b;obtain⟨a,xs,rfl,h1,f⟩:=C6 h;obtain⟨v,c,g⟩:=E9 f qa;exact .inl ⟨a,xs,i,v,rfl,rfl,h1.sq,c,q.at g⟩
   .cases b
 .cases e
def gg (xs:List D) (lo hi:Option Int):List D:=(xs.drop (HT.sIx xs.length 0 lo)).take (HT.sIx xs.length xs.length hi - HT.sIx xs.length 0 lo)
theorem Cm {lo hi:Option Int} (h:QV O K H xs ds):QV O K H (BS xs lo hi) (gg ds lo hi):=by unfold BS gg;rw[h.length];exact(h.drop _).take _
def jC (n:Nat) (lo hi:Option Int):Bool:=decide (HT.sIx n 0 lo=0/\HT.sIx n n hi=n)
def Jr (K:OK):V->Option Int->Option Int->Hp->VK->Prop:=fun x lo hi H Q=>LV K x lo hi H Q\/Ma K x lo hi H Q
theorem yg:Lq X (Jr X.K):=by
 intro a s b H x v d c lo hi e Q I f i pl g h;rcases h with h|h
 .exact HM a s b H x v d c lo hi e Q I f i pl g h
 .exact JP a s b H x v d c lo hi e Q I f i pl g h
def Nj:D->Option Int->Option Int->Option RV
 | .list ds,lo,hi=>lD (.ow (gg ds lo hi))
 | .tuple ds,lo,hi=>if jC ds.length lo hi=Pb then Ld else lD (.fz (.tuple (gg ds lo hi)))
 |_,_,_=>Ld
theorem n9:NU K (Jr K) Nj:=by
 intro O H x lo hi dx rv Q n c e q;unfold Nj at e;split at e
 .cases e;obtain⟨a,xs,rfl,h1,b⟩:=C6 c;exact .inl ⟨a,xs,rfl,h1.sq,Fin.new (Cm b) q⟩
 .split at e
  .cases e
  .rename_i d;cases e;obtain⟨a,xs,rfl,h1,b⟩:=xl c;refine .inr ⟨a,xs,rfl,h1.1,fun z=>d ?_,Fin.Xe (Cm b) n q⟩;unfold jC;rw[<-b.length];exact decide_eq_true z
 .cases e
def D2:D->Option RV
 | .int i=>lD (.fz (.int (-i)))
 |_=>Ld
theorem zR:Oi K (rU fun i=> .int (-i)) D2:=by
 intro O H x dx rv Q n a e q;unfold D2 at e;split at e
 .cases e;cases a;exact⟨_,rfl,q.at (.int _)⟩
 .cases e
def fu:List D->Option RV
 |[d]=>(match gz d with
  |some ds=>lD (.fz (.int ds.length))
  |none=>Ld)
 |_=>Ld
theorem um:Jd K (fun xs H Q=>∃x n,xs=[x]/\Mq K x H n/\Q (.int n) H) fu:=by
 intro O H xs ds rv Q n d e q;unfold fu at e;split at e
 .split at e
  .rename_i f b
   cases e;cases d with
   |cons h1 c=>
    cases c;unfold gz at b;split at b
    .cases b;obtain⟨a,xs,rfl,h1,c⟩:=xl h1;exact⟨_,xs.length,rfl,.inr ⟨xs,h1.1,rfl⟩,by rw[c.length];exact q.at (.int _)⟩
    .cases b;obtain⟨a,xs,rfl,h1,c⟩:=C6 h1;exact⟨_,xs.length,rfl,.inl ⟨xs,h1.sq,rfl⟩,by rw[c.length];exact q.at (.int _)⟩
    .cases b
  .cases e
 .cases e
def lA:List D->Option RV
 |[.tuple ds]=>lD (.fz (.tuple ds))
 |[.list ds]=>lD (.fz (.tuple ds))
 |_=>Ld
theorem oY:Jd K (fun xs H Q=>∃p ys,xs=[.ref p]/\((Um K H p ys/\∀l,H l=Ld->Q (.ref l) (upd H l (.tup ys)))\/(TX K H p ys/\Q (.ref p) H))) lA:=by
 intro O H xs ds rv Q n c e q;unfold lA at e;split at e
 .cases e
  cases c with
  |cons h1 b=>cases b;obtain⟨a,xs,rfl,h1,b⟩:=xl h1;exact⟨a,xs,rfl,.inr ⟨h1.1,q.at (.tup h1 b)⟩⟩
 .cases e
  cases c with
  |cons h1 b=>cases b;obtain⟨a,xs,rfl,h1,b⟩:=C6 h1;exact⟨a,xs,rfl,.inl ⟨h1.sq,Fin.Xe b n q⟩⟩
 .cases e
def qZ:List D->Option RV
 |[d]=>(gz d).map .ow
 |_=>Ld
theorem uN:Jd K (fun xs H Q=>∃p ys,xs=[.ref p]/\(Um K H p ys\/TX K H p ys)/\∀l,H l=Ld->Q (.ref l) (upd H l (.lst ys))) qZ:=by
 intro O H xs ds rv Q n c e q;unfold qZ at e;split at e
 .rename_i d
  cases c with
  |cons h1 b=>
   cases b;cases hs:gz d with
   |none=>rw[hs] at e;cases e
   |some f=>
    rw[hs] at e;cases e;unfold gz at hs;split at hs
    .cases hs;obtain⟨a,xs,rfl,h1,b⟩:=xl h1;exact⟨a,xs,rfl,.inr h1.1,Fin.new b q⟩
    .cases hs;obtain⟨a,xs,rfl,h1,b⟩:=C6 h1;exact⟨a,xs,rfl,.inl h1.sq,Fin.new b q⟩
    .cases hs
 .cases e
def rE:List D->Option RV
 |[.int i,.int j]=>lD (.fz (.int (if j>i then j else i)))
 |_=>Ld
theorem G4:Jd K (fun xs H Q=>∃i j,xs=[.int i,.int j]/\Q (.int (if j>i then j else i)) H) rE:=by
 intro O H xs ds rv Q n b e q;unfold rE at e;split at e
 .cases e
  cases b with
  |cons h1 a=>
   cases a with
   |cons a c=>cases c;cases h1;cases a;exact⟨_,_,rfl,q.at (.int _)⟩
 .cases e
end
end L3
namespace PySem
open Sem (wp)
open AutoSeq1 (wpAny_loadPart')
open Builtin Builtin.Str
end PySem
namespace L3
open PySem PySem.Spec PyProof.Rows L2
theorem Bm {bs:List Bool} (r:Vals (bs.map V.bl) Qh) {i:Nat} (h:Qh[i]? =lD v):∃b,bs[i]? =lD b/\v= .bool b:=by
 have c:=r.length;rw[OX] at c;have hi:i<bs.length:=by rw[c];exact(O0.mp h).1
 obtain⟨u,a,d⟩:=r.get (by rw[Pg,Pq hi];rfl);rw[h] at a;cases a;exact⟨bs[i],Pq hi,d⟩
theorem ym (bs:List Bool):((P9 bs.length).all fun i=>(bs[i]?).getD Pb)=bs.all id:=by
 rw[Bool.eq_iff_iff,Qk,Qk];constructor
 .intro h b a;obtain⟨i,hi,e⟩:=Xn.mp a;have:=h i (Q9.mpr hi);rw[Pq hi,e] at this;exact this
 .intro h i hi;have hi:=Q9.mp hi;rw[Pq hi];exact h _ (Q4 hi)
section
variable {X:Cx}
theorem xh (n:X.calm=Pb):iG X (.builtin "all") (fun xs H Q=>∃(p:Pc) (bs:List Bool),xs=[.ref p]/\Um X.K H p (bs.map V.bl)/\Q (.bl (bs.all id)) H):=by
 intro c s z H xs B Q I r h;obtain⟨l,bs,rfl,j,q⟩:=h;obtain⟨u,rfl,g⟩:=nF r;cases g;obtain⟨f,rv,pl,F⟩:=I.list j;have a:=rv.length;rw[OX] at a;have w:l<s.heap.objs.size:=by obtain⟨_,_,e,_⟩:=pl;exact Heap.lt_size e
 refine call_all_walk (Va pl.isList ?_);refine⟨s.heap.objs.size,[s.heap.objs.size,l],[s.heap.objs.size],f.toArray.size,_,_,fun i=>(bs[i]?).getD Pb,rfl,Walks.list (A:=X.A.in1) (I.ok.hd n) _ l (PU w) f.toArray,
  ⟨⟨_,Heap.get?_push_size _ rfl,rfl,rfl⟩,pl.isList.push _⟩,fun i v E J L t d=> ?_,fun G C m=> ?_⟩
 .obtain⟨b,e,rfl⟩:=Bm rv (by simpa using t);simp only[e,Vh] at d;exact RH d
 .rw[Pm,<-a,ym];refine⟨.bl _,H,I.kept fun b o e=>m b o (fun hm=> ?_) (Heap.get?_push_of_some _ e),rfl,q⟩;rw[Pk.mp hm] at e;exact Qq _ (Heap.lt_size e)
end
section
variable {K:OK}
def uT:List D->Option (List Bool)
 |[]=>lD []
 | .bool b::r=>(uT r).map (b::·)
 |_=>Ld
theorem zT:∀{xs:List V} {ds:List D} {bs:List Bool},QV O K H xs ds->uT ds=lD bs->xs=bs.map V.bl
 |_,_,_,.nil,e=>by cases e;rfl
 |_,_,bs,.cons (ds:=r) h t,e=>by
  cases h with
  |bl b=>
   have a:(uT r).map (b::·)=lD bs:=e;cases q:uT r with
   |none=>rw[q] at a;cases a
   |some c=>rw[q] at a;cases a;rw[zT t q];rfl
  |_=>cases e
def FU:List D->Option RV
 |[.list ds]=>(uT ds).map fun bs=> .fz (.bool (bs.all id))
 |_=>Ld
theorem Ft:Jd K (fun xs H Q=>∃(p:Pc) (bs:List Bool),xs=[.ref p]/\Um K H p (bs.map V.bl)/\Q (.bl (bs.all id)) H) FU:=by
 intro O H xs ds rv Q n c e q;unfold FU at e;split at e
 .rename_i d
  cases qs:uT d with
  |none=>rw[qs] at e;cases e
  |some bs=>
   rw[qs] at e;cases e;cases c with
   |cons h1 b=>cases b;obtain⟨a,ys,rfl,h1,b⟩:=C6 h1;have:=zT b qs;subst this;exact⟨a,bs,rfl,h1.sq,q.at (.bl _)⟩
 .cases e
theorem CH (a:List Int):QV O K H (a.map V.int) (a.map .int):=by
 induction a with
 |nil=>exact .nil
 |cons n r b=>exact .cons (.int n) b
end
def OD (K:OK) (H:Hp) (x:V) (t:String):Prop:=match x with
 | .S4=>t= "NoneType"
 | .bl _=>t= "bool"
 | .int _=>t= "int"
 | .str _=>t= "str"
 | .ref a=>(t= "list"/\∃xs,Um K H a xs)\/(t= "tuple"/\∃xs,TX K H a xs)
 |_=>False
def Jj (K:OK):List V->Hp->VK->Prop:=fun xs H Q=>∃x n t b,xs=[x,.ty n]/\OD K H x t/\Yn K (.type t) (.type n)=lD b/\Q (.bl b) H
theorem rJ {X:Cx}:iG X (.builtin "isinstance") (Jj X.K):=by
 intro f s l H xs w Q I r h;obtain⟨x,n,t,b,rfl,ty,e,q⟩:=h;obtain⟨u,m,rfl,d,p⟩:=Iw r;obtain rfl:m=OW.type n:=p;have c:∀g,EP X f l Q (.bool b) {s with toks:=g}:=fun g=>⟨.bl b,H,I.tok g,rfl,q⟩;cases x with
 |S4=>cases(show t= "NoneType" from ty);cases(show u=OW.none from d);exact Sv PySem.W.kitx_none I.XB True.intro e (fun z=>nomatch z) c
 |bl y=>cases(show t= "bool" from ty);cases(show u=OW.bool y from d);exact Sv PySem.W.kitx_bool I.XB True.intro e (fun z=>nomatch z) c
 |int i=>cases(show t= "int" from ty);obtain⟨t,q⟩:=(show∃t,u=OW.int i t from d);cases q;exact Sv PySem.W.kitx_int I.XB True.intro e (fun z=>nomatch z) c
 |str y=>cases(show t= "str" from ty);obtain⟨t,q⟩:=(show∃t,u=OW.str y t from d);cases q;exact Sv PySem.W.kitx_str I.XB True.intro e (fun z=>nomatch z) c
 |ref a=>
  cases(show u=OW.ref a from d);rcases ty with⟨rfl,xs,h⟩|⟨rfl,xs,h⟩
  .obtain⟨v,r,⟨o,k,h1,j,_⟩,_⟩:=I.list h;exact Sv PySem.W.kitx_list I.XB ⟨_,h1,j⟩ e (fun z=>nomatch z) c
  .obtain⟨v,r,⟨o,h1,j,_⟩,_⟩:=I.tuple h;exact Sv PySem.W.kitx_tuple I.XB ⟨o,h1,j⟩ e (fun z=>nomatch z) c
 |_=>exact(show False from ty).elim
section
variable {K:OK} {E:XK} {B O O':bF} {H0 H H':Hp} {σ:L2.St} {ρ ρ':aO} {v:V}
def DW:D->Option String
 | .none=>lD "NoneType"
 | .bool _=>lD "bool"
 | .int _=>lD "int"
 | .str _=>lD "str"
 | .list _=>lD "list"
 | .tuple _=>lD "tuple"
 | .dict _=>Ld
def G6 (n t:String):Bool:=n==t||(n== "int"&&t== "bool")
theorem GS {n t:String} (hn:n= "int"\/n= "bool"\/n= "str"\/n= "list"\/n= "tuple") {d:D} (a:DW d=lD t):Yn K (.type t) (.type n)=lD (G6 n t):=by cases d<;>(cases a;try (rcases hn with rfl|rfl|rfl|rfl|rfl<;>rfl))
theorem My {x:V} {d:D} {t:String} (h:DX O K H x d) (e:DW d=lD t):OD K H x t:=by
 cases d with
 |none=>cases e;cases h;rfl
 |bool b=>cases e;cases h;rfl
 |int b=>cases e;cases h;rfl
 |str b=>cases e;cases h;rfl
 |dict b=>cases e
 |list ds=>cases e;obtain⟨a,xs,rfl,h1,_⟩:=C6 h;exact .inl ⟨rfl,xs,h1.sq⟩
 |tuple ds=>cases e;obtain⟨a,xs,rfl,h1,_⟩:=xl h;exact .inr ⟨rfl,xs,h1.1⟩
def uO (n:String) (fa:FE):FE:=fun ρ=>(fa ρ).bind fun a=>(Res.Qi (sj a.2 a.1)).bind fun d=>(Res.Qi (DW d)).bind fun t=> .ok (.fz (.bool (G6 n t)),a.2)
theorem Ee {n:String} {c:TE} {fa:FE} (hn:n= "int"\/n= "bool"\/n= "str"\/n= "list"\/n= "tuple") (ha:EO K E c fa):EO K E (G8 (Jj K) (gQ c (gQ (tC (.ty n)) qw))) (uO n fa):=by intro B H0 O σ H ρ Q R w;refine ha B H0 O σ H ρ _ R (w.bind.imp fun a b i x j h f g=> ?_);obtain⟨d,q,b⟩:=b.Qi;obtain⟨t,e,b⟩:=b.Qi;exact⟨x,n,t,G6 n t,rfl,My (kF f g q) e,GS hn e,b i _ j h f (.bl _)⟩
end
theorem Bo {P:PF} {w:Qc} {K:OK} {mg mb:Str->Option OW} {k:Nat} {fa a:Pc} {fd:QR} {x:Str} {F:FN} {b:Pa} {vs:List OW} {c:List Int}
  (i:K.In b.heap) (C:b.heap.Ns P7 mg) (hb:b.heap.Ns builtinsNs mb) (d:∀x:Str,x≠ "__name__"->mb x=Qx x) (f:b.heap.NoLimit) (p:b.gens= #[])
  (ha:b.heap.get? a=lD {cls:= .type "list",data:= .seq vs.toArray}) (hi:IntsAre vs c) (g:c.length<=Po) (m:S5 k callerA)
  (FF:∀base:Heap,K.In base->base.Ns P7 mg->FnOk P w K mg base gB k fa fd [x] (l4 K 1 F)) (B:∀(s:Pa) (u:OW),Vg s fd ⟨[u],[]⟩ [(x,u)])
  (t:F [.list (c.map .int)]= .ok (.fz (.bool Pb))):
  codeAny (model P w) callerA (.call (.ref fa) ⟨[.ref a],[]⟩) (fun r s'=>r= .ok (.ret (.bool Pb))/\OldK b.heap s'.heap/\s'.os=b.os/\AllBare s'.gens) b:=by
 refine Es (sp:=fun vs H Q E=>l4 K 1 F vs H Q E\/(vs.length=1/\False)) i C hb d f p ha hi g m (fun base l j=>(FF base l j).imp fun vs H Q E h=> ?_) B (fun H G q=> ?_) fun _ _ _ h=>h
 .rcases h with h|h
  .exact h
  .exact h.2.elim
 .refine .inl ⟨rfl,WZ,[.list (c.map .int)],fun a z=>z.elim,.cons (.lst ⟨?_,fun z=>z.elim⟩ (CH c)) .nil,?_⟩
  .rcases q with h|⟨o,Qh,n,h1,h2,h3,h4,h5,h6⟩
   .exact .inl h
   .have e:=i a o h1;rw[ha] at e;cases e;cases h4;exact .inr ⟨vs,0,h1,by rw[OX];exact g,by simpa using h6⟩
  .rw[t];exact fun v I s A=>by cases A;rfl
theorem LP {l:Yc} {n k:Nat} {q:PF} {e:List Str} {M:(Str->Option OW)->Heap->Prop} {A:Qc->Heap->Prop} {d:DefRec} {K:Params->OK} {F:FN} {x:Str}
  (hn:l.most=lD n) (j:n<=Po) (p:d.params.defaults=[]) (C:S5 k callerA)
  (I:∀(w:Qc) (h:Heap),A w h->(K w.params).In h)
  (FF:∀(w:Qc) (mg:Str->Option OW) (fa:Pc) (h:Heap),(K w.params).In h->h.Ns P7 mg->mg d.name=lD (.ref fa)->
   ∃fd:QR,(∀(s:Pa) (u:OW),Vg s fd ⟨[u],[]⟩ [(x,u)])/\∀base:Heap,(K w.params).In base->base.Ns P7 mg->FnOk l.prog w (K w.params) mg base gB k fa fd [x] (l4 (K w.params) 1 F))
  (J:∀ns:List Int,ns.length<=n->F [.list (ns.map .int)]= .ok (.fz (.bool Pb))):
  PySem.W.WalkO q e M A l.row.toRowW d [] (fun f vs=>abu f vs):=by
 refine Att.attach_call hn p fun w z v mg O fa o N S L a vs ns G Y P Q U m t i c E=> ?_;have B:=I w _ Y;obtain⟨fd,H,r⟩:=FF w mg fa _ B G.T.g m;exact Bo B G.T.g G.T.b G.T.builtins G.T.nolimit E t i (Pp c j) C r H (J ns c)
theorem OC {P:PF} {w:Qc} {K:OK} {mg:Str->Option OW} {base:Heap} {x a:Str} {st:Sl} {f:Pc} {fd:QR} {N ps:List Str} {k n m:Nat} {g:FS} {FF:FN} (F:TY K x a st f fd) (S:Tg N ps (aK st)) (hn:ps.length=n) (hm:N.length=m) (c:FF=fV m g)
  (d:∀(b:OW) (A:PX) (outer:List Env) (s:Pa) (H:Hp) (E:XK),S5 k (A.deeper (Qu a (aK st) s.heap.objs.size f b))->
   ∃t,VS (nR gB P w K mg base N a (aK st) f b A outer s H E).Zl (cI st) t/\SO K E t g):FnOk P w K mg base gB (k+1) f fd ps (l4 K n FF):=by
 subst c hm;exact OI F S hn d
abbrev gH (P:PF) (w:Qc) (K:OK) (mg:Str->Option OW) (base:Heap) (k:Nat) (x:Str) (ps:List Str) (n:Nat) (F:FN):Prop:=AA P w K mg base k x ps (l4 K n F)
end L3
namespace L3
open PySem L2
abbrev nd (n:Nat):D:= .int (n:Int)
def qO (a:List Nat):List D:=a.map nd
theorem fA (a:List Nat):(qO a).length=a.length:=by unfold qO;rw[OX]
theorem eK {i:Nat} (h:(qO ns)[i]? =lD d):∃n,ns[i]? =lD n/\d=nd n:=by
 unfold qO at h;rw[Pg] at h;cases e:ns[i]? with
 |none=>rw[e] at h;cases h
 |some n=>rw[e] at h;exact⟨n,rfl,(PK h).symm⟩
theorem aN (a:α):Res.Qi (lD a)= .ok a:=rfl
theorem wO (a:α):mF (Res.ok a)= .ok a:=rfl
theorem xu (i:Nat) (ρ:aO):aa i ρ=AW ρ i ρ[i]? :=rfl
theorem D1 (ρ:aO) (i:Nat) (d:D):AW ρ i (lD (lD (.fz d)))= .ok (.fz d,ρ):=rfl
theorem C8 (ρ:aO) (i:Nat) (ds:List D):AW ρ i (lD (lD (.ow ds)))= .ok (.pl i,ρ):=rfl
theorem mP (ds:List D):EY (lD (lD (.ow ds)))=lD ds:=rfl
theorem Ba (i:Int):NO (.int i)=lD i:=rfl
theorem wV (b:Bool):NV (.bool b)=lD b:=rfl
theorem qH (ds:List D):fu [.list ds]=lD (.fz (nd ds.length)):=rfl
theorem Df (i j:Int):Lo (.int i) (.int j)=lD (.fz (.bool (decide (i<j)))):=rfl
theorem DB (i j:Int):J1 (.int i) (.int j)=lD (.fz (.bool (decide (j<i)))):=rfl
theorem Jb (i j:Int):LA (.int i) (.int j)=lD (.fz (.bool (decide (j<=i)))):=rfl
theorem uS (i j:Int):bZ (.int i) (.int j)=lD (.fz (.int (i+j))):=rfl
theorem ET (i j:Int):v7 (.int i) (.int j)=lD (.fz (.int (i - j))):=rfl
theorem bK (h:0<j):bC (.int i) (.int j)=lD (.fz (.int (i % j))):=by show(if Lc i j=Pb then _ else _)=_;rw[if_pos (show Lc i j=Pb from decide_eq_true h)]
theorem cS (h:0<j/\j<2^128):cG (.int i) (.int j)=lD (.fz (.int (i/j))):=by show(if JS i j=Pb then _ else _)=_;rw[if_pos (show JS i j=Pb from decide_eq_true h)]
theorem Hl (h: -(2^64)<i/\i<2^64):Bz (.int i) (.int j)=lD (.fz (.int (i*j))):=by show(if(gb i||gb j)=Pb then _ else _)=_;rw[if_pos (by rw[show gb i=Pb from decide_eq_true h,WT])]
theorem HH (h: -(2^64)<j/\j<2^64):Bz (.int i) (.int j)=lD (.fz (.int (i*j))):=by show(if(gb i||gb j)=Pb then _ else _)=_;rw[if_pos (by rw[show gb j=Pb from decide_eq_true h,Bool.or_true])]
theorem zI (h:i7 j):dZ [.int j]=lD (fF 0 j.toNat):=by show(if i7 j then _ else _)=_;rw[if_pos h]
theorem wg (n:Nat):fF 0 n=qO (P9 n):=by unfold fF qO;apply UQ;intro k _;rw[Int.zero_add]
theorem tI (h:n<=1000000):dZ [nd n]=lD (qO (P9 n)):=by rw[zI (by unfold i7;omega),wg,QK]
theorem CG (h:f ρ= .ok (.nx ρ1)):aE f g ρ=g ρ1:=by unfold aE;rw[h];rfl
theorem Jn (h:f ρ= .ok (.rt rv)):aE f g ρ= .ok (.rt rv):=by unfold aE;rw[h];rfl
theorem Lg (h:fi ρ= .ok (ds,ρ1)):fM fi gt b ρ=vB gt b ds ρ1:=by unfold fM;rw[h];rfl
theorem yk (h:j<=1000000/\i.natAbs<2^64):nY (.int i) (nd j)=lD (.fz (.int (i^j))):=by show(if Ex i (j:Int)=Pb then lD (RV.fz (.int (i^((j:Nat):Int).toNat))) else Ld)=_;rw[if_pos (by unfold Ex;exact decide_eq_true ⟨by omega,by omega,h.2⟩),QK]
theorem ED:nY (.int 10) (.int 18)=lD (.fz (.int (10^18))):=yk ⟨by decide,by decide⟩
def nG (gt:FG) (ft:FT) (fe:FE) (d:D) (ρ:aO):Res (Option D×aO):=(gt (.fz d) ρ).bind fun c=>(ft c).bind fun b=>if b.1=Pb then(fe b.2).bind fun a=>(Res.Qi (vL a.2 a.1)).bind fun x=> .ok (lD x.1,da x.2) else .ok (Ld,da b.2)
theorem xT (h:nG gt ft fe d ρ= .ok (o,ρ')) (f:acc.length<1000000):dX gt ft fe (d::r) ρ acc=dX gt ft fe r ρ' (acc++o.toList):=by
 unfold nG at h;show(gt (.fz d) ρ).bind _=_;cases q1:gt (.fz d) ρ with
 |er x=>rw[q1] at h;cases h
 |bad=>rw[q1] at h;cases h
 |ok e=>
  rw[q1,Res.bind_ok] at h;rw[Res.bind_ok];cases q2:ft e with
  |er x=>rw[q2] at h;cases h
  |bad=>rw[q2] at h;cases h
  |ok b=>
   obtain⟨b,c⟩:=b;rw[q2,Res.bind_ok] at h;rw[Res.bind_ok];cases b with
   |false=>rw[if_neg Pt] at h⊢;cases h;rw[Option.toList_none,PY]
   |true=>
    rw[if_pos rfl] at h⊢;cases q3:fe c with
    |er x=>rw[q3] at h;cases h
    |bad=>rw[q3] at h;cases h
    |ok a=>
     rw[q3,Res.bind_ok] at h;rw[Res.bind_ok];cases q4:vL a.2 a.1 with
     |none=>rw[q4] at h;cases h
     |some x=>rw[q4] at h;cases h;show(if acc.length<1000000 then _ else _)=_;rw[if_pos f];rfl
theorem iQ (a b:Int):kW (.int a) (.int b)=lD (.fz (.bool (decide (a=b)))):=by rfl
theorem Lh {i:Nat} (h:xs[i]? =lD v):kU xs (i:Int)=lD v:=zt h
theorem FZ (h:ds[i]? =lD d):dR (.list ds) (nd i)=lD (.fz d):=by show(kU ds (i:Int)).map RV.fz=_;rw[Lh h];rfl
section
variable {ρ ρ1 Z ρ3:aO} {fa fb fc fe:FE} {Y pb pv:PV} {dx dy d:D} {rv:RV} {ps:List PV} {ds:List D}
theorem ae (h:ρ[i]? =lD (lD (.fz d))):aa i ρ= .ok (.fz d,ρ):=by rw[xu,h,D1]
theorem eO (h:ρ[i]? =lD (lD (.ow ds))):aa i ρ= .ok (.pl i,ρ):=by rw[xu,h,C8]
theorem bI:pC d ρ= .ok (.fz d,ρ):=rfl
theorem bf (ha:fa ρ= .ok (Y,ρ1)) (hb:fb ρ1= .ok (pb,Z)) (b:sj Z (jb Y)=lD dx) (a:sj Z pb=lD dy) (c:f dx dy=lD rv):aH f fa fb ρ= .ok (rv.pv,Z):=by unfold aH;rw[ha,Res.bind_ok,hb,Res.bind_ok,b,aN,Res.bind_ok,a,aN,Res.bind_ok,c,aN,Res.bind_ok]
theorem Di (ha:fa ρ= .ok (Y,ρ1)) (a:sj ρ1 Y=lD dx) (b:f dx=lD rv):IY f fa ρ= .ok (rv.pv,ρ1):=by unfold IY;rw[ha,Res.bind_ok,a,aN,Res.bind_ok,b,aN,Res.bind_ok]
theorem bu (ha:fa ρ= .ok (Y,ρ1)) (a:sj ρ1 Y=lD (.bool b)):a9 fa ρ= .ok (b,ρ1):=by unfold a9;rw[ha,Res.bind_ok,a,aN,Res.bind_ok,wV,aN,Res.bind_ok]
theorem tZ (ha:f ρ= .ok (a,ρ1)) (hb:a=Pb->g ρ1= .ok (b,ρ1)):wT f g ρ= .ok (a&&b,ρ1):=by
 unfold wT;rw[ha,Res.bind_ok];cases a with
 |true=>rw[if_pos rfl,hb rfl,Sy]
 |false=>rw[if_neg Pt,Tw]
theorem mB (ha:f ρ= .ok (a,ρ1)) (hb:a=Ph->g ρ1= .ok (b,ρ1)):Cg f g ρ= .ok (a||b,ρ1):=by
 unfold Cg;rw[ha,Res.bind_ok];cases a with
 |true=>rw[if_pos rfl,WT]
 |false=>rw[if_neg Pt,hb rfl,aah]
theorem kl (ha:f ρ= .ok (a,ρ1)):tH f ρ= .ok (!a,ρ1):=by unfold tH;rw[ha,Res.bind_ok]
theorem oC (ha:a9 fa ρ= .ok (a,ρ1)) (hb:a=Pb->fb ρ1= .ok (.fz (.bool b),ρ1)):yI fa fb ρ= .ok (.fz (.bool (a&&b)),ρ1):=by
 unfold yI;rw[ha,Res.bind_ok];cases a with
 |true=>rw[if_pos rfl,hb rfl,Sy]
 |false=>rw[if_neg Pt,Tw]
theorem aC:au ρ= .ok ([],ρ):=rfl
theorem aj (ha:fa ρ= .ok (Y,ρ1)) (a:fr ρ1= .ok (ps,Z)):af fa fr ρ= .ok (jb Y::ps,Z):=by unfold af;rw[ha,Res.bind_ok,a,Res.bind_ok]
theorem cX (ha:fr ρ= .ok (ps,ρ1)) (b:tP ρ1 ps=lD ds) (a:f ds=lD rv):jn f fr ρ= .ok (rv.pv,ρ1):=by unfold jn;rw[ha,Res.bind_ok,b,aN,Res.bind_ok,a,aN,Res.bind_ok]
theorem cH (ha:fr ρ= .ok (ps,ρ1)) (a:o0 ρ1 ps=lD (ds,Z)) (hn:ds.length=n) (b:F ds= .ok rv):cr F n fr ρ= .ok (rv.pv,Z):=by unfold cr;rw[ha,Res.bind_ok,a,aN,Res.bind_ok];dsimp only;rw[if_pos hn,b,wO,Res.bind_ok]
theorem dU (ha:fr ρ= .ok (ps,ρ1)) (a:o0 ρ1 ps=lD (ds,Z)) (hn:ds.length<=1000):bV fr ρ= .ok (.fz (.tuple ds),Z):=by unfold bV;rw[ha,Res.bind_ok,a,aN,Res.bind_ok];dsimp only;rw[if_pos hn]
theorem yL (ha:fr ρ= .ok (ps,ρ1)) (a:o0 ρ1 ps=lD (ds,Z)) (hn:ds.length<=1000):eX fr ρ= .ok (.ow ds,Z):=by unfold eX;rw[ha,Res.bind_ok,a,aN,Res.bind_ok];dsimp only;rw[if_pos hn]
theorem uY (ha:fa ρ= .ok (Y,ρ1)) (a:sj ρ1 Y=lD dx) (b:DW dx=lD t):uO n fa ρ= .ok (.fz (.bool (G6 n t)),ρ1):=by unfold uO;rw[ha,Res.bind_ok,a,aN,Res.bind_ok,b,aN,Res.bind_ok]
theorem ei:jV ρ= .ok (Ld,ρ):=rfl
theorem cN (ha:fa ρ= .ok (Y,ρ1)) (a:sj ρ1 Y=lD (.int i)):dW fa ρ= .ok (lD i,ρ1):=by unfold dW;rw[ha,Res.bind_ok,a,aN,Res.bind_ok,Ba,aN,Res.bind_ok]
theorem jS (ha:fa ρ= .ok (Y,ρ1)) (b:fl ρ1= .ok (lo,Z)) (c:fh Z= .ok (hi,ρ3)) (a:sj ρ3 (jb Y)=lD dx) (e:f dx lo hi=lD rv):xj f fa fl fh ρ= .ok (rv.pv,ρ3):=by unfold xj;rw[ha,Res.bind_ok,b,Res.bind_ok,c,Res.bind_ok,a,aN,Res.bind_ok,e,aN,Res.bind_ok]
theorem hV (h0:ρ[i]? =lD (lD (.ow es))) (ha:fe ρ= .ok (Y,ρ1)) (b:vL ρ1 Y=lD (d,Z)) (h1:Z[i]? =lD (lD (.ow ds))) (c:ds.length<1000000) (a:Z.set i (lD (.ow (ds++[d])))=x):iE i fe ρ= .ok (.fz .none,x):=by unfold iE;rw[h0,mP,aN,Res.bind_ok,ha,Res.bind_ok,b,aN,Res.bind_ok];dsimp only;rw[h1,mP,aN,Res.bind_ok,if_pos c,a]
theorem lI (hi:fi ρ= .ok (ds,ρ1)) (b:se ρ1 fv=lD (cs,Z)) (a:mF (dX gt ft fe ds (Pe n Ld++cs.map fun d=>lD (.fz d)) [])= .ok xs):jp n fv fi gt ft fe ρ= .ok (.ow xs,Z):=by unfold jp;rw[hi,Res.bind_ok];dsimp only;rw[b,aN,Res.bind_ok];dsimp only;rw[a,Res.bind_ok]
theorem J7:dR (.list (a::r)) (.int 0)=lD (.fz a):=FZ rfl
theorem gK (ha:fe ρ= .ok (Y,ρ1)) (a:vL ρ1 Y=lD (d,Z)) (hs:gz d=lD es):iK fe ρ= .ok (es,Z):=by unfold iK;rw[ha,Res.bind_ok,a,aN,Res.bind_ok];dsimp only;rw[hs,aN,Res.bind_ok]
theorem lS (ha:fr ρ= .ok (ps,ρ1)) (b:tP ρ1 ps=lD ds) (a:f ds=lD es):g8 f fr ρ= .ok (es,ρ1):=by unfold g8;rw[ha,Res.bind_ok,b,aN,Res.bind_ok,a,aN,Res.bind_ok]
theorem sV (b:fe ρ= .ok (pv,ρ1)) (a:g pv ρ1= .ok Z) (hn:Z=ρ3):aZ fe g ρ= .ok (.nx ρ3):=by unfold aZ;rw[b,Res.bind_ok];dsimp only;rw[a,Res.bind_ok,hn]
theorem ub (a:fe ρ= .ok (pv,ρ1)):dE fe ρ= .ok (.nx ρ1):=by unfold dE;rw[a,Res.bind_ok]
theorem ya (b:fe ρ= .ok (pv,ρ1)) (a:B3 ρ1 pv=lD rv):dc fe ρ= .ok (.rt rv):=by unfold dc;rw[b,Res.bind_ok];dsimp only;rw[a,aN,Res.bind_ok]
theorem GB (c:gt (.fz d) ρ= .ok ρ1) (b:ft ρ1= .ok (Pb,Z)) (f:fe Z= .ok (pv,ρ3)) (a:vL ρ3 pv=lD (x,ρ4)) (e:da ρ4=ρ5):nG gt ft fe d ρ= .ok (lD x,ρ5):=by unfold nG;rw[c,Res.bind_ok,b,Res.bind_ok,if_pos rfl,f,Res.bind_ok,a,aN,Res.bind_ok,e]
end
end L3
namespace PySem
open Sem (wp)
open Builtin
open AutoSeq1 (wpAny_loadPart')
theorem mY:fillsNumberSlot (.type "tuple") "mul"=pure Ph:=
 fillsNumberSlot_seq F.slot_tuple_mul.lookup (by decide+kernel) F.slot_tuple_rmul.lookup (by decide+kernel)
theorem sT:seqRepeat? (.type "tuple")=pure (lD (.builtin "tuple.__mul__")):=by unfold seqRepeat?;rw[seqSlot_of (name:= "__mul__") F.slot_tuple_mul.lookup (by decide+kernel),seqSlot_of (name:= "__rmul__") F.slot_tuple_rmul.lookup (by decide+kernel)];rfl
theorem qG (a:Int) (t:Tok) (l:Pc) (items:Array OW) (n:Nat) (R9:Option Pc) (c:Array (Option OW)):
  Meets (Builtin.«int.__rmul__» ⟨[.int a t,.ref l],[]⟩) (fun _ R s=>s.heap.get? l=lD {cls:= .type "tuple",dict:=R9,data:= .seq items n,slots:=c}/\R (.ok (.ret OW.notImplemented)) s):=
 .of_wp fun b w A R s h=>by obtain⟨i,g,d,e,f⟩:=s;obtain⟨j,h⟩:=h;wp_walk;exact⟨_,rfl,h⟩
theorem vg (l:Pc) (items:Array OW) (n:Nat) (R9:Option Pc) (b:Array (Option OW)) (u:Tok):
  Meets (Builtin.«tuple.__mul__» ⟨[.ref l,.int 1 u],[]⟩) (fun _ R s=>s.heap.get? l=lD {cls:= .type "tuple",dict:=R9,data:= .seq items n,slots:=b}/\R (.ok (.ret (OW.ref l))) s):=
 .of_wp fun a w A R s h=>by
  obtain⟨f,g,d,c,e⟩:=s;obtain⟨i,h⟩:=h
  wp_walk
  exact⟨_,rfl,h⟩
theorem vH (l:Pc) (items:Array OW) (n:Nat) (R9:Option Pc) (f:Array (Option OW)) (x:Int) (u:Tok) (h1:2<=x) (p:x<=1000) (e:items.isEmpty=Ph) (hz:items.size<=1000):
  Meets (Builtin.«tuple.__mul__» ⟨[.ref l,.int x u],[]⟩) (fun _ R s=>s.heap.get? l=lD {cls:= .type "tuple",dict:=R9,data:= .seq items n,slots:=f}/\R (.ok (.ret (OW.ref s.heap.objs.size))) {s with heap:=s.heap.push {cls:=OW.type "tuple",data:=Data.seq (Uj (fun x1 x2=>x1++x2) #[] (Pe x.toNat items))},toks:=s.toks}):=
 .of_wp fun a w A R s h=>by
  obtain⟨F,g,d,C,E⟩:=s;obtain⟨o,h⟩:=h;have B:¬(decide (x< -(2^63))||decide (x≥2^63))=Pb:=by simp;omega
  have z:(x==1)=Ph:=by simp;omega
  have v:decide (x<=0)=Ph:=by simp;omega
  have I:(items.isEmpty||x==1)=Ph:=by rw[e,z];rfl
  have H:(decide (x<=0)||items.isEmpty)=Ph:=by rw[e,v];rfl
  have c:(items.size:Int)*x<=1000000:=by have:(items.size:Int)*x<=1000*1000:=Int.mul_le_mul (by omega) p (by omega) (by omega);omega
  have t:¬(items.size:Int)*x>(2^63 - 1)/8:=by omega
  have r:¬Tuple.tupleTooMany ((items.size:Int)*x)=Pb:=by
   unfold Tuple.tupleTooMany;simp;have:(Po:Nat)=16777216:=by decide
   omega
  wp_walk
  rw[if_neg B]
  wp_walk using wpAny_loadPart' o
  rw[if_neg t];dsimp only;rw[if_neg r];have j:(Uj (fun x1 x2=>x1++x2) #[] (Pe x.toNat items)).size<=Po:=by
   have q:∀(m:Nat) (b:Array OW),(Uj (fun x1 x2=>x1++x2) b (Pe m items)).size=b.size+m*items.size:=by
    intro m
    induction m with
    |zero=>intro b;simp
    |succ m i=>intro b;rw[Qp,Ur,i,Array.size_append,abt];omega
   rw[q];have G:x.toNat*items.size<=1000*1000:=TF (by omega) hz;have:(Po:Nat)=16777216:=by decide
   simp;omega
  wp_walk
  exact⟨_,rfl,h⟩
end PySem
namespace L3
open PySem PySem.Spec PyProof.Rows L2
def Ig (K:OK):R2:=fun x y H Q=>∃(a:Pc) (k:Nat) (xs:List V),x= .ref a/\y= .int (k:Int)/\TX K H a xs/\xs≠[]/\1<=k/\k<=1000/\xs.length<=1000/\
 (k=1->Q (.ref a) H)/\(2<=k->∀p,H p=Ld->Q (.ref p) (upd H p (.tup (Pe k xs).flatten)))
theorem Gc:OpR X (Ri .Mult) (Ig X.K):=by
 intro f s P H x y v u Q I z w h;obtain⟨a,k,xs,rfl,rfl,C,O,h1,L,G,B,A⟩:=h;cases z;obtain⟨t,rfl⟩:=w;obtain⟨d,r,E,T⟩:=I.tuple C;obtain⟨⟨N,dd,l,e⟩,c,j,n,i⟩:=id E;simp only at j i;subst j i;have g:=r.length;refine Xm (by decide) ⟨_,c,rfl⟩ (fun p=>T1 p k t) mY F.fills_int_mul F.slot_int_rmul sT F.slot_int_index.lookup
  (S0 F.slot_int_rmul (T1 s k t) F.entry_int_rmul (F.args_int_rmul_2 _ _) (qG k t a d.toArray n dd e) ⟨c,rfl,⟨_,c,rfl⟩,?_⟩)
 by_cases J:k=1
 .subst J;exact S0 F.slot_tuple_mul ⟨_,c,rfl⟩ F.entry_tuple_mul (F.args_tuple_mul_2 _ _) (vg a d.toArray n dd e t) ⟨c,⟨.ref a,H,I,rfl,B rfl⟩⟩
 .refine S0 F.slot_tuple_mul ⟨_,c,rfl⟩ F.entry_tuple_mul (F.args_tuple_mul_2 _ _) (vH a d.toArray n dd e k t (by omega) (by omega) ?_ (by rw[Pm];omega)) ⟨c,?_⟩
  .cases d with
   |nil=>cases r;exact absurd rfl O
   |cons y ys=>rfl
  .have M:Uj (fun o m=>o++m) #[] (Pe ((k:Nat):Int).toNat d.toArray)=(Pe k d).flatten.toArray:=by
    have:=mM d k [];rw[Us] at this;rw[QK];exact this
   rw[M];refine⟨.ref s.heap.objs.size,_,I.laid (fun b S q=>Heap.get?_push_of_some _ q) (O8 _) ?_,rfl,A (by omega) _ (I.Ro.fresh (O8 _))⟩;refine⟨?_,_,r.rep k,Vf.new _ _⟩;rw[AM];exact Pp (TF L G) (by decide)
def HZ (K:OK):R2:=fun x y H Q=>E1 K x y H Q\/Ig K x y H Q
theorem HQ:OpR X (Ri .Mult) (HZ X.K):=OpR.or Gu Gc
def fO:D->D->Option RV
 | .tuple xs,.int k=>if xs≠[]/\1<=k/\k<=1000/\xs.length<=1000 then lD (.fz (.tuple (Pe k.toNat xs).flatten)) else Ld
 |d,e=>Bz d e
theorem Du {K:OK}:kG K (HZ K) fO:=by
 intro O H x y dx h rv Q n d c e q;unfold fO at e;split at e
 .rename_i ds k
  split at e
  .rename_i f
   cases e;cases c;obtain⟨a,xs,rfl,h1,b⟩:=xl d;obtain⟨m,rfl⟩:∃m:Nat,k=(m:Int):=⟨k.toNat,by omega⟩;rw[QK] at q;refine .inr ⟨a,m,xs,rfl,rfl,h1.1,fun z=>f.1 (b.ne.mp z),by omega,by omega,by rw[b.length];exact f.2.2.2,fun e=> ?_,fun _=>Fin.Xe (b.flat m) n q⟩;subst e;have g:(Pe 1 ds).flatten=ds:=by simp
   rw[g] at q;exact q.at (.tup h1 b)
  .cases e
 .exact .inl (Hr O H x y dx h rv Q n d c e q)
theorem wZ (i j:Int):fO (.int i) (.int j)=Bz (.int i) (.int j):=rfl
theorem gs (h: -(2^64)<i/\i<2^64):fO (.int i) (.int j)=lD (.fz (.int (i*j))):=(wZ i j).trans (Hl h)
theorem xa (h: -(2^64)<j/\j<2^64):fO (.int i) (.int j)=lD (.fz (.int (i*j))):=(wZ i j).trans (HH h)
end L3
namespace PySem
open Sem (wp)
open Builtin Builtin.Str
end PySem
namespace L3
open PySem PySem.Spec PyProof.Rows L2
def BE:Qn->Bool
 | .Starred _ _=>Pb
 |_=>Ph
theorem BF (e:Qn) (a:List Qn) (env:Env) (h:BE e=Ph):Qy (e::a) env=(Ph,eval e env)::Qy a env:=by cases e<;>first|rfl|cases h
theorem Nb (ha:PE X e te) (a:PA X es t) (hs:BE e=Ph:=by rfl):PA X (e::es) (gQ te t):=az ha a (BF e es X.env hs)
section
variable {K:OK} {E:XK} {B O O':bF} {H0 H H':Hp} {σ:L2.St} {ρ ρ':aO} {v:V}
def rF (d e:D):Option RV:=match d,e with
 | .str z,.int i=>if z.length<=1000000 then(kU z.cps.toList i).map fun c=> .fz (.str ⟨#[c]⟩) else Ld
 |_,_=>Ld
theorem A6:kG K (No K) rF:=by
 intro O H x y dx f rv Q n b a e q;unfold rF at e;split at e
 .split at e
  .rename_i z i d
   cases qa:kU z.cps.toList i with
   |none=>rw[qa] at e;cases e
   |some c=>rw[qa] at e;cases e;cases b;cases a;exact .inr (.inr ⟨z,i,c,rfl,rfl,rA d,qa,q.at (.str _)⟩)
  .cases e
 .cases e
end
end L3
namespace L3
open PySem L2
def Oo (N C:aO->Prop) (T:RV->Prop):Res Fl->Prop
 | .ok (.nx ρ)=>N ρ
 | .ok (.ct ρ)=>C ρ
 | .ok (.rt v)=>T v
 |_=>False
structure Go (r:Res Fl) (N C:aO->Prop) (T:RV->Prop):Prop where
 out:Oo N C T r
section
variable {ρ ρ1 Z ρ3:aO} {f g:FS} {fe:FE} {pv:PV} {d:D} {rv:RV} {ds:List D} {N C:aO->Prop} {T:RV->Prop}
theorem Go.eq (e:r=r') (h:Go r' N C T):Go r N C T:=by rw[e];exact h
theorem Go.imp (h:Go r N C T) (b:∀ρ,N ρ->N' ρ) (c:∀ρ,C ρ->C' ρ) (a:∀v,T v->T' v):Go r N' C' T':=by
 refine⟨?_⟩;have h:=h.out;cases r with
 |bad=>exact h
 |er x=>exact h
 |ok e=>
  cases e with
  |nx r=>exact b _ h
  |ct r=>exact c _ h
  |rt v=>exact a _ h
  |bk r=>exact h
theorem uM (h:Go (f ρ) (fun r=>Go (g r) N C T) C T):Go (aE f g ρ) N C T:=by
 refine⟨?_⟩;have h:=h.out;unfold aE;cases q:f ρ with
 |bad=>rw[q] at h;exact h.elim
 |er x=>rw[q] at h;exact h.elim
 |ok a=>
  rw[q] at h;cases a with
  |nx r=>exact(show Go (g r) N C T from h).out
  |ct r=>exact h
  |rt v=>exact h
  |bk r=>exact h.elim
theorem nv (h:c ρ= .ok (b,ρ1)) (a:b=Pb->Go (f ρ1) N C T) (e:b=Ph->Go (g ρ1) N C T):Go (lV c f g ρ) N C T:=by
 unfold lV;rw[h,Res.bind_ok];cases b with
 |true=>exact a rfl
 |false=>exact e rfl
theorem yd (b:fe ρ= .ok (pv,ρ1)) (a:gt pv ρ1= .ok Z) (h:N Z):Go (aZ fe gt ρ) N C T:= .eq (sV b a rfl) ⟨h⟩
theorem fZ (a:fe ρ= .ok (pv,ρ1)) (h:N ρ1):Go (dE fe ρ) N C T:= .eq (ub a) ⟨h⟩
theorem cL (b:fe ρ= .ok (pv,ρ1)) (a:B3 ρ1 pv=lD rv) (h:T rv):Go (dc fe ρ) N C T:= .eq (ya b a) ⟨h⟩
theorem jh (h:N ρ):Go (cT ρ) N C T:=⟨h⟩
theorem Am (I:Nat->aO->Prop):∀(ds:List D) (k:Nat) (ρ:aO),I k ρ->(∀i d ρ,ds[i]? =lD d->I (k+i) ρ->∃ρ1,gt (.fz d) ρ= .ok ρ1/\Go (b ρ1) (I (k+i+1)) (I (k+i+1)) T)->Go (vB gt b ds ρ) (I (k+ds.length)) C T
 |[],k,ρ,h0,_=>⟨h0⟩
 |d::r,k,ρ,h0,hs=>by
  obtain⟨ρ1,h1,a⟩:=hs 0 d ρ rfl h0;have a:=a.out;have j:∀c,I (k+1) c->Go (vB gt b r c) (I (k+(r.length+1))) C T:=fun c h=>by
   have e:k+(r.length+1)=k+1+r.length:=by omega
   rw[e];refine Am I r (k+1) c h fun i o l hi m=> ?_;have e:k+1+i=k+(i+1):=by omega
   rw[e] at m⊢;exact hs (i+1) o l (by simpa using hi) m
  refine⟨?_⟩;show Oo _ _ _ ((gt (.fz d) ρ).bind _);rw[h1,Res.bind_ok];cases q:b ρ1 with
  |bad=>rw[q] at a;exact a.elim
  |er x=>rw[q] at a;exact a.elim
  |ok n=>
   rw[q] at a;cases n with
   |nx r=>exact(j _ a).out
   |ct r=>exact(j _ a).out
   |rt v=>exact a
   |bk r=>exact a.elim
theorem yl (I:Nat->aO->Prop) (hi:fi ρ= .ok (ds,ρ1)) (h0:I 0 ρ1) (hs:∀i d ρ,ds[i]? =lD d->I i ρ->∃ρ1,gt (.fz d) ρ= .ok ρ1/\Go (b ρ1) (I (i+1)) (I (i+1)) T) (a:∀ρ',I ds.length ρ'->N ρ'):Go (fM fi gt b ρ) N C T:=by have:=Am (C:=C) I ds 0 ρ1 h0 (by simpa using hs);rw[Ts] at this;exact .eq (Lg hi) (this.imp a (fun _ h=>h) fun _ h=>h)
theorem g7 (a:ds.map (fun d=>lD (.fz d))++Pe (n - ds.length) Ld=ρ) (h:Go (g ρ) (fun _=>T (.fz .none)) (fun _=>False) T):∃rv,fV n g ds= .ok rv/\T rv:=by
 have h:=h.out;unfold fV;rw[a];cases q:g ρ with
 |bad=>rw[q] at h;exact h.elim
 |er x=>rw[q] at h;exact h.elim
 |ok b=>
  rw[q] at h;cases b with
  |nx r=>exact⟨_,rfl,h⟩
  |ct r=>exact h.elim
  |rt v=>exact⟨_,rfl,h⟩
  |bk r=>exact h.elim
theorem jl (a:ds.map (fun d=>lD (.fz d))++Pe (n - ds.length) Ld=ρ) (h:Go (g ρ) (fun _=>RV.fz .none=v) (fun _=>False) (fun r=>r=v)):fV n g ds= .ok v:=by obtain⟨rv,h1,b⟩:=g7 (T:=fun r=>r=v) a h;rw[h1,b]
theorem a5 (b:fe ρ= .ok (pv,ρ1)) (a:gt pv ρ1= .ok Z) (hn:Z=ρ3) (h:Go (g ρ3) N C T):Go (aE (aZ fe gt) g ρ) N C T:= .eq (CG (sV b a hn)) h
theorem yQ (b:fe ρ= .ok (pv,ρ1)) (a:gt pv ρ1= .ok Z) (hn:Z=ρ3) (h:N ρ3):Go (aZ fe gt ρ) N C T:= .eq (sV b a hn) ⟨h⟩
theorem uP (a:fe ρ= .ok (pv,ρ1)) (h:Go (g ρ1) N C T):Go (aE (dE fe) g ρ) N C T:= .eq (CG (ub a)) h
theorem pV (b:fe ρ= .ok (pv,ρ1)) (a:B3 ρ1 pv=lD rv) (h:T rv):Go (aE (dc fe) g ρ) N C T:= .eq (Jn (ya b a)) ⟨h⟩
theorem dB (h:Go (g ρ) N C T):Go (aE cT g ρ) N C T:= .eq rfl h
theorem Bb:aE (aE f1 f2) g ρ=aE f1 (aE f2 g) ρ:=by
 unfold aE;cases f1 ρ with
 |bad=>rfl
 |er x=>rfl
 |ok a=>cases a<;>rfl
theorem DU (h:Go (aE f1 (aE f2 g) ρ) N C T):Go (aE (aE f1 f2) g ρ) N C T:= .eq Bb h
theorem kw (i:c ρ= .ok (b,ρ1)) (a:b=Pb->Go (aE f1 g ρ1) N C T) (h:b=Ph->Go (aE f2 g ρ1) N C T):Go (aE (lV c f1 f2) g ρ) N C T:=by
 have e:aE (lV c f1 f2) g ρ=if b=Pb then aE f1 g ρ1 else aE f2 g ρ1:=by unfold aE lV;rw[i,Res.bind_ok];cases b<;>rfl
 refine .eq e ?_;cases b with
 |true=>exact a rfl
 |false=>exact h rfl
theorem eU (I:Nat->aO->Prop) (hi:fi ρ= .ok (ds,ρ1)) (h0:I 0 ρ1) (hs:∀i d ρ,ds[i]? =lD d->I i ρ->∃ρ1,gt (.fz d) ρ= .ok ρ1/\Go (b ρ1) (I (i+1)) (I (i+1)) T) (a:∀ρ',I ds.length ρ'->Go (g ρ') N C T):Go (aE (fM fi gt b) g ρ) N C T:=
 uM (yl I hi h0 hs a)
theorem si (I:aO->Prop) (P:Nat->D->Prop):∀(ds:List D) (k:Nat) (ρ:aO) (a:List D),I ρ->a.length+ds.length<=1000000->(∀i d,ds[i]? =lD d->∀ρ,I ρ->∃x ρ',nG gt ft fe d ρ= .ok (lD x,ρ')/\I ρ'/\P (k+i) x)->
  ∃xs,dX gt ft fe ds ρ a= .ok (a++xs)/\xs.length=ds.length/\∀i x,xs[i]? =lD x->P (k+i) x
 |[],k,ρ,a,_,_,_=>⟨[],by show Res.ok a=_;simp,rfl,fun i x h=>by simp at h⟩
 |d::r,k,ρ,a,h0,hl,hs=>by
  obtain⟨x,ρ',h1,m,l⟩:=hs 0 d rfl ρ h0;rw[Pf] at hl;obtain⟨xs,p,o,n⟩:=si I P r (k+1) ρ' (a++[x]) m (by rw[OZ];simp;omega) fun i q hi b j=>by
   have e:k+1+i=k+(i+1):=by omega
   rw[e];exact hs (i+1) q (by simpa using hi) b j
  refine⟨x::xs,?_,by rw[Pf,o,Pf],fun i y c=> ?_⟩
  .rw[xT h1 (by omega)];show dX gt ft fe r ρ' (a++[x])=_;rw[p,PR];rfl
  .cases i with
   |zero=>cases(show lD x=lD y from c);exact l
   |succ i=>
    have e:k+(i+1)=k+1+i:=by omega
    rw[e];exact n i y (by simpa using c)
theorem EG (I:aO->Prop) (P:Nat->D->Prop) (h0:I ρ) (a:ds.length<=1000000) (hs:∀i d,ds[i]? =lD d->∀ρ,I ρ->∃x ρ',nG gt ft fe d ρ= .ok (lD x,ρ')/\I ρ'/\P i x):
  ∃xs,mF (dX gt ft fe ds ρ [])= .ok xs/\xs.length=ds.length/\∀i x,xs[i]? =lD x->P i x:=by
 obtain⟨xs,e,c,b⟩:=si I P ds 0 ρ [] h0 (by simpa using a) (by simpa using hs);exact⟨xs,by rw[e];rfl,c,by simpa using b⟩
theorem tQ {α:Type} {xs:List α} {i:Int} {v:α} (h0:0<=i) (h:xs[i.toNat]? =lD v):kU xs i=lD v:=Dx h0 h
theorem MN (h0:0<=i) (h:ds[i.toNat]? =lD d):dR (.tuple ds) (.int i)=lD (.fz d):=by show(kU ds i).map RV.fz=_;rw[tQ h0 h];rfl
theorem Od (h0:0<=i) (h:ds[i.toNat]? =lD d):dR (.list ds) (.int i)=lD (.fz d):=by show(kU ds i).map RV.fz=_;rw[tQ h0 h];rfl
theorem jR (h0:0<=n) (h:n<=1000000):dZ [.int n]=lD (qO (P9 n.toNat)):=by rw[zI (by unfold i7;omega),wg]
theorem NT:nY (.int 10) (.int 8)=lD (.fz (.int (10^8))):=yk ⟨by decide,by decide⟩
theorem LR:nY (.int 10) (.int 24)=lD (.fz (.int (10^24))):=yk ⟨by decide,by decide⟩
theorem df {f:D->D->Option RV} (ha:fa ρ= .ok (pa,ρ1)) (hb:fb ρ1= .ok (pb,Z)) (c:sj Z (jb pa)=lD dx) (a:sj Z pb=lD dy) (e:f dx dy=lD (.fz (.bool b))):aH f fa fb ρ= .ok (.fz (.bool b),Z):=bf ha hb c a e
theorem Cp {f:List D->Option RV} (ha:fr ρ= .ok (ps,ρ1)) (c:tP ρ1 ps=lD ds) (a:f ds=lD (.fz (.bool b))):jn f fr ρ= .ok (.fz (.bool b),ρ1):=cX ha c a
theorem i8 (ha:fr ρ= .ok (ps,ρ1)) (a:o0 ρ1 ps=lD (ds,Z)) (hn:ds.length=n) (c:F ds= .ok (.fz (.bool b))):cr F n fr ρ= .ok (.fz (.bool b),Z):=cH ha a hn c
end
end L3
namespace L3
open PySem PySem.Spec PyProof.Rows L2 PySem.Builtin PySem.Builtin.Str
section
variable {K:OK} {E:XK} {B O O':bF} {H0 H H':Hp} {σ:L2.St} {ρ ρ':aO} {v:V}
def Bu:D->D->Option RV
 | .str i,.str j=>if i.length+j.length<=1000000 then lD (.fz (.str (i++j))) else Ld
 |_,_=>Ld
theorem ES:kG K (fun x y H Q=>∃i j,x= .str i/\y= .str j/\i.length+j.length<=Po/\Q (.str (i++j)) H) Bu:=by
 intro O H x y dx d rv Q n b a e q;unfold Bu at e;split at e
 .split at e
  .rename_i c;cases e;cases b;cases a;exact⟨_,_,rfl,rfl,rA c,q.at (.str _)⟩
  .cases e
 .cases e
end
end L3
namespace PySem
open Sem (wp)
open AutoSeq1 (wpAny_loadPart')
open Builtin Builtin.Str
end PySem
namespace PySem
open Sem (wp)
open Builtin Builtin.Str
end PySem
namespace L3
open PySem PySem.Spec PyProof.Rows L2 PySem.Builtin
end L3
namespace L3
open PySem L2
end L3
namespace L2
open PySem PySem.Spec PyProof.Rows
end L2
namespace L3
open PySem PySem.Spec L2
end L3
namespace L2
open PySem PySem.Spec PyProof.Rows
section
variable {κ:Type} [DecidableEq κ]
def jW (kvs:List (κ×V)) (k:κ):Option V:=(kvs.find? fun a=>decide (a.1=k)).map (·.2)
def iB (kvs:List (κ×V)) (k:κ) (v:V):List (κ×V):=
 if(kvs.any fun a=>decide (a.1=k))=Pb then kvs.map (fun a=>if a.1=k then(a.1,v) else a) else kvs++[(k,v)]
theorem p9 {k:κ} (e:p.1=k):jW (p::r) k=lD p.2:=by simp[jW,PL,e]
theorem pR {k:κ} (e:¬p.1=k):jW (p::r) k=jW r k:=by simp[jW,PL,e]
theorem wa (k:κ):∀kvs:List (κ×V),(kvs.any fun kv=>decide (kv.1=k))=(jW kvs k).isSome
 |[]=>rfl
 |p::r=>by
  rw[S9];by_cases e:p.1=k
  .simp only[p9 e,decide_eq_true e,WT,Xl]
  .rw[pR e,decide_eq_false e,aah];exact wa k r
theorem jF (kvs:List (κ×V)) (k:κ) (v:V):(iB kvs k v).length<=kvs.length+1:=by
 unfold iB;split
 .rw[OX];omega
 .rw[OZ,Pf,Q0];omega
theorem UE.Th (r:UE o u):o.isSome=u.isSome:=by
 cases o with
 |none=>cases u with
  |none=>rfl
  |some _=>exact(show False from r).elim
 |some _=>cases u with
  |none=>exact(show False from r).elim
  |some _=>rfl
theorem UE.getD (r:UE o u) (a:RelV d d'):RelV (o.getD d) (u.getD d'):=by
 cases o with
 |none=>cases u with
  |none=>exact a
  |some _=>exact(show False from r).elim
 |some _=>cases u with
  |none=>exact(show False from r).elim
  |some _=>exact r
theorem KV.val {kvs:List (κ×V)} {vs:List (κ×OW)} (r:KV kvs vs) (k:κ):UE (jW kvs k) (valueAt vs k):=by
 unfold KV at r
 induction r with
 |nil=>exact True.intro
 | @cons p q ps qs h t ih=>
  obtain⟨h1,c⟩:=h;by_cases e:p.1=k
  .have a:q.1=k:=h1.symm.trans e
   have b:valueAt (q::qs) k=lD q.2:=by simp[valueAt,PL,a]
   rw[p9 e,b];exact c
  .have a:¬q.1=k:=fun z=>e (h1.trans z)
   have b:valueAt (q::qs) k=valueAt qs k:=by simp[valueAt,PL,a]
   rw[pR e,b];exact ih
theorem KV.any (r:KV kvs vs) (k:κ):(kvs.any fun kv=>decide (kv.1=k))=vs.any fun kv=>decide (kv.1=k):=by
 unfold KV at r
 induction r with
 |nil=>rfl
 |cons h t a=>rw[S9,S9,a,h.1]
theorem KV.aaF (r:KV kvs vs) (k:κ) (a:RelV y u):
  KV (kvs.map fun kv=>if kv.1=k then(kv.1,y) else kv) (vs.map fun kv=>if kv.1=k then(kv.1,u) else kv):=by
 unfold KV at r⊢
 induction r with
 |nil=>exact .nil
 | @cons p q ps qs h t ih=>
  rw[Pd,Pd];refine .cons ?_ ih;obtain⟨h1,b⟩:=h;by_cases e:p.1=k
  .rw[if_pos e,if_pos (h1.symm.trans e)];exact⟨h1,a⟩
  .rw[if_neg e,if_neg (fun z=>e (h1.trans z))];exact⟨h1,b⟩
theorem KV.put (r:KV kvs vs) (k:κ) (a:RelV y u):KV (iB kvs k y) (stored vs k u):=by
 unfold iB stored;rw[r.any k];by_cases e:(vs.any fun b=>decide (b.1=k))=Pb
 .rw[if_pos e,if_pos e];exact r.aaF k a
 .rw[if_neg e,if_neg e];exact Paired.snoc r ⟨rfl,a⟩
theorem KV.length (r:KV kvs vs):kvs.length=vs.length:=Paired.length r
end
theorem pY (r:RelV (kV k) u):(cK P w).is k u=Pb:=by
 cases k with
 |inl i=>obtain⟨t,e⟩:=(show∃t,u=OW.int i t from r);subst e;exact wq P w i t
 |inr x=>obtain⟨t,e⟩:=(show∃t,u=OW.str x t from r);subst e;exact vo P w x t
theorem rM:∀{ks:List bT} {a:List OW},Vals (ks.map kV) a->ItemsAre (cK P w) ks a
 |[],_,r=>by rw[Qe] at r;cases r;exact .nil
 |k::ks,_,r=>by
  rw[Pd] at r;cases r with
  |cons h t=>exact .cons (pY h) (rM t)
abbrev KT (H:Hp):List (List bT×V)->List (List bT×Pc×OW)->Prop:=Paired fun p q=>p.1=q.1/\H q.2.1=lD (.tup (p.1.map kV))/\RelV p.2 q.2.2
theorem KT.val (r:KT H kvs xs) (k:List bT):UE (jW kvs k) ((atKey xs k).map (·.2)):=by
 induction r with
 |nil=>exact True.intro
 | @cons p q ps qs h t ih=>
  obtain⟨h1,_,c⟩:=h;by_cases e:p.1=k
  .have a:=h1.symm.trans e
   have b:atKey (q::qs) k=lD q.2:=by simp[atKey,PL,a]
   rw[p9 e,b];exact c
  .have a:¬q.1=k:=fun z=>e (h1.trans z)
   have b:atKey (q::qs) k=atKey qs k:=by simp[atKey,PL,a]
   rw[pR e,b];exact ih
theorem KT.aaF (r:KT H kvs xs) (k:List bT) (b:RelV y u):
  KT H (kvs.map fun kv=>if kv.1=k then(kv.1,y) else kv) (xs.map (putAt k u)):=by
 induction r with
 |nil=>exact .nil
 | @cons p q ps qs h t ih=>
  rw[Pd,Pd];refine .cons ?_ ih;obtain⟨h1,a,c⟩:=h;unfold putAt;by_cases e:p.1=k
  .rw[if_pos e,if_pos (h1.symm.trans e)];exact⟨h1,a,b⟩
  .rw[if_neg e,if_neg (fun z=>e (h1.trans z))];exact⟨h1,a,c⟩
theorem KT.put (r:KT H kvs xs) (k:List bT) (hb:H b=lD (.tup (k.map kV))) (a:RelV y u):
  KT H (iB kvs k y) (storedH xs k b u):=by
 have e:(kvs.any fun c=>decide (c.1=k))=(atKey xs k).isSome:=by rw[wa,(r.val k).Th,RA]
 unfold iB storedH;rw[e];by_cases q:(atKey xs k).isSome=Pb
 .rw[if_pos q,if_pos q];exact r.aaF k a
 .rw[if_neg q,if_neg q];exact Paired.snoc r ⟨rfl,hb,a⟩
theorem KT.keeps (r:KT H kvs xs) (a:∀b ys,H b=lD (.tup ys)->H' b=lD (.tup ys)):KT H' kvs xs:=
 Paired.TR r fun _ _ z=>⟨z.1,a _ _ z.2.1,z.2.2⟩
section
variable {P:PF} {w:Qc} {H:Hp} {h:Heap} {a:Pc}
theorem Ii (ok:U3 P w H h) (e:Rd H a u):ObjOk P w H h a u:=e.ok ok
theorem vT (ok:U3 P w H h) (e:Rd H a (.dK kvs)):kvs.length<=Po/\(a==QO)=Ph/\∃vs,KV kvs vs/\h.DictOf (cK P w) a vs:=
 show ObjOk P w H h a (.dK kvs) from Ii ok e
theorem IE (ok:U3 P w H h) (e:H a=lD (.dK kvs)):kvs.length<=Po/\(a==QO)=Ph/\∃vs,KV kvs vs/\h.DictOf (cK P w) a vs:=vT ok (.inl e)
theorem pM {ks:List bT} (ok:U3 P w H h) (e:H a=lD (.tup (ks.map kV))):(tupleKind (cK P w)).is h ks a:=by obtain⟨_,d,r,o,h1,⟨c,n,b⟩,_⟩:=(show ObjOk P w H h a (.tup (ks.map kV)) from ok a _ e);exact⟨o,d.toArray,n,h1,c,b,by simpa using rM r⟩
theorem vN (ok:U3 P w H h) (e:Rd H a (.dT kvs)):kvs.length<=Po/\(a==QO)=Ph/\
  ∃xs,KT H kvs xs/\h.DictOfH (tupleKind (cK P w)) a xs:=by
 obtain⟨z,y,xs,r,o,i,j,h1,g,f,d,c⟩:=(show ObjOk P w H h a (.dT kvs) from Ii ok e);refine⟨z,y,xs,r,o,i,j,h1,g,f,d,fun x b=> ?_,c⟩;have all:∀{l:List (List bT×V)} {m:List (List bT×Pc×OW)},KT H l m->∀x∈m,(tupleKind (cK P w)).is h x.1 x.2.1:=by
  intro l m q
  induction q with
  |nil=>intro x b;exact nomatch b
  | @cons p q ps qs hq t ih=>
   intro x b;rcases Py.mp b with e|b
   .subst e;exact pM ok (by rw[<-hq.1];exact hq.2.1)
   .exact ih x b
 exact all r x b
theorem Ml (ok:U3 P w H h) (e:H a=lD (.dT kvs)):kvs.length<=Po/\(a==QO)=Ph/\
  ∃xs,KT H kvs xs/\h.DictOfH (tupleKind (cK P w)) a xs:=vN ok (.inl e)
end
def Vu (H:Hp) (a:Pc) (y:V) (r:Option V):Prop:=
 (∃kvs k,Rd H a (.dK kvs)/\y=kV k/\r=jW kvs k)\/∃kvs k b,Rd H a (.dT kvs)/\y= .ref b/\H b=lD (.tup (k.map kV))/\r=jW kvs k
def YO (H:Hp) (a:Pc) (y v:V) (H':Hp):Prop:=
 (∃kvs k,H a=lD (.dK kvs)/\y=kV k/\kvs.length<Po/\H'=upd H a (.dK (iB kvs k v)))\/
 ∃kvs k b,H a=lD (.dT kvs)/\y= .ref b/\H b=lD (.tup (k.map kV))/\kvs.length<Po/\H'=upd H a (.dT (iB kvs k v))
theorem Vu.k {k:bT} (e:H a=lD (.dK kvs)):Vu H a (kV k) (jW kvs k):= .inl ⟨kvs,k,.inl e,rfl,rfl⟩
theorem YO.k {k:bT} (e:H a=lD (.dK kvs)) (b:kvs.length<Po):YO H a (kV k) v (upd H a (.dK (iB kvs k v))):= .inl ⟨kvs,k,e,rfl,b,rfl⟩
section
variable {X:Cx} {Z:List (Pc×Obj)} {Y:St} {H:Hp} {s:Pa} {a:Pc} {y v:V} {u r:OW} {o:Option V} {A:PX} {E:OW->Pa->Prop}
theorem Inv.big (I:Inv X Z Y H s):QO<s.heap.objs.size:=by have h:=(I.mod.glob.keeps I.bk).lt;exact RP (by decide) h
theorem B5 {Q:OW->Pa->Prop} (m:A.units+1<cLine) (I:Inv X Z Y H s) (g:Vu H a y (lD v)) (j:RelV y u) (h:∀w' s',Inv X Z Y H s'->RelV v w'->Q w' s'):
  wpAny (model X.prog X.w) A (getItem (.ref a) u) Q E s:=by
 rcases g with⟨kvs,k,e,f,l⟩|⟨kvs,k,b,e,f,t,l⟩
 .subst f;obtain⟨z,q,vs,c,dd⟩:=vT I.Ro e;obtain⟨w',d,i⟩:=UE.some_of (v:=v) (o:=valueAt vs k) (by rw[l];exact c.val k);exact wpAny_getItem_of (pY j) dd.mapOf d (h w' _ (I.tok _) i)
 .subst f;cases(show u=OW.ref b from j);obtain⟨z,q,xs,c,dd⟩:=vN I.Ro e;obtain⟨w',d,i⟩:=UE.some_of (v:=v) (o:=(atKey xs k).map (·.2)) (by rw[l];exact c.val k);obtain⟨p,n,B⟩:=Qz.mp d;refine VA (T3 m) (pM I.Ro t) dd n ?_;rw[B];exact h w' _ (I.tok _) i
theorem N8 {Q:OW->Pa->Prop} (j:A.units+1<cLine) (I:Inv X Z Y H s) (g:Vu H a y o) (i:RelV y u) (h:∀s',Inv X Z Y H s'->Q (.bool o.isSome) s'):
  wpAny (model X.prog X.w) A (Rf .In u (.ref a)) Q E s:=by
 rcases g with⟨kvs,k,e,f,l⟩|⟨kvs,k,b,e,f,m,l⟩
 .subst f;obtain⟨z,d,vs,c,dd⟩:=vT I.Ro e;refine wpAny_in_of (pY i) d dd.mapOf ?_;rw[<-(c.val k).Th,<-l];exact h _ (I.tok _)
 .subst f;cases(show u=OW.ref b from i);obtain⟨z,d,xs,c,dd⟩:=vN I.Ro e;refine wpAny_in_heap (T3 j) (pM I.Ro m) d dd ?_;have q:=(c.val k).Th;rw[RA] at q;rw[<-q,<-l];exact h _ (I.tok _)
theorem Ga (j:A.units+1<cLine) (I:Inv X Z Y H s) (g:Vu H a y o) (i:RelV y u) (h:∀s',Inv X Z Y H s'->Q (.bool (!o.isSome)) s'):
  wpAny (model X.prog X.w) A (Rf .NotIn u (.ref a)) Q E s:=by
 rcases g with⟨kvs,k,e,f,l⟩|⟨kvs,k,b,e,f,m,l⟩
 .subst f;obtain⟨z,d,vs,c,dd⟩:=vT I.Ro e;refine wpAny_notIn_of (pY i) d dd.mapOf ?_;rw[<-(c.val k).Th,<-l];exact h _ (I.tok _)
 .subst f;cases(show u=OW.ref b from i);obtain⟨z,d,xs,c,dd⟩:=vN I.Ro e;refine wpAny_notIn_heap (T3 j) (pM I.Ro m) d dd ?_;have q:=(c.val k).Th;rw[RA] at q;rw[<-q,<-l];exact h _ (I.tok _)
theorem lW {h':Heap} {t':Nat} {c:HO} (I:Inv X Z Y H s) (d:L8 (H a)) (hs:Heap.SameBut a s.heap h') (f:∃q,h'.get? a=lD q) (new:ObjOk X.prog X.w (upd H a c) h' a c):
  Inv X Z Y (upd H a c) {s with heap:=h',toks:=t'}:=
 I.write (x:=a) (e:=a) d (.inl rfl) (fun b q g z=>(hs.2 b g).trans z) f new
theorem xx (z:kvs.length<=Po) (c:(a==QO)=Ph) (b:KV kvs vs) (dd:h'.DictOf (cK P w) a vs):
  ObjOk P w H' h' a (.dK kvs):=⟨z,c,vs,b,dd⟩
theorem B2 {H':Hp} {Q:Unit->Pa->Prop} (K:A.units+1<cLine) (I:Inv X Z Y H s) (g:YO H a y v H') (C:RelV y u) (rv:RelV v r) (h:∀s',Inv X Z Y H' s'->Q () s'):
  wpAny (model X.prog X.w) A (setItem (.ref a) u r) Q E s:=by
 rcases g with⟨kvs,k,e,t,l,B⟩|⟨kvs,k,b,e,t,J,l,B⟩
 .subst t B
  obtain⟨z,p,vs,d,dd⟩:=IE I.Ro e;have j:vs.length<=Po:=by rw[<-d.length];exact z
  have n:(iB kvs k v).length<=Po:=by have:=jF kvs k v;omega
  refine wpAny_setItem_pairs (hsz:=j) (pY C) dd fun F i m=>h _ ?_;have L:∃q,F.get? a=lD q:=let⟨q,_,_,f,_⟩:=i;⟨q,f⟩
  exact lW I (by rw[e];exact True.intro) m L (xx n p (d.put k rv) i)
 .subst t B
  cases(show u=OW.ref b from C);obtain⟨z,p,xs,d,dd⟩:=Ml I.Ro e;have j:xs.length<=Po:=by rw[<-Paired.length d];exact z
  have n:(iB kvs k v).length<=Po:=by have:=jF kvs k v;omega
  refine aai (hsz:=j) (T3 K) (pM I.Ro J) dd fun F i m=>h _ ?_;obtain⟨q,S,T,f,P,O,N,_,M⟩:=i;refine lW I (by rw[e];exact True.intro) m ⟨q,f⟩ ⟨n,p,_,(d.put k J rv).keeps fun c ys G=> ?_,q,S,T,f,P,O,N,M⟩;rw[aA (L0 G e (fun z=>nomatch z))];exact G
end
def Gh (i:Qn):Prop:=∀ov iv,subscripted i Ph ov iv=operate [ov,iv] (getItem ov iv)
theorem sN {T g:String}
  (j:typeLookup (.type T) "__getitem__"=pure (lD (.builtin g))) (hs:Gh slice)
  (h:wpAny (model prog w) A (eval value env) (fun o s₁=>wpAny (model prog w) A (eval slice env) (fun i s₂=>s₂.TypeIs o T/\wpAny (model prog w) A (getItem o i) Q E s₂) E s₁) E s):
  wpAny (model prog w) A (eval (.Subscript value slice pos) env) Q E s:=by
 refine Subscript_ (wpAny_mono h (fun o s₁ e=>wpAny_mono e (fun i s₂ a=> ?_) fun _ _ x=>x) fun _ _ x=>x);obtain⟨f,a⟩:=a;unfold subscriptTail;refine Bn ?_;rw[getitemInPython_of_ne f.not_modules];refine Bn (UR f j ?_);have c:wpAny (model prog w) A (subscripted slice Ph o i) (fun r b=>wpAny (model prog w) A (letTemporaryGo value o r>>=fun _=>pure r) Q E b) E s₂:=by rw[hs o i];exact wpAny_operating (wpAny_mono a (fun r b d=>Bn (wpAny_letTemporaryGo (OY d))) fun _ _ x=>x)
 first
  |exact OY (Bn c)
  |exact Bn (OY (Bn c))
  |exact Bn c
theorem vD (I:Inv X pins σ H s) (g:Vu H a y o):s.TypeIs (.ref a) "dict":=by
 rcases g with⟨kvs,k,e,_,_⟩|⟨kvs,k,b,e,_,_,_⟩
 .obtain⟨_,_,vs,_,dd⟩:=vT I.Ro e;exact dd.typeIs
 .obtain⟨_,_,xs,_,dd⟩:=vN I.Ro e;exact dd.typeIs
def Je (d ty:TE):TE:=fun b H Q=>d b H fun x e=>ty b e fun y c=>∃a v,x= .ref a/\Vu c a y (lD v)/\Q v c
def M5 (ty d:TE):TE:=fun b H Q=>ty b H fun y e=>d b e fun x c=>∃a o,x= .ref a/\Vu c a y o/\Q (.bl o.isSome) c
def A5 (ty d:TE):TE:=fun b H Q=>ty b H fun y e=>d b e fun x c=>∃a o,x= .ref a/\Vu c a y o/\Q (.bl (!o.isSome)) c
def Jc (d ty c:TE):TS:=fun D b H=>c b H fun v g=>d b g fun x f=>ty b f fun y e=>∃a H4,x= .ref a/\YO e a y v H4/\D.nx b H4
section
variable {X:Cx} {o i e Z:Qn} {pos T ahQ:Pos} {U Y tv:TE}
theorem sS (p:X.A.units+1<cLine) (q:PE X o U) (hi:PE X i Y) (hs:Gh i):PE X (.Subscript o i pos) (Je U Y):=by intro b s c H Q I h;refine sN Tt.lookup hs (cg (q b s c H _ I h) fun u f ⟨x,C,z,l,n⟩=>cg (hi b f c C _ z n) fun J G ⟨y,B,d,j,a,v,r,g,m⟩=> ?_);subst r;obtain rfl:=l;exact⟨vD d g,B5 p d g j fun E F w t=>⟨v,B,w,t,m⟩⟩
theorem K2 (p:X.A.units+1<cLine) (hi:PE X i Y) (q:PE X o U):PC X .In i o (M5 Y U):=by intro b s c H Q I h;refine cg (hi b s c H _ I h) fun F d ⟨y,B,w,f,m⟩=>cg (q b d c B _ w m) fun u E ⟨x,z,v,j,a,n,r,g,l⟩=> ?_;subst r;obtain rfl:=j;exact N8 p v g f fun C t=>⟨.bl n.isSome,z,t,rfl,l⟩
theorem rZ (p:X.A.units+1<cLine) (hi:PE X i Y) (q:PE X o U):PC X .NotIn i o (A5 Y U):=by intro b s c H Q I h;refine cg (hi b s c H _ I h) fun F d ⟨y,B,w,f,m⟩=>cg (q b d c B _ w m) fun u E ⟨x,z,v,j,a,n,r,g,l⟩=> ?_;subst r;obtain rfl:=j;exact Ga p v g f fun C t=>⟨.bl (!n.isSome),z,t,rfl,l⟩
theorem Gg (t:X.A.units+1<cLine) (w:PE X o U) (hi:PE X i Y) (q:PE X Z tv) (hs:Rm Z (lD (.Subscript o i T)) pos.line X.env=pure Ph):
  PS X (.Assign [.Subscript o i T] Z pos) (Jc U Y tv):=by
 intro b s c H D I h;refine Yo (cg (q b s c H _ I h) fun r f ⟨v,K,F,rv,p⟩=>cg (w b f c K _ F p) fun u d ⟨x,J,E,l,n⟩=>cg (hi b d c J _ E n) fun N M ⟨y,O,C,j,a,G,z,g,m⟩=> ?_) hs;subst z;obtain rfl:=l;exact B2 t C g j rv fun L B=>⟨c,G,B,m⟩
end
theorem Ec (h:Heap) (hb:QO<h.objs.size):ObjOk P w H (h.push {cls:= .type "dict",data:= .dict #[]}) h.objs.size (.dK []):=
 ⟨Qb _,beq_eq_false_iff_ne.mpr (Ne.symm (PU hb)),[],.nil,Heap.DictOf.new h⟩
def sJ:List (TE×TE)->St->Hp->(List (V×V)->Hp->Prop)->Prop
 |[],_,H,Q=>Q [] H
 |(tk,tv)::r,σ,H,Q=>tk σ H fun x c=>tv σ c fun y b=>sJ r σ b fun ps a=>Q ((x,y)::ps) a
abbrev VV:List (V×V)->List (OW×OW)->Prop:=Paired fun p q=>RelV p.1 q.1/\RelV p.2 q.2
def Nl (X:Cx) (pos:Pos) (c:List (Option Qn)) (a:List Qn) (f:List (TE×TE)):Prop:=
 ∀(b:List (Pc×Obj)) (s:Pa) (d:St) (H:Hp) (Q:List (V×V)->Hp->Prop),Inv X b d H s->sJ f d H Q->
  wpAny (model X.prog X.w) X.A (evalPairs (pairTrees c a X.env pos)) (fun vs e=>∃ps H',Inv X b d H' e/\VV ps vs/\Q ps H') X.xe s
theorem GZ:Nl X pos [] [] []:=fun a s b H Q I h=>pairTrees_nil_walk ⟨[],H,I,.nil,h⟩
theorem D5 (o:PE X k tk) (m:PE X v tv) (n:Nl X pos ks vs X5):
  Nl X pos (lD k::ks) (v::vs) ((tk,tv)::X5):=fun a s b H Q I h=>
 pairTrees_cons_walk (cg (o a s b H _ I h) fun u e ⟨x,z,r,g,l⟩=>cg (m a e b z _ r l) fun B d ⟨y,w,q,f,j⟩=>
  cg (n a d b w _ q j) fun A C ⟨ps,t,p,c,i⟩=>⟨(x,y)::ps,t,p,.cons ⟨g,f⟩ c,i⟩)
def hW (kvs a:List (bT×V)):List (bT×V):=a.foldl (fun b c=>iB b c.1 c.2) kvs
theorem KV.merge:∀{a:List (bT×V)} {b:List (bT×OW)} {kvs:List (bT×V)} {vs:List (bT×OW)},KV a b->KV kvs vs->KV (hW kvs a) (merged vs b):=by
 intro a b kvs vs r;unfold KV at r
 induction r generalizing kvs vs with
 |nil=>intro q;exact q
 | @cons p q ps qs h t ih=>
  intro c;have e:KV (iB kvs p.1 p.2) (stored vs q.1 q.2):=by have:=c.put p.1 h.2;rw[<-h.1];exact this
  exact ih e
theorem hE:∀(a kvs:List (bT×V)),(hW kvs a).length<=kvs.length+a.length
 |[],kvs=>by show kvs.length<=kvs.length+0;omega
 |p::r,kvs=>by have h1:=hE r (iB kvs p.1 p.2);have b:=jF kvs p.1 p.2;show(hW (iB kvs p.1 p.2) r).length<=_;rw[Pf];omega
theorem p7:∀{kvs:List (bT×V)} {ws:List (OW×OW)},VV (kvs.map fun kv=>(kV kv.1,kv.2)) ws->∃rs,Carries (cK P w) ws rs/\KV kvs rs
 |[],_,r=>by rw[Qe] at r;cases r;exact⟨[],True.intro,.nil⟩
 |p::kvs,_,r=>by
  rw[Pd] at r;cases r with
  | @cons a b as bs h t=>obtain⟨rs,c,q⟩:=p7 t;obtain⟨e,d⟩:=b;exact⟨(p.1,d)::rs,⟨pY h.1,rfl,c⟩,.cons ⟨rfl,h.2⟩ q⟩
def Iq (d:List (TE×TE)):TE:=fun c H Q=>∀p,H p=Ld->sJ d c (upd H p (.dK [])) fun ps b=>b p=lD (.dK [])/\∃kvs:List (bT×V),ps=kvs.map (fun a=>(kV a.1,a.2))/\kvs.length<=15/\Q (.ref p) (upd b p (.dK (hW [] kvs)))
theorem Hb (h:Nl X pos keys values X5) (f:keys.all (·.isSome)=Pb) (t:keys.length=values.length) (h0:keys≠[])
  (d:keys.length<=15):PE X (.Dict keys values pos) (Iq X5):=by
 intro a s j H Q I q;have hn:=I.Ro.fresh (O8 s.heap.objs.size);have C:=I.laid (t':=s.toks) (fun _ _ q=>Heap.get?_push_of_some _ q) (O8 _) (Ec s.heap I.big);refine wpAny_Dict_walk (knd:=cK X.prog X.w) f t h0 d (cg (h a _ j _ _ C (q _ hn)) fun E F ⟨ps,J,i,b,e,kvs,B,G,o⟩=> ?_);subst B;obtain⟨m,c,rk⟩:=p7 b;obtain⟨z,v,l,n,dd⟩:=IE i.Ro e;cases n;refine⟨m,c,dd,fun A g r=>⟨.ref s.heap.objs.size,_,?_,rfl,o⟩⟩;have p:(hW [] kvs).length<=Po:=by have h1:=hE kvs [];rw[Q0] at h1;rw[Wv];omega
 have u:∃q,A.get? s.heap.objs.size=lD q:=let⟨q,_,_,hq,_⟩:=g;⟨q,hq⟩
 exact lW i (by rw[e];exact True.intro) r u (xx p v (rk.merge .nil) g)
structure M1 (X:Cx) (o:Qn) (m:Str) (apos:Pos) (e:Qn) (Td:Pos):Prop where
 base:attributeBase o m X.env (eval o X.env)=eval o X.env
 few:((backTo Td (Qy [e] X.env)).all (fun x=> !x.1)&&(backToKw Td (keywordEach [] X.env)).all (fun x=>x.1.isSome)
  &&decide (([e]:List Qn).length+([]:List VU).length+(if([]:List VU).isEmpty then 0 else 1)<30))=Pb
 line:(apos.endLine==Td.line)=Pb
 trees:backTo Td (Qy [e] X.env)=[(Ph,eval e X.env)]
structure M2 (X:Cx) (o:Qn) (m:Str) (apos:Pos) (e f:Qn) (Td:Pos):Prop where
 base:attributeBase o m X.env (eval o X.env)=eval o X.env
 few:((backTo Td (Qy [e,f] X.env)).all (fun x=> !x.1)&&(backToKw Td (keywordEach [] X.env)).all (fun x=>x.1.isSome)
  &&decide (([e,f]:List Qn).length+([]:List VU).length+(if([]:List VU).isEmpty then 0 else 1)<30))=Pb
 line:(apos.endLine==Td.line)=Pb
 trees:backTo Td (Qy [e,f] X.env)=[(Ph,eval e X.env),(Ph,eval f X.env)]
end L2
namespace HT
open PySem PySem.Spec PyProof.Rows PySem.Calls
theorem xM (n:Nat):Builtin.Slice.sliceAdjust Ld Ld (-1) (n:Int)=((n:Int) - 1,-1):=by
 unfold Builtin.Slice.sliceAdjust;have h1:(-1:Int)<0:=by decide
 simp only[h1,if_true]
theorem yh (n:Nat):Builtin.Slice.slicePlaces ((n:Int) - 1) (-1) (-1)=n:=by
 unfold Builtin.Slice.slicePlaces;have h1:¬((-1:Int)>0):=by decide
 simp only[h1,if_false];by_cases h:(n:Int) - 1> -1
 .rw[if_pos h,show(- -1:Int)=1 by decide,abr];omega
 .rw[if_neg h];omega
theorem CV (xs:Array OW):((P9 xs.size).filterMap fun(m:Nat)=>xs[((xs.size:Int) - 1+(m:Int)*(-1)).toNat]?).toArray=xs.toList.reverse.toArray:=by
 have e:(P9 xs.size).filterMap (fun(m:Nat)=>xs[((xs.size:Int) - 1+(m:Int)*(-1)).toNat]?)=((P9 xs.size).map fun k=>xs.size - 1 - k).filterMap (xs[·]?):=by
  rw[Ya];have a:∀l:List Nat,(∀m∈l,m<xs.size)->l.filterMap (fun(m:Nat)=>xs[((xs.size:Int) - 1+(m:Int)*(-1)).toNat]?)=l.filterMap ((xs[·]?)∘fun k=>xs.size - 1 - k):=by
   intro l
   induction l with
   |nil=>intro _;rfl
   |cons m r b=>
    intro h;have hm:=h m (.head _);have d:((xs.size:Int) - 1+(m:Int)*(-1)).toNat=xs.size - 1 - m:=by omega
    rw[RG,RG,b fun k c=>h k (.tail _ c),d];rfl
  exact a _ fun m hm=>Q9.mp hm
 rw[e,PySem.W.krv_range,List.filterMap_reverse,PySem.W.krv_all]
section
variable {prog:PF} {w:Qc} {A:PX} {E:OW->Pa->Prop} {s:Pa}
theorem mS {d:Pc} {a:OW} {n:Nat} {Q:Int×Int×Nat->Pa->Prop} (hs:s.heap.IsSliceOf d .none .none a) (e:Uq a (lD (-1)))
  (h:Q ((n:Int) - 1,-1,n) s):wpAny (model prog w) A (Builtin.Slice.sliceApplied (.ref d) (pure (n:Int))) Q E s:=by
 obtain⟨f,c,g,b⟩:=id hs;unfold Builtin.Slice.sliceApplied Builtin.Slice.sliceFields;refine Bn (Bn (Tr c b (x:= .none) rfl (Bn (Tr c b (x:= .none) rfl (Bn (Tr c b (x:=a) rfl (OY ?_)))))));refine Bn (gr e ?_);show wpAny _ _ (if((-1:Int)==0)=Pb then _ else _) _ _ s;rw[if_neg (by decide)];refine Bn (gr .none (Bn (gr .none (Bn (OY ?_)))));show wpAny _ _ (match Builtin.Slice.sliceAdjust Ld Ld (-1) (n:Int) with|(lo,hi)=>pure (lo,(-1:Int),Builtin.Slice.slicePlaces lo hi (-1))) _ _ s;rw[xM n];show wpAny _ _ (pure ((n:Int) - 1,(-1:Int),Builtin.Slice.slicePlaces ((n:Int) - 1) (-1) (-1))) _ _ s;rw[yh];exact OY h
theorem getItem_tuple_rev {t c:Pc} {items:Array OW} {e:OW} {Q:OW->Pa->Prop} (a:IsTup s.heap t items) (hs:s.heap.IsSliceOf c .none .none e) (f:Uq e (lD (-1)))
  (h:Q (.ref s.heap.objs.size) {s with heap:=s.heap.push {cls:= .type "tuple",data:= .seq items.toList.reverse.toArray}})
  (hsz:items.size<=Po):wpAny (model prog w) A (getItem (.ref t) (.ref c)) Q E s:=by
 have b:sizeOk (.seq items.toList.reverse.toArray):=by show items.toList.reverse.toArray.size<=Po;rw[Pm,QW,PJ];exact hsz
 obtain⟨g,j,i,l⟩:=id hs;have d:s.TypeIs (.ref c) "slice":=⟨g,j,i⟩;unfold getItem
 try with_reducible refine QL ?_
 first|refine Bn (OY ?_)|skip
 refine Bn (VW a.typeIs (by decide) ?_);refine Bn (QS (name:=Str.ofString "__getitem__") a.typeIs Qd
  (QM Qd a.typeIs entry_tuple_getitem ?_ (args_tuple_getitem _ _)))
 show wpAny _ _ (Builtin.Tuple.tupleItemsOf (.ref t)>>=_) _ _ s;refine Bn (tupleItemsOf_ a ?_);refine Bn (RZ d ?_);rw[if_pos (by decide)];refine Bn (mS hs f ?_);show wpAny _ _ (if(((items.size:Int) - 1)==0&&(-1:Int)==1&&items.size==items.size)=Pb then _ else _) _ _ s;rw[if_neg (by rw[show((-1:Int)==1)=Ph from by decide,V6,Tw];exact Pt),CV]
 first
  |exact Bn (m:=Builtin.Tuple.tupleExact _) (P8 (OY ⟨_,rfl,OY h⟩) b)
  |exact Bn (m:=Builtin.Tuple.tupleExact _) (P8 (Bn (OY (OY ⟨_,rfl,OY h⟩))) b)
  |exact Bn (Bn (m:=Builtin.Tuple.tupleExact _) (P8 (OY (OY ⟨_,rfl,OY h⟩)) b))
  |exact Bn (Bn (m:=Builtin.Tuple.tupleExact _) (P8 (OY ⟨_,rfl,OY h⟩) b))
end
end HT
namespace L2
open PySem PySem.Spec PyProof.Rows
theorem D7 {xs:List V} {a:List OW} (h:Vals xs a):Vals xs.reverse a.reverse:=by
 induction h with
 |nil=>exact .nil
 |cons h t b=>rw[Rh,Rh];exact b.append (.cons h .nil)
def M8 (K:OK) (e:TE) (d:TO):TE:=fun c H Q=>e c H fun x f=>d c f fun o b=>o=lD (-1)/\∃a xs,x= .ref a/\TX K b a xs/\∀p,b p=Ld->Q (.ref p) (upd b p (.tup xs.reverse))
theorem Cq {X:Cx} {e st:Qn} {n pos:Pos} {m:TE} {l:TO} (L:PE X e m) (J:PO X (lD st) l):PE X (.Subscript e (.Slice Ld Ld (lD st) n) pos) (M8 X.K m l):=by
 intro c s g H Q I h;refine Subscript_ (cg (L c s g H _ I h) fun v u ⟨x,U,S,z,C⟩=> ?_);refine wpAny_Slice ?_;rw[XJ];refine OY ?_;refine OY (cg (J c u g U _ S C) fun j d ⟨o,T,P,E,N,a,xs,M,G,B⟩=> ?_);subst N M;cases z;have i:Inv X c g T {d with heap:=d.heap.push {cls:= .type "slice",data:= .fields #[.none,.none,j]}}:=P.kept (t':=d.toks) fun b F q=>Heap.get?_push_of_some _ q;obtain⟨O,r,t,p⟩:=i.tuple G;have f:O.toArray.size=xs.length:=by rw[Pm];exact r.length.symm
 show wpAny (model X.prog X.w) X.A (subscriptTail e (.Slice Ld Ld (lD st) n) (.ref a) (.ref d.heap.objs.size)) (EP X c g Q) X.xe {d with heap:=d.heap.push {cls:= .type "slice",data:= .fields #[.none,.none,j]}};refine tail_any (ops:=[.ref a,.ref d.heap.objs.size]) t.typeIs Qd.lookup ?_ (by with_unfolding_all rfl);refine HT.getItem_tuple_rev t (Heap.IsSliceOf.new ..) E ?_ (by rw[f];exact p);refine⟨.ref _,_,i.laid (t':=d.toks) (o:= .tup xs.reverse) (fun b F q=>Heap.get?_push_of_some _ q) (O8 _) ?_,rfl,B _ (i.Ro.fresh (O8 _))⟩;exact⟨by rw[QW];exact p,_,D7 r,Vf.new _ _⟩
end L2
namespace PySem
open Sem (wp)
open Builtin
open AutoSeq1 (wpAny_loadPart')
end PySem
namespace L3
open PySem PySem.Spec PyProof.Rows L2
def IQ (K:OK):R2:=fun x y H Q=>∃(a b:Pc) (ys:List V),x= .ref a/\y= .ref b/\TX K H a []/\TX K H b ys/\Q (.ref b) H
theorem Hj {X:Cx}:OpR X (Ri .Add) (IQ X.K):=by
 intro e s L H x y v u Q I r p h;obtain⟨a,b,ys,rfl,rfl,ha,B,q⟩:=h;cases r;cases p;obtain⟨N,t,z,_⟩:=I.tuple ha;obtain⟨J,M,w,_⟩:=I.tuple B;cases t;obtain⟨⟨C,dd,j,o⟩,f,i,n,g⟩:=id z;obtain⟨⟨E,F,d,G⟩,m,l,A,c⟩:=id w;simp only at i g l c;subst i g l c;exact Ym ⟨_,f,rfl⟩ ⟨_,m,rfl⟩ SE Tq Rk Ra (Q2 _ _)
  (tuple_addW0 a b _ J.toArray n A dd F o G rfl) ⟨f,m,⟨.ref b,H,I,rfl,q⟩⟩
def Ih (K:OK):R2:=fun x y H Q=>Ff K x y H Q\/IQ K x y H Q
theorem Al {X:Cx}:OpR X (Ri .Add) (Ih X.K):=OpR.or kg Hj
def wC:D->D->Option RV
 | .tuple [],.tuple ys=>lD (.fz (.tuple ys))
 |d,e=>bZ d e
theorem w6 {K:OK}:kG K (Ih K) wC:=by
 intro O H x y dx i rv Q n d c e q;unfold wC at e;split at e
 .cases e;obtain⟨a,xs,rfl,h1,g⟩:=xl d;obtain⟨b,ys,rfl,f,h⟩:=xl c;cases g;exact .inr ⟨a,b,ys,rfl,rfl,h1.1,f.1,q.at (.tup f h)⟩
 .exact .inl (j9 O H x y dx i rv Q n d c e q)
end L3
namespace L4
open PySem PySem.Spec PyProof.Rows L2 L3
structure Lft (l:List Env) (e:Pc) (hd:Option Pc) (h h':Heap):Prop where
 keep:∀b o,h.get? b=lD o->b≠e->hd≠lD b->b∉Cf l->h'.get? b=lD o
 slot:∀b o,h.get? b=lD o->b≠e->hd≠lD b->∃sl,h'.get? b=lD {o with slots:=sl}
 here:∀b o,h.get? b=lD o->∃o',h'.get? b=lD o'
section
variable {P:PF} {w:Qc} {K:OK} {mg:Str->Option OW} {base:Heap} {N:List Str} {qual:Str} {scope:TK} {f:Pc} {cd:OW} {A:PX} {outer:List Env} {s0:Pa} {H0:Hp} {E:XK} {CX:xF}
  {σ:L2.St} {H:Hp} {s:Pa} {h':Heap} {X:Cx}
end
def Mr (K:OK) (C:Pc) (m:List OW):Prop:=∃nm q N bs hd sn sub ab col dd k0 k1 k2 k3 k5 id,K.lookup C=lD (excClassObj nm q C N bs m hd sn sub ab col dd k0 k1 k2 k3 k5 id)
structure Apart (X:Cx) (a:Pc):Prop where
 n0:X.s₀.heap.get? a=Ld
 nL:a≠X.env.locals
 nC:∀y c,X.env.cells.lookup y=lD c->c≠a
 nP:∀p∈X.pn,p.1≠a
end L4
namespace L4
open PySem PySem.Spec L2 L3
end L4
namespace L4
open PySem PySem.Spec PySem.W PyProof.Rows L2 L3
section
variable {prog:PF} {w:Qc} {A:PX} {E:OW->Pa->Prop} {h:Heap} {g:Array VT} {d:aaS} {t:Nat} {os:aaU} {a C:Pc} {o:Obj} {K:OK}
  {n1 q1:Str} {N1:Pc} {b1 m1:List OW} {d1:Bool} {s1:List Str} {u1:List OW} {a1:Bool} {c1:Option Bool} {x1:Option Pc} {i0 i1 i2 i3 i5:Option OW} {id1:String}
structure aej (K:OK) (C:Pc) (m:List OW):Prop where
 cl:Mr K C m
 be:m.contains (.type "BaseException")=Pb
 ga:findIn K (.ref C) "__getattribute__"=lD (lD (.builtin "BaseException.__getattribute__"))
 gt:findIn K (.ref C) "__getattr__"=lD Ld
 cs:findIn K (.ref C) "__class__"=lD (lD (.builtin "object.__class__"))
 ob:mroIn K C (.type "object")=lD Pb
end
end L4
namespace L4
open PySem PySem.SeqAt PySem.Spec PySem.W PyProof.Rows L2 L3
end L4
namespace L4
open PySem PySem.Spec PySem.W PyProof.Rows L2 L3
end L4
namespace PySem
open Sem (wp)
open PyProof.Rows
end PySem
namespace L3
open PySem PySem.Spec PyProof.Rows L2
end L3
namespace HT
open PySem PySem.Spec PyProof.Rows
section
variable {prog:PF} {w:Qc} {A:PX} {E:OW->Pa->Prop} {s:Pa}
theorem getItem_tuple_all {t b:Pc} {items:Array OW} {f e:OW} {lo hi:Option Int} {Q:OW->Pa->Prop} (a:IsTup s.heap t items) (hs:s.heap.IsSliceOf b f e .none) (pl:Uq f lo) (i:Uq e hi)
  (g:sIx items.size 0 lo=0/\sIx items.size items.size hi=items.size) (h:Q (.ref t) s):wpAny (model prog w) A (getItem (.ref t) (.ref b)) Q E s:=by
 obtain⟨j,n,l,o⟩:=id hs;have c:s.TypeIs (.ref b) "slice":=⟨j,n,l⟩;unfold getItem
 try with_reducible refine QL ?_
 first|refine Bn (OY ?_)|skip
 refine Bn (VW a.typeIs (by decide) ?_);refine Bn (QS (name:=Str.ofString "__getitem__") a.typeIs Qd
  (QM Qd a.typeIs entry_tuple_getitem ?_ (args_tuple_getitem _ _)))
 show wpAny _ _ (Builtin.Tuple.tupleItemsOf (.ref t)>>=_) _ _ s;refine Bn (tupleItemsOf_ a ?_);refine Bn (RZ c ?_);rw[if_pos (by decide)];refine Bn (iI hs pl i ?_);have d:((((sIx items.size 0 lo:Nat):Int)==0&&(1:Int)==1&&(sIx items.size items.size hi - sIx items.size 0 lo)==items.size)=Pb):=by rw[g.1,g.2];simp
 show wpAny _ _ (if(((sIx items.size 0 lo:Nat):Int)==0&&(1:Int)==1&&(sIx items.size items.size hi - sIx items.size 0 lo)==items.size)=Pb then _ else _) _ _ s;rw[if_pos d];refine Bn (m:=Builtin.Tuple.tupleIsExact _) ?_;unfold Builtin.Tuple.tupleIsExact;refine Bn (RZ a.typeIs (OY ?_));rw[if_pos (by decide)];refine Bn (UJ ?_);exact OY ⟨_,rfl,OY h⟩
end
end HT
namespace L3
open PySem PySem.Spec PyProof.Rows L2
def Mz (K:OK):V->Option Int->Option Int->Hp->VK->Prop:=fun x lo hi H Q=>∃(a:Pc) (xs:List V),x= .ref a/\TX K H a xs/\(HT.sIx xs.length 0 lo=0/\HT.sIx xs.length xs.length hi=xs.length)/\Q (.ref a) H
theorem Dj {X:Cx}:Lq X (Mz X.K):=by
 intro c s m H x v o n lo hi p Q I e j pl f h;obtain⟨a,xs,rfl,g,i,q⟩:=h;cases e;obtain⟨l,r,d,t⟩:=I.tuple g;have b:l.toArray.size=xs.length:=by rw[Pm];exact r.length.symm
 refine⟨"tuple",_,Qd.lookup,d.typeIs,?_⟩;exact HT.getItem_tuple_all d j pl f (by rw[b];exact i) ⟨.ref a,H,I,rfl,q⟩
def Mn (K:OK):V->Option Int->Option Int->Hp->VK->Prop:=fun x lo hi H Q=>Jr K x lo hi H Q\/Mz K x lo hi H Q
theorem oO {X:Cx}:Lq X (Mn X.K):=by
 intro a s b H x v d c lo hi e Q I f h pl g q;rcases q with q|q
 .exact yg a s b H x v d c lo hi e Q I f h pl g q
 .exact Dj a s b H x v d c lo hi e Q I f h pl g q
def qp:D->Option Int->Option Int->Option RV
 | .list ds,lo,hi=>lD (.ow (gg ds lo hi))
 | .tuple ds,lo,hi=>lD (.fz (.tuple (gg ds lo hi)))
 |_,_,_=>Ld
theorem Hc {ds:List D} {lo hi:Option Int} (h:HT.sIx ds.length 0 lo=0/\HT.sIx ds.length ds.length hi=ds.length):gg ds lo hi=ds:=by unfold gg;rw[h.1,h.2,ZV,abw,QF]
theorem Ad {K:OK}:NU K (Mn K) qp:=by
 intro O H x lo hi dx rv Q n b e q;cases dx with
 |list ds=>exact .inl (n9 O H x lo hi _ rv Q n b e q)
 |tuple ds=>
  cases e;by_cases c:HT.sIx ds.length 0 lo=0/\HT.sIx ds.length ds.length hi=ds.length
  .obtain⟨a,xs,rfl,h1,d⟩:=xl b;rw[Hc c] at q;refine .inr ⟨a,xs,rfl,h1.1,by rw[d.length];exact c,q.at (.tup h1 d)⟩
  .refine .inl (n9 O H x lo hi (.tuple ds) _ Q n b ?_ q)
   show(if jC ds.length lo hi=Pb then Ld else lD (RV.fz (.tuple (gg ds lo hi))))=_;have z:jC ds.length lo hi=Ph:=by unfold jC;exact decide_eq_false c
   rw[z,if_neg Pt]
 |_=>cases e
section
variable {K:OK} {E:XK}
open Classical in
end
end L3
namespace L9
open PySem PySem.Spec PyProof.Rows
end L9
namespace L9
open PySem PySem.W PyProof.Rows Builtin Builtin.ObjectAttr
abbrev Ol:List OW:=[.type "ValueError",.type "Exception",.type "BaseException",.type "object"]
end L9
namespace L9
open PySem PySem.Spec PyProof.Rows L2
structure XC (K:OK) (C B fI:Pc):Prop where
 obj:∃nm q N bs sn sub ab col dd k0 k1 k2 k3 k5,K.lookup C=lD (excClassObj nm q C N bs (.ref B::Ol) Pb sn sub ab col dd k0 k1 k2 k3 k5 "ValueError.__new__")/\PySem.W.nsOkIn K N=Pb/\Qv K N "__init__"=lD (lD (.ref fI))
 base:PySem.W.excIn K B Ol "ValueError.__new__"=Pb
 sa:Q5 K (.ref C) "__setattr__"=lD (lD (.builtin "object.__setattr__"))
end L9
namespace L9
open PySem PySem.Spec PyProof.Rows L2 L4
end L9
namespace L9
open PySem PySem.Spec PySem.W PyProof.Rows L2 L3 L4
section
variable {prog:PF} {w:Qc} {A:PX} {E:OW->Pa->Prop} {h:Heap} {g:Array VT} {d:aaS} {t:Nat} {os:aaU} {a C:Pc} {o:Obj} {K:OK} {od:Option Obj} {name:Str} {v:OW}
  {n1 q1:Str} {N1:Pc} {b1 m1:List OW} {d1:Bool} {s1:List Str} {u1:List OW} {a1:Bool} {c1:Option Bool} {x1:Option Pc} {i0 i1 i2 i3 i5:Option OW} {id1:String}
end
end L9
namespace L3
open PySem PySem.Spec PyProof.Rows L2
mutual
def Ow:O9->Bool
 | .tuple ds=>J6 ds
 | .int _=>Pb
 | .str _=>Pb
 | .bool _=>Pb
 | .none=>Pb
 |_=>Ph
def J6:List O9->Bool
 |[]=>Pb
 |d::r=>Ow d&&J6 r
end
section
variable {K:OK} {E:XK} {B:bF} {H0:Hp} {O Z:bF} {σ:L2.St} {H H':Hp} {ρ:aO}
theorem HD (h:TX K H a xs) (l:H a=lD (.lst ys)):TX K (fun _=>Ld) a xs:=by
 rcases h with(h|⟨o,h⟩)|h
 .rw[l] at h;cases h
 .rw[l] at h;cases h
 .exact .inr h
mutual
theorem G0 (c:∀b,O b->¬Z b->∃ys,H b=lD (.lst ys)):∀{v:V} {d:D},DV Z K H v d->Ow d=Pb->DV O K H v d
 |_,_,.S4,_=> .S4
 |_,_,.bl b,_=> .bl b
 |_,_,.int i,_=> .int i
 |_,_,.str x,_=> .str x
 |_,_,.tup (a:=a) h hs,e=> .tup ⟨h.1,fun z=>by
   by_cases y:Z a
   .exact h.2 y
   .obtain⟨ys,q⟩:=c a z y;exact HD h.1 q⟩ (wt c hs e)
 |_,_,.lst h hs,e=>by cases e
theorem wt (a:∀b,O b->¬Z b->∃ys,H b=lD (.lst ys)):∀{vs:List V} {ds:List D},QV Z K H vs ds->J6 ds=Pb->QV O K H vs ds
 |_,_,.nil,_=> .nil
 |_,_,.cons h hs,e=>by have c:=Bool.and_eq_true_iff.mp e;exact .cons (G0 a h c.1) (wt a hs c.2)
end
end
end L3
namespace PySem
end PySem
namespace PyProof.Rows
open PySem
end PyProof.Rows
namespace L9
open PySem PySem.Spec PyProof.Rows L2 L3
section
variable {K:OK} {E:XK}
def Ip:R2:=fun x y H Q=>∃(z:Str) (n:Int),x= .str z/\y= .int n/\z.length<=1000/\0<=n/\n<=1000/\Q (.str (Txt.mul z n)) H
theorem A4:OpR X (Ri .Mult) Ip:=by
 intro a s f H x y v u Q I d c h;obtain⟨z,n,rfl,rfl,e,h0,h1,q⟩:=h;obtain⟨t,rfl⟩:=d;obtain⟨b,rfl⟩:=c;refine SB.mul ⟨?_,fun _ _=> ?_,fun _ _=> ?_⟩ fun b k=>⟨.str _,H,I.tok k,⟨_,rfl⟩,q⟩
 .simp;omega
 .have:(1000:Int)<=(2^63 - 1)/n:=Int.le_ediv_of_mul_le (by omega) (by omega);omega
 .have:z.length*n.toNat<=1000*1000:=TF e (by omega);unfold Builtin.Str.tooLong;have g:=Wv;simp;omega
def xG:D->D->Option RV
 | .str z,.int n=>if z.length<=1000/\0<=n/\n<=1000 then lD (.fz (.str (Txt.mul z n))) else Ld
 |_,_=>Ld
theorem vV:kG K Ip xG:=by
 intro O H x y dx d rv Q n c b e q;unfold xG at e;split at e
 .split at e
  .rename_i a;cases e;cases c;cases b;exact⟨_,_,rfl,rfl,a.1,a.2.1,a.2.2,q.at (.str _)⟩
  .cases e
 .cases e
end
end L9
namespace L9
open PySem PySem.W PyProof.Rows Builtin Builtin.ObjectAttr
open PySem.Spec L2
open L3 L4
def CC:D->Option RV
 | .tuple ds=>lD (.fz (.tuple ds.reverse))
 |_=>Ld
theorem z9 {K:OK} {O:bF} {H:Hp}:∀{vs:List V} {ds:List D},QV O K H vs ds->QV O K H vs.reverse ds.reverse
 |_,_,.nil=> .nil
 |_,_,.cons h t=>by rw[Rh,Rh];exact(z9 t).append (.cons h .nil)
theorem DC {K:OK} {E:XK} {g:TE} {fa:FE} (ha:EO K E g fa):EO K E (M8 K g (Dy (NM (rU fun i=> .int (-i)) (tC (.int 1))))) (IY CC fa):=by
 intro B z O h H ρ Q R w;refine ha B z O h H ρ _ R (w.bind.imp fun a c A x C q f m=> ?_);obtain⟨d,j,c⟩:=c.Qi;obtain⟨rv,e,c⟩:=c.Qi;have dx:=kF f m j;unfold CC at e;split at e
 .cases e;obtain⟨b,vs,rfl,o,n⟩:=xl dx;refine⟨1,rfl,-1,rfl,rfl,b,vs,rfl,o.1,?_⟩;exact Fin.Xe (z9 n) f.od (jO (rv:= .fz (.tuple _)) f fun t v u p r l=>c t v u (q.trans p) r l)
 .cases e
end L9
namespace LD
open PySem PyProof.Rows L2 L3
mutual
def kd:O9->Bool
 | .none=>Pb
 | .int _=>Pb
 | .str x=>O9.strOk x
 | .tuple xs=>kds xs
 |_=>Ph
def kds:List O9->Bool
 |[]=>Pb
 |x::r=>kd x&&kds r
end
def keyD:O9->Bool
 | .tuple xs=>kds xs&&decide ((O9.tuple xs).depth<=8)
 |_=>Ph
mutual
theorem tt:∀d:O9,kd d=Pb->d.canLay0=Pb
 | .none,_=>rfl
 | .int _,_=>rfl
 | .str x,h=>by unfold O9.canLay0;unfold kd at h;exact h
 | .tuple xs,h=>by unfold O9.canLay0;unfold kd at h;exact zK xs h
 | .bool _,h| .list _,h| .dict _,h=>by simp[kd] at h
theorem zK:∀xs:List O9,kds xs=Pb->O9.canLayAll0 xs=Pb
 |[],_=>rfl
 |x::r,h=>by unfold kds at h;rw[PN] at h;unfold O9.canLayAll0;rw[tt x h.1,zK r h.2];rfl
end
mutual
theorem CD:∀d e:O9,kd d=Pb->kd e=Pb->O9.eqv d e=Pb->d=e
 | .none,e,_,h,q=>by cases e<;>simp_all [kd,O9.eqv]
 | .int i,e,_,h,q=>by cases e<;>simp_all [kd,O9.eqv]
 | .str x,e,_,h,q=>by cases e<;>simp_all [kd,O9.eqv]
 | .tuple xs,e,g,h,q=>by
  cases e with
  |tuple ys=>rw[O9.eqv] at q;unfold kd at g h;rw[A1 xs ys g h q]
  |_=>simp_all [kd,O9.eqv]
 | .bool _,_,h,_,_| .list _,_,h,_,_| .dict _,_,h,_,_=>by simp[kd] at h
theorem A1:∀xs ys:List O9,kds xs=Pb->kds ys=Pb->O9.eqvAll xs ys=Pb->xs=ys
 |[],[],_,_,_=>rfl
 |[],_::_,_,_,q=>by simp[O9.eqvAll] at q
 |_::_,[],_,_,q=>by simp[O9.eqvAll] at q
 |x::xs,y::ys,g,h,q=>by unfold kds at g h;rw[O9.eqvAll] at q;rw[PN] at g h q;rw[CD x y g.1 h.1 q.1,A1 xs ys g.2 h.2 q.2]
end
theorem CB [Decidable (d=e)] (a:kd d=Pb) (b:kd e=Pb):O9.eqv d e=decide (d=e):=by
 by_cases q:d=e
 .subst q;rw[decide_eq_true rfl];exact SeqAt.eqv_refl d (tt d a)
 .rw[decide_eq_false q]
  cases z:O9.eqv d e with
  |false=>rfl
  |true=>exact absurd (CD d e a b z) q
theorem dA (h:keyD d=Pb):kd d=Pb/\d.depth<=8:=by
 cases d with
 |tuple xs=>unfold keyD at h;rw[PN] at h;exact⟨by unfold kd;exact h.1,of_decide_eq_true h.2⟩
 |_=>simp[keyD] at h
mutual
def ny (w:Qc):O9->Int
 | .none=>reduceHash 0xFCA86420
 | .int i=>hashInt i
 | .str x=>hashStr w x
 | .tuple xs=>reduceHash (Builtin.Tuple.tupleHashOf (qK w xs))
 |_=>0
def qK (w:Qc):List O9->List Int
 |[]=>[]
 |x::r=>ny w x::qK w r
end
mutual
def Nn:O9->Nat
 | .tuple xs=>Hk xs+1
 |_=>1
def Hk:List O9->Nat
 |[]=>0
 |x::r=>Nn x+Hk r
end
section
variable {prog:PF} {w:Qc} {E:OW->Pa->Prop}
mutual
theorem Av:∀(d:O9) (v:OW) (as:List Pc) (A:PX) (s:Pa) (Q:Int->Pa->Prop),kd d=Pb->RO s.heap v d as->A.units+d.depth<cLine->Q (ny w d) {s with toks:=s.toks+Nn d}->wpAny (model prog w) A (pyHash v) Q E s
 | .none,_,_,A,s,Q,_,r,hu,h=>by cases r;exact WU (T:= "NoneType") rfl F.slot_NoneType_hash F.entry_NoneType_hash (F.args_NoneType_hash_1 _) (abx _) (.inr (by omega)) (Bn (OY (Bn (wpAny_mkInt (OY ⟨_,_,rfl,h⟩)))))
 | .int i,_,_,A,s,Q,_,r,_,h=>by cases r;exact abo h
 | .str x,_,_,A,s,Q,_,r,_,h=>by cases r;exact abp h
 | .tuple xs,_,_,A,s,Q,hk,r,hu,h=>by
  cases r with
  | @tuple a o vs n _ _ h1 h2 h3 h4=>
   refine WU (T:= "tuple") ⟨_,h1,h2⟩ F.slot_tuple_hash F.entry_tuple_hash (F.args_tuple_hash_1 _) (abx _) (.inr (by omega)) ?_;show wpAny _ _ (Builtin.Tuple.tupleItemsOf (.ref a)>>=_) _ _ s;refine Bn (VB h1 h3 ?_);refine Bn ?_;rw[<-XM];unfold kd at hk;refine sF xs vs.toList _ A.in1 s #[] _ hk h4 (by simp only[O9.depth,PX.in1_units] at hu⊢;omega) fun b c=> ?_;show wpAny _ _ (retInt (Builtin.Tuple.tupleHashOf b.toList)) _ _ _;rw[c];refine Bn (wpAny_mkInt (OY ⟨_,_,rfl,?_⟩));unfold ny Nn at h
   simpa [WG] using h
 | .bool _,_,_,_,_,_,h,_,_,_| .list _,_,_,_,_,_,h,_,_,_| .dict _,_,_,_,_,_,h,_,_,_=>by simp[kd] at h
theorem sF:∀(xs:List O9) (vs:List OW) (as:List Pc) (A:PX) (s:Pa) (b:Array Int) (Q:Array Int->Pa->Prop),kds xs=Pb->Sx s.heap vs xs as->A.units+O9.depthAll xs<cLine->
  (∀b':Array Int,b'.toList=b.toList++qK w xs->Q b' {s with toks:=s.toks+Hk xs})->
  wpAny (model prog w) A (forIn vs b fun x r=>do let h<-pyHash x;pure PUnit.unit;pure (ForInStep.yield (r.push h))) Q E s
 |[],_,_,A,s,b,Q,_,x,_,h=>by cases x;exact OY (h b (by simp[qK]))
 |k::xs,_,_,A,s,b,Q,hk,x,hu,h=>by
  cases x with
  |cons c a=>
   unfold kds at hk;simp only[PN,O9.depthAll] at hk hu;rw[VQ];refine Bn (Bn (Av k _ _ A s _ hk.1 c (by omega) ?_));refine Bn (OY (OY ?_));refine sF xs _ _ A _ _ Q hk.2 a (by omega) fun b' d=> ?_;have:=h b' (by simp[d,qK]);unfold Hk at this
   simpa [WG] using this
end
theorem vM:∀(n:Nat) (d:O9) (v:OW) (as:List Pc) (A:PX) (s:Pa) (Q:Bool->Pa->Prop),kd d=Pb->RO s.heap v d as->d.depth<=n->Q Pb s->wpAny (model prog w) A (eqIsQuiet n v) Q E s
 |n,.none,_,_,A,s,Q,_,r,_,h=>by cases r;rw[VX _ rfl];exact OY h
 |n,.int i,_,_,A,s,Q,_,r,_,h=>by cases r;rw[VX _ rfl];exact OY h
 |n,.str i,_,_,A,s,Q,_,r,_,h=>by cases r;rw[VX _ rfl];exact OY h
 |0,.tuple xs,_,_,A,s,Q,hk,r,hn,h=>by simp only[O9.depth] at hn;omega
 |n+1,.tuple xs,_,_,A,s,Q,hk,r,hn,h=>by
  cases r with
  | @tuple a o vs m _ _ h1 h2 h3 h4=>
   have f:s.TypeIs (.ref a) "tuple":=⟨_,h1,h2⟩;simp only[O9.depth] at hn;unfold eqIsQuiet;refine Bn (UR f F.slot_tuple_eq.lookup ?_);refine Bn (Rz f Y4 ?_);simp only[Q7,Pj,if_false];refine Bn (T4 h1 h3 ?_);refine Bn ?_;rw[<-XM];unfold kd at hk;refine aby _ (fun b r c=>r.1=Ld/\c=s/\∃ys bs,kds ys=Pb/\Sx s.heap b ys bs/\O9.depthAll ys<=n) _ ?_ ?_ _ _ ⟨rfl,rfl,xs,_,hk,h4,by omega⟩
   .rintro v b r c ⟨e,rfl,ys,bs,k1,k2,k3⟩
    cases k2 with
    | @cons _ _ y ys' _ _ g1 g2=>unfold kds at k1;simp only[PN,O9.depthAll] at k1 k3;refine Bn (vM n y v _ A c _ k1.1 g1 (by omega) ?_);simp only[Q7,Pj,if_false];exact OY ⟨rfl,rfl,ys',_,k1.2,g2,by omega⟩
   .rintro⟨j,g⟩ c ⟨e,rfl,_⟩;simp only at e;subst e;exact OY h
 |_,.bool _,_,_,_,_,_,h,_,_,_|_,.list _,_,_,_,_,_,h,_,_,_|_,.dict _,_,_,_,_,_,h,_,_,_=>by simp[kd] at h
end
mutual
theorem rH {h h':Heap} {x:Pc} {b:Obj} {f:Array QT} {g:Nat} (c:h.get? x=lD b) (e:b.data= .dict f g) (hs:Heap.SameBut x h h'):∀(d:O9) (v:OW) (as:List Pc),kd d=Pb->RO h v d as->RO h' v d as
 | .none,_,_,_,r=>by cases r;exact .none
 | .int _,_,_,_,r=>by cases r;exact .int _ _
 | .str _,_,_,_,r=>by cases r;exact .str _ _
 | .tuple xs,_,_,k,r=>by
  cases r with
  | @tuple a o vs n _ _ h1 h2 h3 h4=>
   have i:a≠x:=by rintro rfl;rw[c] at h1;cases h1;rw[e] at h3;exact nomatch h3
   unfold kd at k;exact .tuple ((hs.2 a i).trans h1) h2 h3 (pI c e hs xs _ _ k h4)
 | .bool _,_,_,h,_| .list _,_,_,h,_| .dict _,_,_,h,_=>by simp[kd] at h
theorem pI {h h':Heap} {x:Pc} {a:Obj} {g:Array QT} {i:Nat} (b:h.get? x=lD a) (c:a.data= .dict g i) (hs:Heap.SameBut x h h'):∀(ds:List O9) (vs:List OW) (as:List Pc),kds ds=Pb->Sx h vs ds as->Sx h' vs ds as
 |[],_,_,_,r=>by cases r;exact .nil
 |d::ds,_,_,k,r=>by
  cases r with
  |cons f e=>unfold kds at k;rw[PN] at k;exact .cons (rH b c hs d _ _ k.1 f) (pI b c hs ds _ _ k.2 e)
end
abbrev KD:={d:O9//keyD d=Pb}
noncomputable instance kdDec:DecidableEq KD:=fun _ _=>Classical.propDecidable _
def b5 (prog:PF) (w:Qc):HeapKind prog w KD where
 is:=fun h k a=>∃as,RO h (.ref a) k.1 as
 hash:=fun k=>ny w k.1
 draws:=fun k=>Nn k.1
 room:=fun A=>A.units+8<cLine
 inj:=fun⟨_,r⟩ ⟨_,c⟩=>Subtype.ext (RO.unique r _ _ c).1
 keeps:=fun{h h' k a d o es ep} ⟨as,r⟩ ho hd hs=>⟨as,rH ho hd hs k.1 _ _ (dA k.2).1 r⟩
 pyHash:=fun{A E s k a Q} hu ⟨as,r⟩ q=>Av k.1 _ as A s Q (dA k.2).1 r (by have:=(dA k.2).2;omega) q
 eqBool:=fun{A E s x y a b Q} hu ⟨as,r⟩ ⟨bs,c⟩ q=>SeqAt.eqAt_reads x.1 y.1 A s _ _ as bs r c (tt _ (dA x.2).1) (tt _ (dA y.2).1) (by have:=(dA x.2).2;omega) prog w E Q (by
  haveI:Decidable (x.1=y.1):=Classical.propDecidable _
  rw[CB (dA x.2).1 (dA y.2).1];by_cases e:x=y
  .rw[decide_eq_true e] at q;rw[decide_eq_true (congrArg Subtype.val e)];exact q
  .rw[decide_eq_false e] at q;rw[decide_eq_false fun z=>e (Subtype.ext z)];exact q)
 quiet:=fun{A E s k a Q} ⟨as,r⟩ q=>vM 8 k.1 _ as A s Q (dA k.2).1 r (dA k.2).2 q
def OB (a:Pc) (xs:List (KD×Pc×V)) (w:Qc) (h:Heap):Prop:=
 (xs.length<=Po/\(a==QO)=Ph/\(xs.map (·.1)).Nodup)/\∃o es ep,h.get? a=lD o/\o.ExactDict/\o.data= .dict es ep/\Paired (fun(x:KD×Pc×V) (e:QT)=>e.hash=ny w x.1.1/\e.key= .ref x.2.1/\RelV x.2.2 e.val) xs es.toList
abbrev DkO (a:Pc) (xs:List (KD×Pc×V)):HO:= .exw (OB a xs)
abbrev PrD (O:bF) (K:OK) (H:Hp):List (KD×Pc×V)->List (D×D)->Prop:=
 Paired fun x a=>x.1.1=a.1/\L3.DV O K H (.ref x.2.1) a.1/\L3.DV O K H x.2.2 a.2
end LD
namespace L10
open PySem L2 L3
inductive AV where
 |fz (d:D)
 |rf (i:Nat)
inductive SV where
 |fz (d:D)
 |rf (i:Nat)
 |tp (l:List AV)
def AV.sv:AV->SV
 | .fz d=> .fz d
 | .rf i=> .rf i
inductive Cell where
 |lst (xs:List SV)
 |R9 (kvs:List (bT×SV))
 |obj (C:Str) (fs:List (Str×SV))
 |dd (kvs:List (D×D))
 |dead
abbrev aW:=List Cell
abbrev aX:=List (Option SV)
inductive RS (α:Type) where
 |ok (a:α) (ω:aW)
 |er (x:Xc) (ω:aW)
 |bad
def RS.bind (r:RS α) (f:α->aW->RS β):RS β:=match r with
 | .ok a ω=>f a ω
 | .er x ω=> .er x ω
 | .bad=> .bad
def RS.Qi (ω:aW):Option α->RS α
 |some a=> .ok a ω
 |none=> .bad
theorem RS.bind_ok (a:α) (ω:aW) (f:α->aW->RS β):(RS.ok a ω).bind f=f a ω:=rfl
def Lv (α:List Pc) (ω:aW):bF:=fun b=>∃(i:Nat) (c:Cell),α[i]? =lD b/\ω[i]? =lD c/\c≠Cell.dead
def ow (B:bF) (α:List Pc) (ω:aW):bF:=fun b=>B b\/Lv α ω b
section
variable (O:bF) (K:OK) (H:Hp) (Z:List Pc)
def AOk (v:V):AV->Prop
 | .fz d=>DV O K H v d
 | .rf i=>∃a,Z[i]? =lD a/\v= .ref a
def Tf (v:V):SV->Prop
 | .fz d=>DV O K H v d
 | .rf i=>∃a,Z[i]? =lD a/\v= .ref a
 | .tp l=>∃a xs,v= .ref a/\U1 O K H a xs/\Paired (AOk O K H Z) xs l
abbrev S6:List V->List SV->Prop:=Paired (Tf O K H Z)
def Zs (a:Pc):Cell->Prop
 | .lst xs=>∃vs,H a=lD (.lst vs)/\S6 O K H Z vs xs
 | .R9 kvs=>∃ws:List (bT×V),H a=lD (.dK ws)/\Paired (fun(p:bT×V) (q:bT×SV)=>p.1=q.1/\Tf O K H Z p.2 q.2) ws kvs
 | .obj C fs=>∃Ca dx ws,Qv K P7 C=lD (lD (.ref Ca))/\H a=lD (.ins Ca dx ws)/\Paired (fun(p:Str×V) (q:Str×SV)=>p.1=q.1/\Tf O K H Z p.2 q.2) ws fs
 | .dd kvs=>∃xs,H a=lD (LD.DkO a xs)/\LD.PrD O K H xs kvs
 | .dead=>True
def Su (a:L2.St) (ρ:aX):Prop:=a.length=ρ.length/\∀(i:Nat) (x:SV),ρ[i]? =lD (lD x)->∃v,a[i]? =lD (lD v)/\Tf O K H Z v x
end
structure P5 (B:bF) (K:OK) (H:Hp) (α:List Pc) (ω:aW):Prop where
 len:α.length=ω.length
 nd:∀(i j:Nat) (a:Pc),α[i]? =lD a->α[j]? =lD a->i=j
 bn:∀a,B a->H a≠Ld
 ba:∀a,B a->∀i:Nat,α[i]?≠lD a
 al:∀(i:Nat) (a:Pc),α[i]? =lD a->H a≠Ld
 Wc:∀(i:Nat) (a:Pc) (c:Cell),α[i]? =lD a->ω[i]? =lD c->Zs (ow B α ω) K H α a c
structure Ru (α:List Pc) (ω:aW) (H:Hp) (α':List Pc) (ω':aW) (H':Hp):Prop where
 pre:∀(i:Nat) (a:Pc),α[i]? =lD a->α'[i]? =lD a
 kp:∀b o,H b=lD o->¬Lv α ω b->H' b=lD o
 lv:∀b,Lv α' ω' b->Lv α ω b\/H b=Ld
section
variable {B O Q:bF} {K:OK} {E:XK} {H H' S N:Hp} {Z Y U T:List Pc} {ω X ω1 ω2:aW} {σ:L2.St} {ρ:aX} {v:V}
theorem Ru.refl:Ru Z ω H Z ω H:=⟨fun _ _ h=>h,fun _ _ h _=>h,fun _ h=> .inl h⟩
theorem Ru.trans (a:Ru Z ω H U ω1 S) (b:Ru U ω1 S T ω2 N):Ru Z ω H T ω2 N:=by
 have c:∀b o,H b=lD o->¬Lv Z ω b->¬Lv U ω1 b:=fun b o h n z=>(a.lv b z).elim n fun q=>by rw[h] at q;cases q
 refine⟨fun i p h=>b.pre i p (a.pre i p h),fun p o h n=>b.kp p o (a.kp p o h n) (c p o h n),fun p h=> ?_⟩;rcases b.lv p h with h|h
 .exact a.lv p h
 .cases q:H p with
  |none=>exact .inr rfl
  |some o=>refine .inl (Classical.byContradiction fun n=> ?_);rw[a.kp p o q n] at h;cases h
theorem Ru.same (s:Rg H H'):Ru Z ω H Z ω H':=⟨fun _ _ h=>h,fun b o h _=>s b o h,fun _ h=> .inl h⟩
theorem Ru.ev (e:Ru Z ω H Y X H'):Ev (ow B Z ω) H (ow B Y X) H':=fun b o h n=>
 ⟨e.kp b o h fun z=>n (.inr z),fun z=>z.elim (fun q=>n (.inl q)) fun q=>(e.lv b q).elim (fun q=>n (.inr q)) fun q=>by rw[h] at q;cases q⟩
theorem AOk.ev (e:Ev O H Q H') (p:∀(i:Nat) (a:Pc),Z[i]? =lD a->Y[i]? =lD a) (h:AOk O K H Z v x):AOk Q K H' Y v x:=by
 cases x with
 |fz d=>exact DV.ev e h
 |rf i=>obtain⟨a,h1,b⟩:=h;exact⟨a,p i a h1,b⟩
theorem Tf.ev (e:Ev O H Q H') (p:∀(i:Nat) (a:Pc),Z[i]? =lD a->Y[i]? =lD a) (h:Tf O K H Z v x):Tf Q K H' Y v x:=by
 cases x with
 |fz d=>exact DV.ev e h
 |rf i=>obtain⟨a,h1,b⟩:=h;exact⟨a,p i a h1,b⟩
 |tp l=>obtain⟨a,xs,h1,b,c⟩:=h;exact⟨a,xs,h1,b.ev e,Paired.TR c fun _ _ q=>q.ev e p⟩
theorem Tf.Sr (e:Ru Z ω H Y X H') (h:Tf (ow B Z ω) K H Z v x):Tf (ow B Y X) K H' Y v x:=h.ev e.ev e.pre
theorem S6.Sr (e:Ru Z ω H Y X H') (h:S6 (ow B Z ω) K H Z vs xs):S6 (ow B Y X) K H' Y vs xs:=Paired.TR h fun _ _ q=>q.Sr e
theorem Su.Sr (e:Ru Z ω H Y X H') (h:Su (ow B Z ω) K H Z σ ρ):Su (ow B Y X) K H' Y σ ρ:=⟨h.1,fun i x q=>let⟨v,h1,h2⟩:=h.2 i x q;⟨v,h1,h2.Sr e⟩⟩
theorem Zs.ev (e:Ev O H Q H') (p:∀(i:Nat) (a:Pc),Z[i]? =lD a->Y[i]? =lD a) (ha:∀o,H a=lD o->H' a=lD o) (h:Zs O K H Z a c):Zs Q K H' Y a c:=by
 cases c with
 |lst xs=>obtain⟨vs,h1,b⟩:=h;exact⟨vs,ha _ h1,Paired.TR b fun _ _ q=>q.ev e p⟩
 |R9 kvs=>obtain⟨d,h1,b⟩:=h;exact⟨d,ha _ h1,Paired.TR b fun _ _ q=>⟨q.1,q.2.ev e p⟩⟩
 |obj C fs=>obtain⟨f,dx,d,h0,h1,b⟩:=h;exact⟨f,dx,d,h0,ha _ h1,Paired.TR b fun _ _ q=>⟨q.1,q.2.ev e p⟩⟩
 |dd kvs=>obtain⟨xs,h1,b⟩:=h;exact⟨xs,ha _ h1,Paired.TR b fun _ _ q=>⟨q.1,q.2.1.ev e,q.2.2.ev e⟩⟩
 |dead=>trivial
theorem P5.WZ (s:P5 B K H Z ω):lL (ow B Z ω) H:=fun a h z=>z.elim (fun q=>s.bn a q h) fun⟨i,c,q,_⟩=>s.al i a q h
theorem P5.owd (s:P5 B K H Z ω):∀a,ow B Z ω a->H a≠Ld:=fun a z h=>s.WZ a h z
theorem P5.grow (s:P5 B K H Z ω) (e:Rg H H'):P5 B K H' Z ω:=by have n:∀a,H a≠Ld->H' a≠Ld:=fun a h z=>h (e.free z);exact⟨s.len,s.nd,fun a h=>n a (s.bn a h),s.ba,fun i a h=>n a (s.al i a h),fun i a c h1 b=>(s.Wc i a c h1 b).ev (Ev.grow e) (fun _ _ h=>h) fun o h=>e _ _ h⟩
theorem P5.at (s:P5 B K H Z ω) {i:Nat} (h:ω[i]? =lD c):∃a,Z[i]? =lD a:=by have:i<ω.length:=(O0.mp h).1;rw[<-s.len] at this;exact⟨_,Pq this⟩
theorem P5.Zw (s:P5 B K H Z ω) {i:Nat} (h:Z[i]? =lD a):¬B a:=fun z=>s.ba a z i h
theorem yE {i:Nat} {c g:Cell} (h:ω[i]? =lD c) (l:c≠ .dead) (m:g≠ .dead) {b:Pc}:Lv Z (ω.set i g) b↔Lv Z ω b:=by
 constructor
 .rintro⟨j,d,h1,a,f⟩
  rcases bO a with⟨rfl,rfl⟩|⟨_,a⟩
  .exact⟨j,c,h1,h,l⟩
  .exact⟨j,d,h1,a,f⟩
 .rintro⟨j,d,h1,a,f⟩
  by_cases e:j=i
  .subst e;exact⟨j,g,h1,by rw[RM (O0.mp h).1],m⟩
  .exact⟨j,d,h1,by rw[Sh (fun z=>e z.symm)];exact a,f⟩
theorem Ke (h:ω[i]? =lD c) (a:c≠ .dead) (d:c'≠ .dead):ow B Z (ω.set i c')=ow B Z ω:=by funext b;exact propext ⟨fun z=>z.imp id (yE h a d).mp,fun z=>z.imp id (yE h a d).mpr⟩
theorem Ru.put (ha:Z[i]? =lD a) (h:ω[i]? =lD c) (d:c≠ .dead) (f:c'≠ .dead):Ru Z ω H Z (ω.set i c') (upd H a o):=
 ⟨fun _ _ h=>h,fun b g q n=>by have z:b≠a:=fun e=>n ⟨i,c,by rw[e];exact ha,h,d⟩;rw[aA z];exact q,fun b z=> .inl ((yE h d f).mp z)⟩
theorem P5.put (s:P5 B K H Z ω) (ha:Z[i]? =lD a) (h:ω[i]? =lD c) (g:c≠ .dead) (l:c'≠ .dead) (new:Zs (ow B Z ω) K (upd H a o) Z a c'):P5 B K (upd H a o) Z (ω.set i c'):=by
 have e:Ru Z ω H Z (ω.set i c') (upd H a o):=Ru.put ha h g l;have n:∀b,H b≠Ld->upd H a o b≠Ld:=fun b h=>by
  by_cases z:b=a
  .subst z;rw[aD];simp
  .rw[aA z];exact h
 refine⟨by rw[QZ];exact s.len,s.nd,fun b h=>n b (s.bn b h),s.ba,fun j b h=>n b (s.al j b h),fun j b d h1 f=> ?_⟩;rcases bO f with⟨rfl,rfl⟩|⟨m,f⟩
 .rw[ha] at h1;cases h1;rw[Ke h g l];exact new
 .exact(s.Wc j b d h1 f).ev e.ev e.pre fun u q=>by rw[aA (fun z=>m (s.nd j i a (by rw[<-z];exact h1) ha))];exact q
theorem tY {i:Nat} {a:Pc} {c:Cell} {o:HO} (ha:Z[i]? =lD a) (h:ω[i]? =lD c) (b:c≠ .dead):Ev (ow B Z ω) H (ow B Z ω) (upd H a o):=Ev.mut (.inr ⟨i,c,ha,h,b⟩) o
theorem aY {Z:Type} {l:List Z} {x y:Z} {i:Nat} (h:(l++[x])[i]? =lD y):l[i]? =lD y\/(i=l.length/\y=x):=by
 by_cases hi:i<l.length
 .rw[Pz hi] at h;exact .inl h
 .rw[PH (by omega)] at h
  cases q:i - l.length with
  |zero=>rw[q] at h;cases h;exact .inr ⟨by omega,rfl⟩
  |succ n=>rw[q] at h;cases h
theorem fJ {Z:Type} {l:List Z} {x y:Z} {i:Nat} (h:l[i]? =lD y):(l++[x])[i]? =lD y:=by rw[Pz (O0.mp h).1];exact h
theorem aU:(l++[x])[l.length]? =lD x:=by simp
theorem pK (f:Z.length=ω.length) (h:Lv (Z++[p]) (ω++[c]) b):Lv Z ω b\/b=p:=by
 obtain⟨i,d,h1,a,e⟩:=h;rcases aY h1 with h1|⟨e1,e2⟩
 .rcases aY a with a|⟨e1,e2⟩
  .exact .inl ⟨i,d,h1,a,e⟩
  .have:=(O0.mp h1).1;omega
 .exact .inr e2
theorem Ru.Vs (f:Z.length=ω.length) (s:Rg H H') (d:H p=Ld):Ru Z ω H (Z++[p]) (ω++[c]) H':=
 ⟨fun i a h=>fJ h,fun b u q _=>s b u q,fun b z=>(pK f z).imp id fun e=>by rw[e];exact d⟩
theorem P5.Vs (s:P5 B K H Z ω) (e:Rg H H') (g:H p=Ld) (l:H' p≠Ld) (new:Zs (ow B (Z++[p]) (ω++[c])) K H' (Z++[p]) p c):P5 B K H' (Z++[p]) (ω++[c]):=by
 have ev:Ru Z ω H (Z++[p]) (ω++[c]) H':=Ru.Vs s.len e g;have n:∀b,H b≠Ld->H' b≠Ld:=fun b h z=>h (e.free z);refine⟨by rw[OZ,OZ,s.len];rfl,fun i j a h1 f=> ?_,fun a h=>n a (s.bn a h),fun a h i q=> ?_,fun i a h=> ?_,fun i a d h1 f=> ?_⟩
 .rcases aY h1 with g1|⟨e1,e2⟩<;>rcases aY f with g2|⟨e3,e4⟩
  .exact s.nd i j a g1 g2
  .exact absurd (by rw[e4];exact g) (s.al i a g1)
  .exact absurd (by rw[e2];exact g) (s.al j a g2)
  .omega
 .rcases aY q with q|⟨_,e2⟩
  .exact s.ba a h i q
  .subst e2;exact s.bn a h g
 .rcases aY h with h|⟨_,e2⟩
  .exact n a (s.al i a h)
  .subst e2;exact l
 .rcases aY f with f|⟨e1,e2⟩
  .rcases aY h1 with h1|⟨e1,_⟩
   .exact(s.Wc i a d h1 f).ev ev.ev ev.pre fun o q=>e _ _ q
   .have:=(O0.mp f).1;have:=s.len;omega
  .rcases aY h1 with h1|⟨_,e3⟩
   .have:=(O0.mp h1).1;have:=s.len;omega
   .subst e2 e3;exact new
def WS (K:OK) (E:XK) (B:bF) (H:Hp) (Z:List Pc) (ω:aW) (P:A->List Pc->aW->Hp->Prop):RS A->Prop
 | .ok a X=>∀Y H',Ru Z ω H Y X H'->P5 B K H' Y X->P a Y X H'
 | .er x X=>∀c dx Y H',Ru Z ω H Y X H'->P5 B K H' Y X->Zy K (ow B Y X) H' c dx x->E c dx H'
 | .bad=>False
theorem WS.from (e:Ru Z ω H U ω1 S) (h:WS K E B H Z ω P r):WS K E B S U ω1 P r:=by
 cases r with
 |ok a ω2=>exact fun T N d b=>h T N (e.trans d) b
 |er x ω2=>exact fun c dx T N d b=>h c dx T N (e.trans d) b
 |bad=>exact h
theorem WS.bind (h:WS K E B H Z ω P (r.bind k)):WS K E B H Z ω (fun a U ω1 S=>WS K E B S U ω1 P (k a ω1)) r:=by
 cases r with
 |ok a ω1=>exact fun U S b _=>WS.from b h
 |er x ω1=>exact h
 |bad=>exact h
theorem WS.Qi (h:WS K E B H Z ω P ((RS.Qi ω o).bind k)):∃a,o=lD a/\WS K E B H Z ω P (k a ω):=by
 cases o with
 |none=>exact h.elim
 |some a=>exact⟨a,rfl,h⟩
theorem WS.imp (h:WS K E B H Z ω P r) (g:∀a Y X H',Ru Z ω H Y X H'->P5 B K H' Y X->P a Y X H'->P' a Y X H'):WS K E B H Z ω P' r:=by
 cases r with
 |ok a ω1=>exact fun U S c b=>g a U ω1 S c b (h U S c b)
 |er x ω1=>exact h
 |bad=>exact h
theorem WS.now (s:P5 B K H Z ω) (h:WS K E B H Z ω P (.ok a ω)):P a Z ω H:=h Z H .refl s
end
abbrev cE:=aX->aW->RS SV
abbrev sG:=aX->aW->RS Bool
abbrev AR:=aX->aW->RS (List SV)
def cZ (K:OK) (E:XK) (t:TE) (f:cE):Prop:=
 ∀(B:bF) (c:L2.St) (H:Hp) (α:List Pc) (ω:aW) (ρ:aX) (Q:VK),P5 B K H α ω->Su (ow B α ω) K H α c ρ->WS K E B H α ω (fun x a b d=>∀v,Tf (ow B a b) K d a v x->Q v d) (f ρ ω)->t c H Q
def yZ (K:OK) (E:XK) (t:TT) (f:sG):Prop:=
 ∀(B:bF) (a:L2.St) (H:Hp) (α:List Pc) (ω:aW) (ρ:aX) (Q:Bool->Hp->Prop),P5 B K H α ω->Su (ow B α ω) K H α a ρ->WS K E B H α ω (fun b _ _ c=>Q b c) (f ρ ω)->t a H Q
def Ia (K:OK) (E:XK) (t:TA) (f:AR):Prop:=
 ∀(B:bF) (c:L2.St) (H:Hp) (α:List Pc) (ω:aW) (ρ:aX) (Q:List V->Hp->Prop),P5 B K H α ω->Su (ow B α ω) K H α c ρ->WS K E B H α ω (fun xs a b d=>∀vs,S6 (ow B a b) K d a vs xs->Q vs d) (f ρ ω)->t c H Q
section
variable {B O P:bF} {K:OK} {E:XK} {H H' U H2:Hp} {Z T Y M:List Pc} {ω N ω1 ω2:aW} {X:L2.St} {ρ:aX} {v:V}
def Jk:Option SV->Option PV
 |some (.fz d)=>lD (.fz d)
 |_=>Ld
def dI (ρ:aX):aO:=ρ.map Jk
theorem rC {i:Nat} (h:(dI ρ)[i]? =lD (lD x)):∃d,x= .fz d/\ρ[i]? =lD (lD (.fz d)):=by
 unfold dI at h;rw[Pg] at h;cases q:ρ[i]? with
 |none=>rw[q] at h;cases h
 |some o=>
  rw[q] at h;have a:=PK h;unfold Jk at a;split at a
  .cases a;exact⟨_,rfl,rfl⟩
  .cases a
theorem CF (s:P5 B K H Z ω) (a:Su (ow B Z ω) K H Z X ρ):Rl K (ow B Z ω) H (ow B Z ω) X H (dI ρ):=by
 refine⟨Rg.refl _,fun _ h=>h,s.owd,s.WZ,by unfold dI;rw[OX];exact a.1,fun i x h=> ?_,fun i j ds f w h=> ?_⟩
 .obtain⟨d,rfl,b⟩:=rC h;obtain⟨v,h1,c⟩:=a.2 i _ b;exact⟨v,h1,c⟩
 .obtain⟨d,e,_⟩:=rC h;cases e
def jo (ω:aW):RV->RS SV
 | .fz d=> .ok (.fz d) ω
 | .ow ds=> .ok (.rf ω.length) (ω++[.lst (ds.map .fz)])
abbrev PQ (B:bF) (K:OK) (Q:VK):SV->List Pc->aW->Hp->Prop:=fun x T N H'=>∀v,Tf (ow B T N) K H' T v x->Q v H'
theorem mW (O:bF) (Z:List Pc):∀{vs:List V} {ds:List D},QV O K H vs ds->S6 O K H Z vs (ds.map .fz)
 |_,_,.nil=> .nil
 |_,_,.cons h t=> .cons h (mW O Z t)
theorem yV:∀{vs:List V} {ds:List D},S6 O K H Z vs (ds.map .fz)->QV O K H vs ds
 |_,[],.nil=> .nil
 |_,_::_,.cons h t=> .cons h (yV t)
theorem oQ (s:P5 B K H Z ω) (w:WS K E B H Z ω (PQ B K Q) (jo ω (.ow ds))) (e:Rg H H') (a:H p=Ld) (h:H' p=lD (.lst vs)) (f:QV P K H' vs ds) (c:∀b,ow B Z ω b->P b) (d:P p):Q (.ref p) H':=by
 have sub:∀b,ow B (Z++[p]) (ω++[.lst (ds.map .fz)]) b->P b:=fun b z=>z.elim (fun q=>c b (.inl q)) fun q=>(pK s.len q).elim (fun q=>c b (.inr q)) fun q=>by rw[q];exact d
 exact w (Z++[p]) H' (Ru.Vs s.len e a) (s.Vs e a (by rw[h];simp) ⟨vs,h,mW _ _ (f.ev (Ev.sub sub))⟩) (.ref p) ⟨p,by rw[<-s.len];exact aU,rfl⟩
theorem C5 (s:P5 B K H Z ω) (w:WS K E B H Z ω (PQ B K Q) (jo ω rv)):Fin (ow B Z ω) K H Q rv:=by
 cases rv with
 |fz d=>exact fun v H' e a=>w Z H' (Ru.same e) (s.grow e) v a
 |ow ds=>exact fun p vs H' e c h a=>oQ s w e c h a (fun b z=> .inl z) (.inr rfl)
def aq (f:FE):cE:=fun ρ ω=>match f (dI ρ) with
 | .ok (.fz d,_)=> .ok (.fz d) ω
 | .ok (.ow ds,_)=>jo ω (.ow ds)
 | .ok (.pl _,_)=> .bad
 | .er x=> .er x ω
 | .bad=> .bad
theorem aB (h:EO K E t f):cZ K E t (aq f):=by
 intro B X H Z ω ρ Q s g w;refine h (ow B Z ω) H (ow B Z ω) X H (dI ρ) Q (CF s g) ?_;unfold aq at w;cases q:f (dI ρ) with
 |bad=>rw[q] at w;exact w.elim
 |er x=>rw[q] at w;exact fun c dx H' e k=>w c dx Z H' (Ru.same e) (s.grow e) k
 |ok r=>
  obtain⟨pv,b⟩:=r;rw[q] at w;intro P v H' e R p;cases pv with
  |fz d=>exact w Z H' (Ru.same R.same) (s.grow R.same) v (DV.ev (Ev.sub R.bo) p)
  |ow ds=>obtain⟨a,vs,rfl,h1,m,l,j,n⟩:=p;exact oQ s w R.same m l j R.bo h1
  |pl i=>exact w.elim
def kY (f:FT):sG:=fun ρ ω=>match f (dI ρ) with
 | .ok (b,_)=> .ok b ω
 | .er x=> .er x ω
 | .bad=> .bad
theorem vq (h:WL K E t f):yZ K E t (kY f):=by
 intro B X H Z ω ρ Q s d w;refine h (ow B Z ω) H (ow B Z ω) X H (dI ρ) Q (CF s d) ?_;unfold kY at w;cases q:f (dI ρ) with
 |bad=>rw[q] at w;exact w.elim
 |er x=>rw[q] at w;exact fun c dx H' e k=>w c dx Z H' (Ru.same e) (s.grow e) k
 |ok r=>obtain⟨b,a⟩:=r;rw[q] at w;exact fun P H' e R=>w Z H' (Ru.same R.same) (s.grow R.same)
def bw (i:Nat):cE:=fun ρ ω=>match ρ[i]? with
 |some (lD x)=> .ok x ω
 |_=> .bad
theorem bh:cZ K E (qU i) (bw i):=by
 intro B X H Z ω ρ Q s a w;unfold bw at w;cases q:ρ[i]? with
 |none=>rw[q] at w;exact w.elim
 |some o=>
  cases o with
  |none=>rw[q] at w;exact w.elim
  |some x=>rw[q] at w;obtain⟨v,h1,b⟩:=a.2 i x q;exact⟨v,h1,WS.now s w v b⟩
def ar {Z a:Type} (f:Z->Option a):List Z->Option (List a)
 |[]=>lD []
 |x::r=>match f x with
  |some y=>(match ar f r with
   |some ys=>lD (y::ys)
   |none=>Ld)
  |none=>Ld
def kS:Nat->aW->SV->Option D
 |_,_,.fz d=>lD d
 |0,_,_=>Ld
 |n+1,ω,.rf i=>match ω[i]? with
  |some (.lst xs)=>(ar (kS n ω) xs).map .list
  |_=>Ld
 |n+1,ω,.tp l=>(ar (fun x=>kS n ω x.sv) l).map .tuple
theorem cP {Z a:Type} {f:Z->Option a} {R:V->Z->Prop} {S:V->a->Prop} (h:∀v x y,R v x->f x=lD y->S v y):∀{vs:List V} {xs:List Z} {ys:List a},Paired R vs xs->ar f xs=lD ys->Paired S vs ys
 |_,_,_,.nil,e=>by cases e;exact .nil
 |_,_,_,.cons (b:=x) (l₂:=xs) r t,e=>by
  unfold ar at e;cases q:f x with
  |none=>rw[q] at e;cases e
  |some y=>
   rw[q] at e;dsimp only at e;cases q2:ar f xs with
   |none=>rw[q2] at e;cases e
   |some ys=>rw[q2] at e;cases e;exact .cons (h _ _ _ r q) (cP h t q2)
theorem jA:∀{vs:List V} {ds:List D},Paired (DV O K H) vs ds->QV O K H vs ds
 |_,_,.nil=> .nil
 |_,_,.cons h t=> .cons h (jA t)
theorem IR:Ev O H WZ H:=Ev.sub fun _ z=>z.elim
theorem kj (s:P5 B K H Z ω):∀(n:Nat) {v:V} {x:SV} {d:D},Tf (ow B Z ω) K H Z v x->kS n ω x=lD d->DV WZ K H v d
 |n,v,.fz d',d,h,e=>by
  have f:lD d'=lD d:=by cases n<;>exact e
  cases f;exact DV.ev IR h
 |0,v,.rf i,d,h,e=>by cases e
 |0,v,.tp l,d,h,e=>by cases e
 |n+1,v,.rf i,d,h,e=>by
  obtain⟨a,ha,rfl⟩:=h;unfold kS at e;cases q:ω[i]? with
  |none=>rw[q] at e;cases e
  |some c=>
   rw[q] at e;cases c with
   |lst xs=>
    dsimp only at e;cases q2:ar (kS n ω) xs with
    |none=>rw[q2] at e;cases e
    |some ds=>rw[q2] at e;cases e;obtain⟨vs,h1,b⟩:=s.Wc i a _ ha q;exact .lst ⟨Tv.of h1,fun z=>z.elim⟩ (jA (cP (R:=Tf (ow B Z ω) K H Z) (fun v x y r e=>kj s n r e) b q2))
   |_=>cases e
 |n+1,v,.tp l,d,h,e=>by
  obtain⟨a,xs,rfl,h1,b⟩:=h;unfold kS at e;cases q2:ar (fun x=>kS n ω x.sv) l with
  |none=>rw[q2] at e;cases e
  |some ds=>rw[q2] at e;cases e;exact .tup (h1.ev IR) (jA (cP (fun v x y r e=>kj s n (by cases x<;>exact r) e) b q2))
def mJ:SV->Option D
 | .fz d=>lD d
 |_=>Ld
def sh (ω:aW):SV->Option D
 | .fz d=>lD d
 | .rf i=>match ω[i]? with
  |some (.lst xs)=>(ar mJ xs).map .list
  |_=>Ld
 | .tp _=>Ld
theorem Dn (s:P5 B K H Z ω) (h:Tf (ow B Z ω) K H Z v x) (e:sh ω x=lD d):DX (ow B Z ω) K H v d:=by
 cases x with
 |fz f=>cases e;exact DV.x h
 |tp l=>cases e
 |rf i=>
  obtain⟨a,ha,rfl⟩:=h;unfold sh at e;dsimp only at e;cases q:ω[i]? with
  |none=>rw[q] at e;cases e
  |some c=>
   rw[q] at e;cases c with
   |lst xs=>
    dsimp only at e;cases q2:ar mJ xs with
    |none=>rw[q2] at e;cases e
    |some ds=>
     rw[q2] at e;cases e;obtain⟨vs,h1,b⟩:=s.Wc i a _ ha q;refine⟨a,vs,rfl,Tv.of h1,jA (cP (fun v x y r e=> ?_) b q2)⟩;cases x with
     |fz d=>cases e;exact r
     |rf i=>cases e
     |tp l=>cases e
   |_=>cases e
def Br:D->Bool
 | .none=>Pb
 | .bool _=>Pb
 | .int _=>Pb
 | .str _=>Pb
 |_=>Ph
theorem Gw (h:Br d=Pb) (a:DV O K H v d):DV P K H' v d:=by
 cases a with
 |S4=>exact .S4
 |bl b=>exact .bl b
 |int i=>exact .int i
 |str x=>exact .str x
 |tup _ _=>cases h
 |lst _ _=>cases h
def kB (ω:aW):RV->RS SV
 | .fz d=>if Br d=Pb then .ok (.fz d) ω else .bad
 | .ow _=> .bad
theorem C7 (s:P5 B K H Z ω) (w:WS K E B H Z ω (PQ B K Q) (kB ω rv)):Fin WZ K H Q rv:=by
 cases rv with
 |fz d=>
  have w:WS K E B H Z ω (PQ B K Q) (if Br d=Pb then RS.ok (SV.fz d) ω else RS.bad):=w;by_cases z:Br d=Pb
  .rw[if_pos z] at w;exact fun v H' e a=>w Z H' (Ru.same e) (s.grow e) v (Gw z a)
  .rw[if_neg z] at w;exact w.elim
 |ow ds=>exact w.elim
theorem D9:lL WZ H:=fun _ _ z=>z
def pU (f:D->D->Option RV) (x y:SV) (ω:aW):RS SV:=match sh ω x,sh ω y with
 |some dx,lD b=>(RS.Qi ω (f dx b)).bind fun rv ω1=>jo ω1 rv
 |_,_=>(RS.Qi ω (kS 6 ω x)).bind fun dx ω1=>(RS.Qi ω1 (kS 6 ω1 y)).bind fun b ω2=>(RS.Qi ω2 (f dx b)).bind fun rv a=>kB a rv
theorem yJ (m:kG K r f) (s:P5 B K H Z ω) (l:Tf (ow B Z ω) K H Z x a) (j:Tf (ow B Z ω) K H Z y b) (w:WS K E B H Z ω (PQ B K Q) (pU f a b ω)):r x y H Q:=by
 have c:WS K E B H Z ω (PQ B K Q) ((RS.Qi ω (kS 6 ω a)).bind fun dx ω1=>(RS.Qi ω1 (kS 6 ω1 b)).bind fun g ω2=>(RS.Qi ω2 (f dx g)).bind fun rv h=>kB h rv)->r x y H Q:=fun w=>by obtain⟨dx,d,w⟩:=w.Qi;obtain⟨g,e,w⟩:=w.Qi;obtain⟨rv,i,w⟩:=w.Qi;exact m WZ H x y dx g rv Q D9 (DV.x (kj s 6 l d)) (DV.x (kj s 6 j e)) i (C7 s w)
 unfold pU at w;cases d:sh ω a with
 |none=>rw[d] at w;exact c w
 |some dx=>
  cases e:sh ω b with
  |none=>rw[d,e] at w;exact c w
  |some g=>rw[d,e] at w;obtain⟨rv,i,w⟩:=w.Qi;exact m _ H x y dx g rv Q s.WZ (Dn s l d) (Dn s j e) i (C5 s w)
def F4 (f:D->D->Option RV) (fa fb:cE):cE:=fun ρ ω=>(fa ρ ω).bind fun x ω1=>(fb ρ ω1).bind fun y ω2=>pU f x y ω2
theorem oU (i:kG K r f) (ha:cZ K E ta fa) (hb:cZ K E tb fb):cZ K E (Il r ta tb) (F4 f fa fb):=by intro B X H Z ω ρ Q s a w;refine ha B X H Z ω ρ _ s a (w.bind.imp fun x Y ω1 U l e c v g=> ?_);refine hb B X U Y ω1 ρ _ e (a.Sr l) (c.bind.imp fun y M ω2 H2 j d b u h=> ?_);exact yJ i d (g.Sr j) h b
def Hm:SV->Option Bool
 | .fz (.bool b)=>lD b
 |_=>Ld
theorem Gv (e:Hm x=lD b) (h:Tf O K H Z v x):v= .bl b:=by
 unfold Hm at e;split at e
 .cases e;cases h;rfl
 .cases e
def eZ (fa:cE):sG:=fun ρ ω=>(fa ρ ω).bind fun x ω1=>RS.Qi ω1 (Hm x)
theorem lz (ha:cZ K E ta fa):yZ K E (DJ ta) (eZ fa):=by
 intro B X H Z ω ρ Q s c w;refine ha B X H Z ω ρ _ s c (w.bind.imp fun x Y ω1 U f d a v e=> ?_);cases q:Hm x with
 |none=>rw[q] at a;exact a.elim
 |some b=>rw[q] at a;exact⟨b,Gv q e,WS.now d a⟩
theorem rq (ha:cZ K E ta fa):yZ K E (tB ta) (eZ fa):=lz ha
def BG (fa fb:sG):sG:=fun ρ ω=>(fa ρ ω).bind fun b ω1=>if b=Pb then fb ρ ω1 else .ok Ph ω1
def LB (fa fb:sG):sG:=fun ρ ω=>(fa ρ ω).bind fun b ω1=>if b=Pb then .ok Pb ω1 else fb ρ ω1
def yc (fa:sG):sG:=fun ρ ω=>(fa ρ ω).bind fun b ω1=> .ok (!b) ω1
theorem G3 (h1:yZ K E t f) (e:yZ K E u g):yZ K E (JW t u) (BG f g):=by
 intro B X H Z ω ρ Q s c w;refine h1 B X H Z ω ρ _ s c (w.bind.imp fun b Y ω1 U h d a=> ?_);cases b with
 |true=>exact e B X U Y ω1 ρ Q d (c.Sr h) a
 |false=>exact WS.now d a
theorem Kx (h1:yZ K E t f) (e:yZ K E u g):yZ K E (NP t u) (LB f g):=by
 intro B X H Z ω ρ Q s c w;refine h1 B X H Z ω ρ _ s c (w.bind.imp fun b Y ω1 U h d a=> ?_);cases b with
 |true=>exact WS.now d a
 |false=>exact e B X U Y ω1 ρ Q d (c.Sr h) a
theorem zr (h1:yZ K E t f):yZ K E (KM t) (yc f):=by intro B X H Z ω ρ Q s c w;exact h1 B X H Z ω ρ _ s c (w.bind.imp fun b Y ω1 U e d a=>WS.now d a)
def d5:AR:=fun _ ω=> .ok [] ω
def bp (fa:cE) (a:AR):AR:=fun ρ ω=>(fa ρ ω).bind fun x ω1=>(a ρ ω1).bind fun xs ω2=> .ok (x::xs) ω2
theorem dz:Ia K E qw d5:=fun B X H Z ω ρ Q s a w=>WS.now s w [] .nil
theorem bE (ha:cZ K E ta fa) (h:Ia K E tr fr):Ia K E (gQ ta tr) (bp fa fr):=by intro B X H Z ω ρ Q s b w;refine ha B X H Z ω ρ _ s b (w.bind.imp fun x Y ω1 U j f d v g=> ?_);refine h B X U Y ω1 ρ _ f (b.Sr j) (d.bind.imp fun xs M ω2 H2 i e c vs a=> ?_);exact WS.now e c (v::vs) (.cons (g.Sr i) a)
def Nk:SV->Option AV
 | .fz d=>lD (.fz d)
 | .rf i=>lD (.rf i)
 | .tp _=>Ld
def N9 (xs:List SV):Option SV:=match ar mJ xs with
 |some ds=>lD (.fz (.tuple ds))
 |none=>(ar Nk xs).map .tp
def Gf (fa:AR):cE:=fun ρ ω=>(fa ρ ω).bind fun xs ω1=>if xs.length<=1000 then RS.Qi ω1 (N9 xs) else .bad
theorem xI (r:Tf O K H Z v x) (e:mJ x=lD d):DV O K H v d:=by
 cases x with
 |fz d=>cases e;exact r
 |rf i=>cases e
 |tp l=>cases e
theorem Kj (r:Tf O K H Z v x) (e:Nk x=lD d):AOk O K H Z v d:=by
 cases x with
 |fz d=>cases e;exact r
 |rf i=>cases e;exact r
 |tp l=>cases e
theorem AY (ha:Ia K E ta fa):cZ K E (Gx ta) (Gf fa):=by
 intro B X H Z ω ρ Q s i w;refine ha B X H Z ω ρ _ s i (w.bind.imp fun xs Y ω1 U j c a vs d=> ?_);by_cases hn:xs.length<=1000
 .rw[if_pos hn] at a
  refine⟨by rw[d.length];exact xt hn,fun p h=> ?_⟩;have b:Rg U (upd U p (.tup vs)):=bU h _;have e:Ru Y ω1 U Y ω1 (upd U p (.tup vs)):=Ru.same b;have g:U1 (ow B Y ω1) K (upd U p (.tup vs)) p vs:=⟨TX.of aD,fun z=>absurd z (c.WZ p h)⟩;unfold N9 at a;cases q:ar mJ xs with
  |some ds=>rw[q] at a;exact a Y _ e (c.grow b) _ (.tup g (jA (cP (R:=Tf (ow B Y ω1) K U Y) (fun v x y r f=>(xI r f).ev e.ev) d q)))
  |none=>
   rw[q] at a;dsimp only at a;cases q2:ar Nk xs with
   |none=>rw[q2] at a;exact a.elim
   |some l=>rw[q2] at a;exact a Y _ e (c.grow b) _ ⟨p,vs,rfl,g,cP (R:=Tf (ow B Y ω1) K U Y) (fun v x y r f=>(Kj r f).ev e.ev e.pre) d q2⟩
 .rw[if_neg hn] at a;exact a.elim
def HI (f:List D->Option RV) (xs:List SV) (ω:aW):RS SV:=match ar (sh ω) xs with
 |some ds=>(RS.Qi ω (f ds)).bind fun rv ω1=>jo ω1 rv
 |_=>(RS.Qi ω (ar (kS 6 ω) xs)).bind fun ds ω1=>(RS.Qi ω1 (f ds)).bind fun rv a=>kB a rv
def Cw (f:List D->Option RV) (fa:AR):cE:=fun ρ ω=>(fa ρ ω).bind fun xs ω1=>HI f xs ω1
theorem pO (g:Jd K r f) (ha:Ia K E ta fa):cZ K E (G8 r ta) (Cw f fa):=by
 intro B X H Z ω ρ Q s h w;refine ha B X H Z ω ρ _ s h (w.bind.imp fun xs Y ω1 U j b a vs d=> ?_);unfold HI at a;cases q1:ar (sh ω1) xs with
 |none=>rw[q1] at a;obtain⟨ds,i,a⟩:=a.Qi;obtain⟨rv,c,a⟩:=a.Qi;exact g WZ U vs ds rv Q D9 (cP (R:=Tf (ow B Y ω1) K U Y) (fun v x y r e=>DV.x (kj b 6 r e)) d i) c (C7 b a)
 |some ds=>rw[q1] at a;obtain⟨rv,c,a⟩:=a.Qi;exact g _ U vs ds rv Q b.WZ (cP (R:=Tf (ow B Y ω1) K U Y) (fun v x y r e=>Dn b r e) d q1) c (C5 b a)
end
section
variable {B O O':bF} {K:OK} {E:XK} {H H' S N:Hp} {Z α' X T:List Pc} {ω Y ω1 ω2:aW} {U:L2.St} {ρ:aX} {v:V}
theorem xR:∀{vs:List V} {xs:List β} {i:Nat} {x:β},Paired R vs xs->xs[i]? =lD x->∃v,vs[i]? =lD v/\R v x
 |_,_,_,_,.nil,e=>by simp at e
 |_,_,0,_,.cons h _,e=>by simp at e;subst e;exact⟨_,rfl,h⟩
 |_,_,i+1,x,.cons _ t,e=>by obtain⟨v,h1,a⟩:=xR t (by simpa using e);exact⟨v,by simpa using h1,a⟩
theorem Ja {vs:List V} (h:Paired R vs xs) (e:kU xs i=lD x):∃v,kU vs i=lD v/\R v x:=by
 unfold kU at e⊢;rw[h.length];cases q:F3 xs.length i with
 |none=>rw[q] at e;cases e
 |some j=>rw[q] at e;exact xR h e
def Gs:SV->Option Int
 | .fz (.int i)=>lD i
 |_=>Ld
theorem AD (e:Gs x=lD i) (h:Tf O K H Z v x):v= .int i:=by
 unfold Gs at e;split at e
 .cases e;cases h;rfl
 .cases e
def MD (x y:SV) (ω:aW):RS SV:=match x with
 | .fz _=>pU dR x y ω
 | .rf j=>(match ω[j]? with
  |some (.lst xs)=>(RS.Qi ω (Gs y)).bind fun i ω1=>RS.Qi ω1 (kU xs i)
  |_=> .bad)
 | .tp l=>(RS.Qi ω (Gs y)).bind fun i ω1=>RS.Qi ω1 ((kU l i).map AV.sv)
def rF (fa fb:cE):cE:=fun ρ ω=>(fa ρ ω).bind fun x ω1=>(fb ρ ω1).bind fun y ω2=>MD x y ω2
theorem pS (ha:cZ K E ta fa) (hb:cZ K E tb fb):cZ K E (Il (No K) ta tb) (rF fa fb):=by
 intro B U H Z ω ρ Q s p w;refine ha B U H Z ω ρ _ s p (w.bind.imp fun x X ω1 S C t r v e=> ?_);refine hb B U S X ω1 ρ _ t (p.Sr C) (r.bind.imp fun y T ω2 N A f b u n=> ?_);have e:=e.Sr A;unfold MD at b;cases x with
 |fz d=>exact yJ ff f e n b
 |rf j=>
  obtain⟨a,ha,rfl⟩:=e;dsimp only at b;cases q:ω2[j]? with
  |none=>rw[q] at b;exact b.elim
  |some c=>
   rw[q] at b;cases c with
   |lst xs=>
    obtain⟨i,h,b⟩:=WS.Qi b;cases qa:kU xs i with
    |none=>rw[qa] at b;exact b.elim
    |some x=>rw[qa] at b;obtain⟨vs,h1,o⟩:=f.Wc j a _ ha q;obtain⟨z,m,g⟩:=Ja o qa;exact .inl ⟨a,vs,i,z,rfl,AD h n,Um.of h1,m,WS.now f b z g⟩
   |_=>exact b.elim
 |tp l=>
  obtain⟨a,xs,rfl,h1,o⟩:=e;obtain⟨i,h,b⟩:=WS.Qi b;cases qa:kU l i with
  |none=>rw[qa] at b;exact b.elim
  |some x=>rw[qa] at b;obtain⟨z,m,g⟩:=Ja o qa;exact .inr (.inl ⟨a,xs,i,z,rfl,AD h n,h1.1,m,WS.now f b z (by cases x<;>exact g)⟩)
theorem HU (h:Lv Z (ω.set i .dead) b):Lv Z ω b:=by
 obtain⟨j,c,h1,a,d⟩:=h;rcases bO a with⟨rfl,rfl⟩|⟨_,a⟩
 .exact absurd rfl d
 .exact⟨j,c,h1,a,d⟩
theorem Ru.kill:Ru Z ω H Z (ω.set i .dead) H:=⟨fun _ _ h=>h,fun _ _ h _=>h,fun _ h=> .inl (HU h)⟩
theorem P5.kill (s:P5 B K H Z ω) (i:Nat):P5 B K H Z (ω.set i .dead):=by
 have e:Ru Z ω H Z (ω.set i .dead) H:=Ru.kill;refine⟨by rw[QZ];exact s.len,s.nd,s.bn,s.ba,s.al,fun j b d h1 a=> ?_⟩;rcases bO a with⟨rfl,rfl⟩|⟨c,a⟩
 .exact trivial
 .exact(s.Wc j b d h1 a).ev e.ev e.pre fun u q=>q
theorem P5.aaE (s:P5 B K H Z ω) (ha:Z[i]? =lD a):¬ow B Z (ω.set i .dead) a:=by
 rintro(z|⟨j,c,h1,d,b⟩)
 .exact s.Zw ha z
 .have:=s.nd j i a h1 ha
  subst this;rcases bO d with⟨_,rfl⟩|⟨e,_⟩
  .exact b rfl
  .exact e rfl
def ri (g:aW->SV->Option (D×aW)):aW->List SV->Option (List D×aW)
 |ω,[]=>lD ([],ω)
 |ω,x::r=>match g ω x with
  |some (d,ω1)=>(match ri g ω1 r with
   |some (ds,ω2)=>lD (d::ds,ω2)
   |none=>Ld)
  |none=>Ld
def frz:Nat->aW->SV->Option (D×aW)
 |_,ω,.fz d=>lD (d,ω)
 |0,_,_=>Ld
 |n+1,ω,.rf i=>match ω[i]? with
  |some (.lst xs)=>(match ri (frz n) ω xs with
   |some (ds,ω1)=>lD (.list ds,ω1.set i .dead)
   |none=>Ld)
  |_=>Ld
 |n+1,ω,.tp l=>match ri (frz n) ω (l.map AV.sv) with
  |some (ds,ω1)=>lD (.tuple ds,ω1)
  |none=>Ld
theorem uL (a:∀{ω Y:aW} {v:V} {x:SV} {d:D},P5 B K H Z ω->Tf (ow B Z ω) K H Z v x->g ω x=lD (d,Y)->P5 B K H Z Y/\Ru Z ω H Z Y H/\L3.DV (ow B Z Y) K H v d):
  ∀{vs:List V} {xs:List SV} {ds:List D} {ω Y:aW},P5 B K H Z ω->S6 (ow B Z ω) K H Z vs xs->ri g ω xs=lD (ds,Y)->P5 B K H Z Y/\Ru Z ω H Z Y H/\L3.QV (ow B Z Y) K H vs ds
 |_,_,_,ω,Y,s,.nil,e=>by cases e;exact⟨s,.refl,.nil⟩
 |_,_,_,ω,Y,s,.cons (b:=x) (l₂:=xs) r t,e=>by
  unfold ri at e;cases q:g ω x with
  |none=>rw[q] at e;cases e
  |some p=>
   obtain⟨d,ω1⟩:=p;rw[q] at e;dsimp only at e;obtain⟨i,f,m⟩:=a s r q;cases q2:ri g ω1 xs with
   |none=>rw[q2] at e;cases e
   |some j=>obtain⟨ds,ω2⟩:=j;rw[q2] at e;cases e;obtain⟨h,c,l⟩:=uL a i (S6.Sr f t) q2;exact⟨h,f.trans c,.cons (m.ev c.ev) l⟩
theorem sK:∀{vs:List V} {l:List AV},Paired (AOk O K H Z) vs l->S6 O K H Z vs (l.map AV.sv)
 |_,_,.nil=> .nil
 |_,_,.cons (b:=x) h t=> .cons (by cases x<;>exact h) (sK t)
theorem uy:∀(n:Nat) {ω Y:aW} {v:V} {x:SV} {d:D},P5 B K H Z ω->Tf (ow B Z ω) K H Z v x->frz n ω x=lD (d,Y)->P5 B K H Z Y/\Ru Z ω H Z Y H/\L3.DV (ow B Z Y) K H v d
 |n,ω,Y,v,.fz d',d,s,h,e=>by
  have m:lD (d',ω)=lD (d,Y):=by cases n<;>exact e
  cases m;exact⟨s,.refl,h⟩
 |0,_,_,v,.rf i,d,s,h,e=>by cases e
 |0,_,_,v,.tp l,d,s,h,e=>by cases e
 |n+1,ω,Y,v,.rf i,d,s,h,e=>by
  obtain⟨a,ha,rfl⟩:=h;unfold frz at e;cases q:ω[i]? with
  |none=>rw[q] at e;cases e
  |some c=>
   rw[q] at e;cases c with
   |lst xs=>
    dsimp only at e;obtain⟨vs,h1,g⟩:=s.Wc i a _ ha q;cases q2:ri (frz n) ω xs with
    |none=>rw[q2] at e;cases e
    |some p=>obtain⟨ds,ω1⟩:=p;rw[q2] at e;cases e;obtain⟨b,f,j⟩:=uL (fun s h e=>uy n s h e) s g q2;exact⟨b.kill i,f.trans Ru.kill,uJ h1 (b.aaE ha) (j.ev (Ru.kill).ev)⟩
   |_=>cases e
 |n+1,ω,Y,v,.tp l,d,s,h,e=>by
  obtain⟨a,xs,rfl,h1,g⟩:=h;unfold frz at e;cases q2:ri (frz n) ω (l.map AV.sv) with
  |none=>rw[q2] at e;cases e
  |some p=>obtain⟨ds,ω1⟩:=p;rw[q2] at e;cases e;obtain⟨b,f,j⟩:=uL (fun s h e=>uy n s h e) s (sK g) q2;exact⟨b,f,.tup (h1.ev f.ev) j⟩
def Lb (x:SV) (ω:aW):RS SV:=match frz 4 ω x with
 |some (d,ω1)=> .ok (.fz d) ω1
 |none=> .bad
def oT (f:cE):cE:=fun ρ ω=>(f ρ ω).bind fun x ω1=>Lb x ω1
theorem Ac (h:cZ K E t f):cZ K E t (oT f):=by
 intro B U H Z ω ρ Q s b w;refine h B U H Z ω ρ _ s b (w.bind.imp fun x X ω1 S l e a v g=> ?_);unfold Lb at a;cases q:frz 4 ω1 x with
 |none=>rw[q] at a;exact a.elim
 |some p=>obtain⟨d,ω2⟩:=p;rw[q] at a;obtain⟨c,i,j⟩:=uy 4 e g q;exact a X S i c v j
theorem Zy.sub (h:∀b,O' b->O b) (k:Zy K O H c dx x):Zy K O' H c dx x:=by obtain⟨h1,fs,g,a⟩:=k;exact⟨h1,fs,g,fun f d e=>let⟨g1,v,g2,g3⟩:=a f d e;⟨g1,v,g2,g3.ev (Ev.sub h)⟩⟩
def vU (F:FN) (n:Nat) (xs:List SV) (ω:aW):RS SV:=if xs.length=n then(match ar mJ xs with
 |some ds=>(match F ds with
  | .ok rv=>jo ω rv
  | .er x=> .er x ω
  | .bad=> .bad)
 |none=>(RS.Qi ω (ar (kS 6 ω) xs)).bind fun ds ω1=>(match F ds with
  | .ok rv=>kB ω1 rv
  |_=> .bad)) else .bad
def gO:RS A->RS A
 | .er _ _=> .bad
 |r=>r
def BT (F:FN) (n:Nat) (fa:AR):cE:=fun ρ ω=>(fa ρ ω).bind fun xs ω1=>gO (vU F n xs ω1)
theorem WS.e0 (h:WS K E B H Z ω P (gO r)):WS K E0 B H Z ω P r:=by
 cases r with
 |ok a ω=>exact h
 |er x ω=>exact h.elim
 |bad=>exact h
theorem GQ (s:P5 B K H Z ω) (b:S6 (ow B Z ω) K H Z vs xs) (w:WS K E B H Z ω (PQ B K Q) (vU F n xs ω)):l4 K n F vs H Q E:=by
 unfold vU at w;by_cases hn:xs.length=n
 .rw[if_pos hn] at w
  refine⟨b.length.trans hn,?_⟩;cases q:ar mJ xs with
  |some ds=>
   rw[q] at w;refine⟨ow B Z ω,ds,s.owd,jA (cP (R:=Tf (ow B Z ω) K H Z) (fun v x y r e=>xI r e) b q),?_⟩;dsimp only at w;cases qF:F ds with
   |ok rv=>rw[qF] at w;exact C5 s w
   |er x=>rw[qF] at w;exact fun c dx H' e k=>w c dx Z H' (Ru.same e) (s.grow e) k
   |bad=>rw[qF] at w;exact w.elim
  |none=>
   rw[q] at w;obtain⟨ds,d,w⟩:=WS.Qi w;refine⟨WZ,ds,fun a z=>z.elim,jA (cP (R:=Tf (ow B Z ω) K H Z) (fun v x y r e=>kj s 6 r e) b d),?_⟩;cases qF:F ds with
   |ok rv=>rw[qF] at w;exact C7 s w
   |er x=>rw[qF] at w;exact w.elim
   |bad=>rw[qF] at w;exact w.elim
 .rw[if_neg hn] at w;exact w.elim
theorem Ao (ha:Ia K E ta fa):cZ K E (sk (l4 K n F) [] E0 ta) (BT F n fa):=by intro B U H Z ω ρ Q s b w;refine ha B U H Z ω ρ _ s b (w.bind.imp fun xs X ω1 S e c a vs d=> ?_);rw[PY];exact GQ c d (WS.e0 a)
abbrev qN:=List SV->aW->RS SV
def wW (K:OK) (n:Nat) (F:qN):Sp:=fun vs H Q E=>vs.length=n/\∃(B:bF) (Z:List Pc) (ω:aW) (xs:List SV),P5 B K H Z ω/\S6 (ow B Z ω) K H Z vs xs/\WS K E B H Z ω (PQ B K Q) (F xs ω)
def kC (F:qN) (n:Nat) (fa:AR):cE:=fun ρ ω=>(fa ρ ω).bind fun xs ω1=>if xs.length=n then gO (F xs ω1) else .bad
theorem ir (ha:Ia K E ta fa):cZ K E (sk (wW K n F) [] E0 ta) (kC F n fa):=by
 intro B U H Z ω ρ Q s c w;refine ha B U H Z ω ρ _ s c (w.bind.imp fun xs X ω1 S e d a vs b=> ?_);rw[PY];by_cases hn:xs.length=n
 .rw[if_pos hn] at a;exact⟨b.length.trans hn,B,X,ω1,xs,d,b,WS.e0 a⟩
 .rw[if_neg hn] at a;exact a.elim
def gj (ω:aW):SV->Option (Nat×List SV)
 | .rf i=>match ω[i]? with
  |some (.lst xs)=>lD (i,xs)
  |_=>Ld
 |_=>Ld
theorem uC (s:P5 B K H Z ω) (b:Tf (ow B Z ω) K H Z v x) (h:gj ω x=lD (i,xs)):ω[i]? =lD (.lst xs)/\∃a vs,Z[i]? =lD a/\v= .ref a/\H a=lD (.lst vs)/\S6 (ow B Z ω) K H Z vs xs:=by
 cases x with
 |fz d=>cases h
 |tp l=>cases h
 |rf j=>
  obtain⟨a,ha,rfl⟩:=b;unfold gj at h;dsimp only at h;cases q:ω[j]? with
  |none=>rw[q] at h;cases h
  |some c=>
   rw[q] at h;cases c with
   |lst ys=>have e:=PK h;cases e;obtain⟨vs,h1,f⟩:=s.Wc i a _ ha q;exact⟨q,a,vs,ha,rfl,h1,f⟩
   |_=>cases h
theorem tz (h:Paired R vs xs) (r:R v x):Paired R (vs++[v]) (xs++[x]):=by
 induction h with
 |nil=>exact .cons r .nil
 |cons a _ b=>exact .cons a b
def BM (b fe:cE):cE:=fun ρ ω=>(b ρ ω).bind fun o ω1=>(RS.Qi ω1 (gj ω1 o)).bind fun _ ω1=>(fe ρ ω1).bind fun x ω2=>(RS.Qi ω2 (gj ω2 o)).bind fun p a=>
 if p.2.length<1000000 then .ok (.fz .none) (a.set p.1 (.lst (p.2++[x]))) else .bad
theorem uz (A:cZ K E to fo) (C:cZ K E te fe):cZ K E (NX K "list" tW to (gQ te qw)) (BM fo fe):=by
 intro B U H Z ω ρ Q s f w;refine A B U H Z ω ρ _ s f (w.bind.imp fun o X ω1 S L j c v l=> ?_);obtain⟨⟨M,P⟩,p,c⟩:=WS.Qi c;obtain⟨_,n,d,_,rfl,G,_⟩:=uC j l p;refine⟨.inl ⟨rfl,d,Um.of G⟩,?_⟩;refine C B U S X ω1 ρ _ j (f.Sr L) (c.bind.imp fun x T ω2 N J g b u t=> ?_);obtain⟨⟨i,xs⟩,q,b⟩:=WS.Qi b;obtain⟨e,a,vs,ha,I,F,m⟩:=uC g (l.Sr J) q;cases I;dsimp only at b;by_cases hn:xs.length<1000000
 .rw[if_pos hn] at b;have ev:Ev (ow B T ω2) N (ow B T ω2) (upd N n (.lst (vs++[u]))):=tY ha e (by intro z;cases z);refine⟨n,vs,u,rfl,rfl,F,rR (by rw[m.length];exact hn),?_⟩;exact b T _ (Ru.put ha e (by intro z;cases z) (by intro z;cases z)) (g.put ha e (by intro z;cases z) (by intro z;cases z) ⟨_,aD,tz (Paired.TR m fun _ _ r=>r.ev ev fun _ _ h=>h) (t.ev ev fun _ _ h=>h)⟩) _ .S4
 .rw[if_neg hn] at b;exact b.elim
end
inductive FlS where
 |nx (ρ:aX)
 |bk (ρ:aX)
 |ct (ρ:aX)
 |rt (x:SV)
abbrev gF:=aX->aW->RS FlS
abbrev vG:=SV->aX->aW->RS aX
abbrev De:=List SV->aX->aW->RS aX
def xf (B:bF) (K:OK) (D:Ends):FlS->List Pc->aW->Hp->Prop
 | .nx ρ,α,ω,H=>∀σ,Su (ow B α ω) K H α σ ρ->D.nx σ H
 | .bk ρ,α,ω,H=>∀σ,Su (ow B α ω) K H α σ ρ->D.bk σ H
 | .ct ρ,α,ω,H=>∀σ,Su (ow B α ω) K H α σ ρ->D.ct σ H
 | .rt x,α,ω,H=>∀v,Tf (ow B α ω) K H α v x->D.rt v H
def p0 (K:OK) (E:XK) (t:TS) (g:gF):Prop:=
 ∀(B:bF) (a:L2.St) (H:Hp) (α:List Pc) (ω:aW) (ρ:aX) (D:Ends),P5 B K H α ω->Su (ow B α ω) K H α a ρ->WS K E B H α ω (xf B K D) (g ρ ω)->t D a H
def Kv (K:OK) (E:XK) (g:TG) (f:vG):Prop:=
 ∀(B:bF) (d:L2.St) (H:Hp) (α:List Pc) (ω:aW) (ρ:aX) (v:V) (x:SV) (Q:L2.St->Hp->Prop),P5 B K H α ω->Su (ow B α ω) K H α d ρ->Tf (ow B α ω) K H α v x->WS K E B H α ω (fun c a b e=>∀σ',Su (ow B a b) K e a σ' c->Q σ' e) (f x ρ ω)->g v d H Q
def GM (K:OK) (E:XK) (g:KZ) (f:De):Prop:=
 ∀(B:bF) (d:L2.St) (H:Hp) (α:List Pc) (ω:aW) (ρ:aX) (vs:List V) (xs:List SV) (Q:L2.St->Hp->Prop),P5 B K H α ω->Su (ow B α ω) K H α d ρ->S6 (ow B α ω) K H α vs xs->WS K E B H α ω (fun c a b e=>∀σ',Su (ow B a b) K e a σ' c->Q σ' e) (f xs ρ ω)->g vs d H Q
section
variable {B O O':bF} {K:OK} {E:XK} {H H' T S:Hp} {Y N X Z:List Pc} {ω P ω1 ω2:aW} {U:L2.St} {ρ:aX} {v:V}
theorem Su.set (a:Su O K H Y U ρ) (h:Tf O K H Y v x):Su O K H Y (U.set i (lD v)) (ρ.set i (lD x)):=by
 refine⟨by rw[QZ,QZ];exact a.1,fun j y c=> ?_⟩;rcases bO c with⟨rfl,e⟩|⟨f,b⟩
 .cases e;refine⟨v,?_,h⟩;rw[RM];have:=uZ c;rw[a.1];exact this
 .obtain⟨u,h1,d⟩:=a.2 j y b;exact⟨u,by rw[Sh (fun z=>f z.symm)];exact h1,d⟩
def ju (i:Nat):vG:=fun x ρ ω=> .ok (ρ.set i (lD x)) ω
theorem cf:Kv K E (rL i) (ju i):=fun B U H Y ω ρ v x Q s a h w=>WS.now s w _ (a.set h)
def Mv:De:=fun xs ρ ω=>match xs with
 |[]=> .ok ρ ω
 |_=> .bad
def K6 (f:vG) (g:De):De:=fun xs ρ ω=>match xs with
 |x::r=>(f x ρ ω).bind fun a ω1=>g r a ω1
 |[]=> .bad
theorem Gk:GM K E KY Mv:=by
 intro B U H Y ω ρ vs xs Q s a h w;cases h with
 |nil=>exact⟨rfl,WS.now s w _ a⟩
 |cons _ _=>exact w.elim
theorem EE (h1:Kv K E t f) (m:GM K E u g):GM K E (CS t u) (K6 f g):=by
 intro B U H Y ω ρ vs xs Q s j h w;cases h with
 |nil=>exact w.elim
 |cons a b=>refine⟨_,_,rfl,h1 B U H Y ω ρ _ _ _ s j a (WS.imp (WS.bind w) fun d X ω1 T n l i c e=> ?_)⟩;exact m B c T X ω1 d _ _ _ l e (S6.Sr n b) i
def Ep:SV->Option (List SV)
 | .fz (.tuple ds)=>lD (ds.map .fz)
 | .tp l=>lD (l.map AV.sv)
 |_=>Ld
theorem JY (h:Tf O K H Y v x) (e:Ep x=lD xs):∃a vs,v= .ref a/\U1 O K H a vs/\S6 O K H Y vs xs:=by
 unfold Ep at e;split at e
 .cases e
  cases h with
  |tup h b=>exact⟨_,_,rfl,h,mW _ _ b⟩
 .cases e;obtain⟨a,ys,rfl,h1,c⟩:=h;exact⟨a,ys,rfl,h1,sK c⟩
 .cases e
def Ou (n:Nat) (f:De):vG:=fun x ρ ω=>(RS.Qi ω (Ep x)).bind fun xs ω1=>if xs.length=n then f xs ρ ω1 else .bad
theorem GY (h:GM K E t f):Kv K E (Lj K n t) (Ou n f):=by
 intro B U H Y ω ρ v x Q s c d w;obtain⟨xs,q,w⟩:=WS.Qi w;obtain⟨a,vs,rfl,h1,b⟩:=JY d q;by_cases hn:xs.length=n
 .rw[if_pos hn] at w;exact⟨a,vs,rfl,h1.1,b.length.trans hn,h B U H Y ω ρ vs xs Q s c b w⟩
 .rw[if_neg hn] at w;exact w.elim
def gk:gF:=fun ρ ω=> .ok (.nx ρ) ω
def bv (f g:gF):gF:=fun ρ ω=>(f ρ ω).bind fun a ω1=>match a with
 | .nx ρ1=>g ρ1 ω1
 |a=> .ok a ω1
def kE (f:cE):gF:=fun ρ ω=>(f ρ ω).bind fun _ ω1=> .ok (.nx ρ) ω1
def d7 (f:cE) (g:vG):gF:=fun ρ ω=>(f ρ ω).bind fun x ω1=>(g x ρ ω1).bind fun a ω2=> .ok (.nx a) ω2
def gI (c:sG) (f g:gF):gF:=fun ρ ω=>(c ρ ω).bind fun b ω1=>if b=Pb then f ρ ω1 else g ρ ω1
def gY (f:cE):gF:=fun ρ ω=>(f ρ ω).bind fun x ω1=> .ok (.rt x) ω1
def Md:gF:=fun _ _=> .bad
theorem ig:p0 K E Fi gk:=fun B U H Y ω ρ D s a w=>WS.now s w U a
theorem rj:p0 K E Ek Md:=fun B U H Y ω ρ D s a w=>w.elim
theorem aL (h1:p0 K E t f) (i:p0 K E u g):p0 K E (K8 t u) (bv f g):=by
 intro B U H Y ω ρ D s h w;refine h1 B U H Y ω ρ {D with nx:=u D} s h (WS.imp (WS.bind w) fun j X ω1 T l c b=> ?_);cases j with
 |nx a=>exact fun d e=>i B d T X ω1 a D c e b
 |rt x=>exact WS.now (E:=E) c b
 |bk a=>exact WS.now (E:=E) c b
 |ct a=>exact WS.now (E:=E) c b
theorem jU (h:cZ K E t f):p0 K E (Cy t) (kE f):=by intro B U H Y ω ρ D s a w;exact h B U H Y ω ρ _ s a (WS.imp (WS.bind w) fun x X ω1 T d c b v e=>WS.now c b U (a.Sr d))
theorem eP (h:cZ K E t f) (m:Kv K E g fg):p0 K E (Hf t g) (d7 f fg):=by intro B U H Y ω ρ D s b w;refine h B U H Y ω ρ _ s b (WS.imp (WS.bind w) fun x X ω1 T n j e v l=> ?_);exact m B U T X ω1 ρ v x _ j (b.Sr n) l (WS.imp (WS.bind e) fun c Z ω2 S p i d a o=>WS.now i d a o)
theorem mI (i:yZ K E c fc) (h1:p0 K E t f) (j:p0 K E u g):p0 K E (JN c t u) (gI fc f g):=by
 intro B U H Y ω ρ D s a w;refine i B U H Y ω ρ _ s a (WS.imp (WS.bind w) fun b X ω1 T h e d=> ?_);cases b with
 |true=>exact h1 B U T X ω1 ρ D e (a.Sr h) d
 |false=>exact j B U T X ω1 ρ D e (a.Sr h) d
theorem dL (h:cZ K E t f):p0 K E (JA t) (gY f):=by intro B U H Y ω ρ D s b w;exact h B U H Y ω ρ _ s b (WS.imp (WS.bind w) fun x X ω1 T e c a v d=>WS.now c a v d)
def BP (i:Nat) (f:D->D->Option RV) (fe:cE):gF:=fun ρ ω=>(bw i ρ ω).bind fun x ω1=>(fe ρ ω1).bind fun y ω2=>(pU f x y ω2).bind fun z a=> .ok (.nx (ρ.set i (lD z))) a
theorem zX (l:kG K r f) (m:cZ K E te fe):p0 K E (Na i te r) (BP i f fe):=by
 intro B U H Y ω ρ D s a w;unfold BP bw at w;cases q:ρ[i]? with
 |none=>rw[q] at w;exact w.elim
 |some o=>
  cases o with
  |none=>rw[q] at w;exact w.elim
  |some x=>rw[q] at w;obtain⟨v,h1,n⟩:=a.2 i x q;refine⟨v,h1,m B U H Y ω ρ _ s a (WS.imp (WS.bind w) fun y X ω1 T b g d u h=> ?_)⟩;exact yJ l g (n.Sr b) h (WS.imp (WS.bind d) fun z Z ω2 S p e c t j=>WS.now e c _ ((a.Sr (b.trans p)).set j))
abbrev Lu:=aX->aW->RS (List D)
def ND (K:OK) (E:XK) (b:TI) (c:Lu):Prop:=
 ∀(B:bF) (U:L2.St) (H:Hp) (Y:List Pc) (ω:aW) (ρ:aX) (a:It->Hp->Prop),P5 B K H Y ω->Su (ow B Y ω) K H Y U ρ->WS K E B H Y ω (fun ds N P H'=>∀J,B9 K J (ow B N P) H' ds->a J H') (c ρ ω)->b U H a
def jM (f:FI):Lu:=fun ρ ω=>match f (dI ρ) with
 | .ok (ds,_)=> .ok ds ω
 | .er x=> .er x ω
 | .bad=> .bad
theorem lC (h:IO K E wi f):ND K E wi (jM f):=by
 intro B U H Y ω ρ j s d w;refine h (ow B Y ω) H (ow B Y ω) U H (dI ρ) j (CF s d) ?_;unfold jM at w;cases q:f (dI ρ) with
 |bad=>rw[q] at w;exact w.elim
 |er x=>rw[q] at w;exact fun c dx H' e k=>w c dx Y H' (Ru.same e) (s.grow e) k
 |ok r=>obtain⟨ds,a⟩:=r;rw[q] at w;exact fun O' J H' e R g=>w Y H' (Ru.same R.same) (s.grow R.same) J fun l S i n=>g l S (fun b o h z=>i b o h fun y=>z (R.bo b y)) n
def zG (fe:cE):Lu:=fun ρ ω=>(fe ρ ω).bind fun x ω1=>(match frz 4 ω1 x with
 |some (d,ω2)=>RS.Qi ω2 (gz d)
 |none=> .bad)
theorem zC (h:cZ K E tl fe):ND K E (zP K tl) (zG fe):=by
 intro B U H Y ω ρ m s f w;refine h B U H Y ω ρ _ s f (WS.imp (WS.bind w) fun x X ω1 T l g a v i=> ?_);cases q:frz 4 ω1 x with
 |none=>rw[q] at a;exact a.elim
 |some p=>
  obtain⟨d,ω2⟩:=p;rw[q] at a;obtain⟨c,e,j⟩:=uy 4 g i q;dsimp only at a;cases qs:gz d with
  |none=>rw[qs] at a;exact a.elim
  |some ds=>
   rw[qs] at a;cases j with
   |tup h b=>cases qs;exact⟨_,rfl,.inr ⟨⟨_,h.1⟩,a X T e c _ (Eb h b)⟩⟩
   |lst h b=>cases qs;exact⟨_,rfl,.inl ⟨⟨_,h.1.sq⟩,a X T e c _ (AH h b)⟩⟩
   |_=>cases qs
def kz (gt:vG) (b:gF):List D->gF
 |[],ρ,ω=> .ok (.nx ρ) ω
 |d::r,ρ,ω=>(gt (.fz d) ρ ω).bind fun a ω1=>(b a ω1).bind fun c ω2=>match c with
  | .nx ρ2=>kz gt b r ρ2 ω2
  | .ct ρ2=>kz gt b r ρ2 ω2
  | .bk ρ2=> .ok (.nx ρ2) ω2
  | .rt x=> .ok (.rt x) ω2
def ui (a:Lu) (gt:vG) (b:gF):gF:=fun ρ ω=>(a ρ ω).bind fun ds ω1=>kz gt b ds ρ ω1
theorem oI (hi:ND K E wi fi) (hg:Kv K E g gt) (hb:p0 K E tb b):p0 K E (JT wi g tb) (ui fi gt b):=by
 intro B U H Y ω ρ D s M w;refine hi B U H Y ω ρ _ s M (WS.imp (WS.bind w) fun ds X ω1 T e1 s1 w1 J it=> ?_);refine⟨fun i m a H'=>m=ds.length - i/\i<=ds.length/\∃Z ω2 ρ2,Ru X ω1 T Z ω2 H'/\P5 B K H' Z ω2/\Su (ow B Z ω2) K H' Z a ρ2/\WS K E B H' Z ω2 (xf B K D) (kz gt b (ds.drop i) ρ2 ω2),⟨_,rfl,Qb _,X,ω1,ρ,.refl,s1,M.Sr e1,w1⟩,?_⟩;rintro i m h S ⟨rfl,hi,Z,ω2,ρ2,e2,s2,Wj,w2⟩;obtain⟨go,l⟩:=it (ow B Z ω2) S e2.ev s2.WZ;by_cases r:i<ds.length
 .obtain⟨g1,g2⟩:=go i r
  refine .inr ⟨g1,fun a H'=>i+1<=ds.length/\∃Z ω2 ρ2,Ru X ω1 T Z ω2 H'/\P5 B K H' Z ω2/\Su (ow B Z ω2) K H' Z a ρ2/\WS K E B H' Z ω2 (xf B K D) (kz gt b (ds.drop (i+1)) ρ2 ω2),fun a H' ⟨h1,h2⟩=>⟨ds.length - (i+1),by omega,rfl,h1,h2⟩,fun x L y=> ?_⟩;obtain⟨Q,d,hd,dv⟩:=g2 x L y;have ed:ds.drop i=d::ds.drop (i+1):=by obtain⟨_,q⟩:=O0.mp hd;rw[QA r,q]
  rw[ed] at w2;have G:Ru Z ω2 S Z ω2 L:=Ru.same Q;refine hg B h L Z ω2 ρ2 x (.fz d) _ (s2.grow Q) (Wj.Sr G) dv (WS.imp (WS.bind (WS.from G w2)) fun A C t H4 e4 s4 w3 z F=> ?_);refine hb B z H4 C t A _ s4 F (WS.imp (WS.bind w3) fun fl j f H5 e5 p o=> ?_);have n:=e2.trans (G.trans (e4.trans e5));cases fl with
  |nx c=>exact fun u I=>⟨r,j,f,c,n,p,I,o⟩
  |ct c=>exact fun u I=>⟨r,j,f,c,n,p,I,o⟩
  |bk c=>exact WS.now (E:=E) p o
  |rt x=>exact WS.now (E:=E) p o
 .have e:i=ds.length:=by omega
  subst e;rw[Rn (O8 _)] at w2;exact .inl ⟨l,WS.now s2 w2 h Wj⟩
def qX (c:sG) (b:gF):Nat->gF
 |0,_,_=> .bad
 |n+1,ρ,ω=>(c ρ ω).bind fun k ω1=>if k=Pb then(b ρ ω1).bind fun a ω2=>match a with
  | .nx ρ2=>qX c b n ρ2 ω2
  | .ct ρ2=>qX c b n ρ2 ω2
  | .bk ρ2=> .ok (.nx ρ2) ω2
  | .rt x=> .ok (.rt x) ω2 else .ok (.nx ρ) ω1
def yA (c:sG) (b:gF):gF:=qX c b 1000000
theorem mQ (I:yZ K E c fc) (hb:p0 K E tb b):p0 K E (CY c tb) (yA fc b):=by
 intro B U H Y ω ρ D s F w;refine⟨fun m d H'=>∃Z ω2 a,Ru Y ω H Z ω2 H'/\P5 B K H' Z ω2/\Su (ow B Z ω2) K H' Z d a/\WS K E B H' Z ω2 (xf B K D) (qX fc b m a ω2),⟨_,Y,ω,ρ,.refl,s,F,w⟩,?_⟩;rintro m f S ⟨Z,ω2,a,M,G,z,A⟩;cases m with
 |zero=>exact A.elim
 |succ m=>
  refine I B f S Z ω2 a _ G z (WS.imp (WS.bind A) fun k r o Q t C l=> ?_);cases k with
  |true=>
   rw[if_pos rfl] at l⊢;refine⟨fun d H'=>∃Z ω2 a,Ru Y ω H Z ω2 H'/\P5 B K H' Z ω2/\Su (ow B Z ω2) K H' Z d a/\WS K E B H' Z ω2 (xf B K D) (qX fc b m a ω2),fun d H' q=>⟨m,Q6 m,q⟩,?_⟩;refine hb B f Q r o a _ C (z.Sr t) (WS.imp (WS.bind l) fun J h g H5 L n j=> ?_);have i:=M.trans (t.trans L);cases J with
   |nx e=>exact fun p u=>⟨h,g,e,i,n,u,j⟩
   |ct e=>exact fun p u=>⟨h,g,e,i,n,u,j⟩
   |bk e=>exact WS.now (E:=E) n j
   |rt x=>exact WS.now (E:=E) n j
  |false=>rw[if_neg Pt] at l⊢;exact WS.now C l f (z.Sr t)
end
section
variable {B O O':bF} {K:OK} {E:XK} {H H' U M:Hp} {X T Y Z:List Pc} {ω ω' ω1 ω2:aW} {S:L2.St} {ρ:aX} {v:V}
def cV (gt:vG) (ft:sG) (fe:cE):List D->aX->aW->List SV->RS (List SV)
 |[],_,ω,acc=> .ok acc ω
 |d::r,ρ,ω,acc=>(gt (.fz d) ρ ω).bind fun a ω1=>(ft a ω1).bind fun b ω2=>if b=Pb then(fe a ω2).bind fun x c=>(if acc.length<1000000 then cV gt ft fe r a c (acc++[x]) else .bad) else cV gt ft fe r a ω2 acc
def jL (n:Nat) (fj:List Nat) (ρ:aX):aX:=Pe n Ld++fj.map fun j=>(ρ[j]?).join
def AF (n:Nat) (fj:List Nat) (a:Lu) (gt:vG) (ft:sG) (fe:cE):cE:=fun ρ ω=>(a ρ ω).bind fun ds ω1=>(gO (cV gt ft fe ds (jL n fj ρ) ω1 [])).bind fun xs ω2=> .ok (.rf ω2.length) (ω2++[.lst xs])
theorem GV {own:List Str} {b:List (Str×Nat)} {n:Nat} {fj:List Nat} (hn:own.length=n) (e:b.map (·.2)=fj) (f:Su O K H X S ρ):Su O K H X (fR own b S) (jL n fj ρ):=by
 unfold fR jL;rw[Ap hn];have g:b.length=fj.length:=by rw[<-e,OX]
 refine⟨by rw[OZ,OZ,Px,Px,OX,OX,g],fun j x a=> ?_⟩;by_cases d:j<n
 .rw[Pz (by rw[Px];exact d),RJ,if_pos d] at a;cases a
 .rw[PH (by rw[Px];omega),Px,Pg] at a⊢
  subst e;rw[Pg] at a;cases q:b[j - n]? with
  |none=>rw[q] at a;cases a
  |some p=>
   rw[q] at a;have c:(ρ[p.2]?).join=lD x:=PK a;have i:ρ[p.2]? =lD (lD x):=by
    cases qq:ρ[p.2]? with
    |none=>rw[qq] at c;cases c
    |some o=>rw[qq] at c;exact congrArg lD c
   obtain⟨u,h1,h⟩:=f.2 p.2 x i;exact⟨u,by show lD ((S[p.2]?).join)=_;rw[h1];rfl,h⟩
theorem qv {p:Pc} {c:Cell} (a:X.length=ω.length) (e:c≠ .dead):ow (bx B p) X ω=ow B (X++[p]) (ω++[c]):=by
 funext b;refine propext ⟨fun z=> ?_,fun z=> ?_⟩
 .rcases z with(z|z)|⟨i,d,h1,h2,h3⟩
  .exact .inl z
  .exact .inr ⟨X.length,c,by rw[z];exact aU,by rw[a];exact aU,e⟩
  .exact .inr ⟨i,d,fJ h1,fJ h2,h3⟩
 .rcases z with z|z
  .exact .inl (.inl z)
  .rcases pK a z with z|z
   .exact .inr z
   .exact .inl (.inr z)
theorem P5.adopt {p:Pc} {vs:List V} {xs:List SV} (s:P5 (bx B p) K H X ω) (f:H p=lD (.lst vs)) (g:S6 (ow (bx B p) X ω) K H X vs xs) (l:¬B p):P5 B K H (X++[p]) (ω++[.lst xs]):=by
 have m:ow (bx B p) X ω=ow B (X++[p]) (ω++[.lst xs]):=qv s.len (by intro z;cases z);have b:∀(i:Nat) (a:Pc),X[i]? =lD a->(X++[p])[i]? =lD a:=fun i a h=>fJ h;have e:∀i:Nat,X[i]?≠lD p:=s.ba p (.inr rfl);refine⟨by rw[OZ,OZ,s.len];rfl,fun i j a h1 c=> ?_,fun a h=>s.bn a (.inl h),fun a h i q=> ?_,fun i a h=> ?_,fun i a d h1 c=> ?_⟩
 .rcases aY h1 with g1|⟨e1,e2⟩<;>rcases aY c with g2|⟨e3,e4⟩
  .exact s.nd i j a g1 g2
  .rw[e4] at g1;exact absurd g1 (e i)
  .rw[e2] at g2;exact absurd g2 (e j)
  .omega
 .rcases aY q with q|⟨_,e2⟩
  .exact s.ba a (.inl h) i q
  .subst e2;exact l h
 .rcases aY h with h|⟨_,e2⟩
  .exact s.al i a h
  .rw[e2,f];simp
 .rw[<-m]
  rcases aY c with g2|⟨e1,e2⟩
  .rcases aY h1 with g1|⟨e1,_⟩
   .exact(s.Wc i a d g1 g2).ev .refl b fun o q=>q
   .have:=(O0.mp g2).1;have:=s.len;omega
  .rcases aY h1 with g1|⟨_,e3⟩
   .have:=(O0.mp g1).1;have:=s.len;omega
   .rw[e2,e3];exact⟨vs,f,Paired.TR g fun _ _ r=>r.ev .refl b⟩
theorem P5.hide {p:Pc} {o:HO} (s:P5 B K H X ω) (f:H p=Ld):P5 (bx B p) K (upd H p o) X ω:=by have d:Rg H (upd H p o):=bU f o;have g:=s.grow d;have ev:Ev (ow B X ω) H (ow (bx B p) X ω) (upd H p o):=fun b u h n=>⟨d b u h,fun z=>z.elim (fun z=>z.elim (fun z=>n (.inl z)) fun z=>by rw[z,f] at h;cases h) fun z=>n (.inr z)⟩;refine⟨g.len,g.nd,fun a h=>h.elim (g.bn a) fun e=>by rw[e,aD];simp,fun a h i q=>h.elim (fun h=>g.ba a h i q) fun e=>by rw[e] at q;exact s.al i p q f,g.al,fun i a c h1 j=> ?_⟩;exact(s.Wc i a c h1 j).ev ev (fun _ _ h=>h) fun o q=>d _ _ q
theorem P5.acw {p:Pc} {o d:HO} (s:P5 (bx B p) K H X ω) (f:H p=lD o):P5 (bx B p) K (upd H p d) X ω:=by
 have ev:Ev (ow (bx B p) X ω) H (ow (bx B p) X ω) (upd H p d):=Ev.mut (.inl (.inr rfl)) d;have n:∀b,H b≠Ld->upd H p d b≠Ld:=fun b h=>by
  by_cases z:b=p
  .subst z;rw[aD];simp
  .rw[aA z];exact h
 refine⟨s.len,s.nd,fun a h=>n a (s.bn a h),s.ba,fun i a h=>n a (s.al i a h),fun i a c h1 e=>(s.Wc i a c h1 e).ev ev (fun _ _ h=>h) fun u q=> ?_⟩;have:a≠p:=fun z=>s.ba p (.inr rfl) i (by rw[<-z];exact h1);rw[aA this];exact q
theorem Ru.dd {p:Pc} {o:HO} (e:Ru Y ω1 U X ω H) (a:U p=Ld):Ru Y ω1 U X ω (upd H p o):=⟨e.pre,fun b u h n=>by rw[aA (cF h a)];exact e.kp b u h n,e.lv⟩
theorem P5.aaM {p:Pc} (s:P5 (bx B p) K H X ω):P5 B K H X ω:=
 ⟨s.len,s.nd,fun a h=>s.bn a (.inl h),fun a h=>s.ba a (.inl h),s.al,fun i a c h1 d=>(s.Wc i a c h1 d).ev (fun b o h n=>⟨h,fun y=>n (y.elim (fun y=> .inl (.inl y)) .inr)⟩) (fun _ _ h=>h) fun _ h=>h⟩
theorem xH {own:List Str} {fv:List (Str×Nat)} {g:TG} {tc:TT} {te:TE} {gt:vG} {ft:sG} {fe:cE} {n:Nat} {fj:List Nat} {J:It} {Q:VK} {ds:List D} (hn:own.length=n) (hf:fv.map (·.2)=fj)
  (hg:Kv K E g gt) (ht:yZ K E tc ft) (he:cZ K E te fe) (s1:P5 B K U Y ω1) (sl1:Su (ow B Y ω1) K U Y S ρ) (it:B9 K J (ow B Y ω1) U ds) (w1:WS K E B U Y ω1 (PQ B K Q) ((cV gt ft fe ds (jL n fj ρ) ω1 []).bind fun xs ω2=> .ok (.rf ω2.length) (ω2++[.lst xs]))):
  ∀D,U D=Ld->Az J D (fR own fv S) g tc te U fun H'=>Q (.ref D) H':=by
 intro p hD;have slc:Su (ow B Y ω1) K U Y (fR own fv S) (jL n fj ρ):=GV hn hf sl1;generalize qr:cV gt ft fe ds (jL n fj ρ) ω1 []=rr at w1;by_cases YU:rr= .bad
 .subst YU;exact w1.elim
 .
  have hB:¬B p:=fun z=>s1.bn p z hD;have evH:∀{Z:List Pc} {ω2:aW} {H':Hp},Ru Y ω1 U Z ω2 H'->Ev (ow B Y ω1) U (ow (bx B p) Z ω2) H':=fun e b o h n=>⟨e.kp b o h fun z=>n (.inr z),fun z=>by
   rcases z with(z|z)|z
   .exact n (.inl z)
   .rw[z,hD] at h;cases h
   .exact(e.lv b z).elim (fun q=>n (.inr q)) fun q=>by rw[h] at q;cases q⟩
  refine⟨fun i m σ' H'=>m=ds.length - i/\i<=ds.length/\∃Z ω2 ρc acc ys,Ru Y ω1 U Z ω2 H'/\P5 (bx B p) K H' Z ω2/\Su (ow (bx B p) Z ω2) K H' Z σ' ρc/\H' p=lD (.lst ys)/\S6 (ow (bx B p) Z ω2) K H' Z ys acc/\cV gt ft fe (ds.drop i) ρc ω2 acc=rr,
   ⟨_,rfl,Qb _,Y,ω1,jL n fj ρ,[],[],Ru.same (bU hD _),s1.hide hD,?_,aD,.nil,qr⟩,?_⟩
  .exact⟨slc.1,fun j x hx=>let⟨v,h1,h2⟩:=slc.2 j x hx;⟨v,h1,h2.ev (evH (Ru.same (bU hD _))) fun _ _ h=>h⟩⟩
  .rintro i m σ2 M ⟨rfl,hi,Z,ω2,ρ2,acc,ys,e2,s2,Wj,hy,vy,f⟩
   obtain⟨go,stop⟩:=it (ow (bx B p) Z ω2) M (evH e2) s2.WZ;by_cases TZ:i<ds.length
   .obtain⟨g1,g2⟩:=go i TZ
    refine .inr ⟨g1,fun σ5 G=>i+1<=ds.length/\∃Z ω2 ρc acc ys,Ru Y ω1 U Z ω2 G/\P5 (bx B p) K G Z ω2/\Su (ow (bx B p) Z ω2) K G Z σ5 ρc/\G p=lD (.lst ys)/\S6 (ow (bx B p) Z ω2) K G Z ys acc/\cV gt ft fe (ds.drop (i+1)) ρc ω2 acc=rr,
     fun σ5 G ⟨h1,h2⟩=>⟨ds.length - (i+1),by omega,rfl,h1,h2⟩,fun x H3 y=> ?_⟩
    obtain⟨s3,d,hd,dv⟩:=g2 x H3 y;have ed:ds.drop i=d::ds.drop (i+1):=by obtain⟨_,q⟩:=O0.mp hd;rw[QA TZ,q]
    rw[ed] at f;unfold cV at f;have e3:Ru Z ω2 M Z ω2 H3:=Ru.same s3;have kD:∀{αx αy:List Pc} {ωx ωy:aW} {Hx Hy:Hp} {o:HO},P5 (bx B p) K Hx αx ωx->Ru αx ωx Hx αy ωy Hy->Hx p=lD o->Hy p=lD o:=fun sx ex h=>ex.kp _ _ h fun⟨i,c,q,_⟩=>sx.ba p (.inr rfl) i q;have w:∀{N:List Pc} {u:aW} {H3:Hp} {z:Xc} {t:aW},Ru Y ω1 U N u H3->RS.er z t=rr->∀c dx T H',Ru N u H3 T t H'->P5 (bx B p) K H' T t->Zy K (ow (bx B p) T t) H' c dx z->E c dx H':=fun{N u H3 z t} e3 q c dx T H' e s' x'=>by subst q;exact w1 c dx T H' (e3.trans e) s'.aaM (Zy.sub (fun b y=>y.elim (fun y=> .inl (.inl y)) .inr) x')
    refine hg (bx B p) σ2 H3 Z ω2 ρ2 x (.fz d) _ (s2.grow s3) (Wj.Sr e3) dv ?_;cases qg:gt (.fz d) ρ2 ω2 with
    |er z t=>rw[qg] at f;exact w (e2.trans e3) f
    |bad=>rw[qg] at f;exact YU f.symm
    |ok l I=>
     rw[qg] at f;intro α4 H4 e4 s4 σ4 sl4;refine ht (bx B p) σ4 H4 α4 I l _ s4 sl4 ?_;have f:((ft l I).bind fun b ω2=>if b=Pb then(fe l ω2).bind fun x u=>(if acc.length<1000000 then cV gt ft fe (ds.drop (i+1)) l u (acc++[x]) else .bad) else cV gt ft fe (ds.drop (i+1)) l ω2 acc)=rr:=f;cases qt:ft l I with
     |er z t=>rw[qt] at f;exact w (e2.trans (e3.trans e4)) f
     |bad=>rw[qt] at f;exact YU f.symm
     |ok b A=>
      rw[qt] at f;intro α5 G e5 s5;have YL:=sl4.Sr e5;have C:=e3.trans (e4.trans e5);cases b with
      |false=>have f:cV gt ft fe (ds.drop (i+1)) l A acc=rr:=f;exact⟨TZ,α5,A,l,acc,ys,e2.trans C,s5,YL,kD s2 C hy,S6.Sr C vy,f⟩
      |true=>
       have f:((fe l A).bind fun x u=>(if acc.length<1000000 then cV gt ft fe (ds.drop (i+1)) l u (acc++[x]) else .bad))=rr:=f;rw[if_pos rfl];refine he (bx B p) σ4 G α5 A l _ s5 YL ?_;cases qe:fe l A with
       |er z t=>rw[qe] at f;exact w (e2.trans C) f
       |bad=>rw[qe] at f;exact YU f.symm
       |ok x6 F=>
        rw[qe] at f;intro L H6 e6 s6 v6 hv6;have f:(if acc.length<1000000 then cV gt ft fe (ds.drop (i+1)) l F (acc++[x6]) else .bad)=rr:=f;by_cases P:acc.length<1000000
        .rw[if_pos P] at f;have e36:=C.trans e6;have hy6:H6 p=lD (.lst ys):=kD s2 e36 hy;have vy6:=S6.Sr e36 vy;have em:Ev (ow (bx B p) L F) H6 (ow (bx B p) L F) (upd H6 p (.lst (ys++[v6]))):=Ev.mut (.inl (.inr rfl)) _;have sl6:=YL.Sr e6;refine⟨ys,hy6,rR (by rw[vy6.length];exact P),TZ,L,F,l,acc++[x6],ys++[v6],(e2.trans e36).dd hD,s6.acw hy6,⟨sl6.1,fun j x hx=>let⟨v,h1,h2⟩:=sl6.2 j x hx;⟨v,h1,h2.ev em fun _ _ h=>h⟩⟩,aD,tz (Paired.TR vy6 fun _ _ r=>r.ev em fun _ _ h=>h) (hv6.ev em fun _ _ h=>h),f⟩
        .rw[if_neg P] at f;exact absurd f.symm YU
   .have e:i=ds.length:=by omega
    subst e;rw[Rn (O8 _)] at f;have f:RS.ok acc ω2=rr:=f;subst f;refine .inl ⟨stop,?_⟩;refine w1 (Z++[p]) M ⟨fun i a h=>fJ (e2.pre i a h),e2.kp,fun b z=>(pK s2.len z).elim (e2.lv b) fun z=> .inr (by rw[z];exact hD)⟩ (s2.adopt hy vy hB) (.ref p) ⟨p,by rw[<-s2.len];exact aU,rfl⟩
theorem Jp {A C:Type} {P:C->List Pc->aW->Hp->Prop} {r:RS A} {k:A->aW->C} {m:A->aW->aW} (w:WS K E B H X ω P ((gO r).bind fun a o=> .ok (k a o) (m a o))):WS K E0 B H X ω P (r.bind fun a o=> .ok (k a o) (m a o)):=by
 cases r with
 |ok a o=>exact w
 |er x o=>exact w.elim
 |bad=>exact w
theorem Fw {own:List Str} {e:List (Str×Nat)} {a:TI} {g:TG} {c:TT} {b:TE} {f:Lu} {gt:vG} {ft:sG} {fe:cE} {n:Nat} {fj:List Nat} (hn:own.length=n) (o:e.map (·.2)=fj)
  (hi:ND K E a f) (m:Kv K E0 g gt) (l:yZ K E0 c ft) (p:cZ K E0 b fe):cZ K E (vZ own e a g c b) (AF n fj f gt ft fe):=by
 intro B S H X ω ρ Q s d w;refine hi B S H X ω ρ _ s d (WS.imp (WS.bind w) fun ds Y ω1 U q i h J j=> ?_);exact xH hn o m l p i (d.Sr q) j (Jp h)
def jx (N:Nat) (g:gF):qN:=fun xs ω=>(g (xs.map lD++Pe (N - xs.length) Ld) ω).bind fun a ω1=>match a with
 | .rt x=> .ok x ω1
 | .nx _=> .ok (.fz .none) ω1
 |_=> .bad
theorem Dl {N:List Str} {vs:List V} {xs:List SV} (h:S6 O K H X vs xs):Su O K H X (L2.start N vs) (xs.map lD++Pe (N.length - xs.length) Ld):=by
 have b:vs.length=xs.length:=Paired.length h;unfold L2.start;refine⟨by rw[OZ,OZ,OX,OX,Px,Px,b],fun i x a=> ?_⟩;by_cases hi:i<xs.length
 .rw[Pz (by rw[OX];exact hi),Pg] at a
  cases q:xs[i]? with
  |none=>rw[q] at a;cases a
  |some d=>rw[q] at a;cases a;obtain⟨v,c,e⟩:=xR h q;refine⟨v,?_,e⟩;rw[Pz (by rw[OX,b];exact hi),Pg,c];rfl
 .rw[PH (by rw[OX];omega),RJ] at a;split at a<;>cases a
theorem JZ {N:List Str} {vs:List V} {xs:List SV} {g:gF} {t:TS} {Q:VK} {n:Nat} (hs:p0 K E t g) (h:wW K n (jx N.length g) vs H Q E):t {nx:=fun _ H'=>Q .S4 H',rt:=Q} (L2.start N vs) H:=by
 obtain⟨f,B,X,ω,xs,s,c,w⟩:=h;refine hs B _ H X ω _ _ s (Dl c) (WS.imp (WS.bind w) fun d Y ω1 U i b a=> ?_);cases d with
 |rt x=>exact WS.now (E:=E) b a
 |nx ρ=>exact fun S e=>WS.now (E:=E) b a .S4 .S4
 |bk ρ=>exact a.elim
 |ct ρ=>exact a.elim
end
theorem ON {P:PF} {w:Qc} {K:OK} {mg:Str->Option OW} {base:Heap} {x a:Str} {st:Sl} {f:Pc} {fd:QR} {N ps:List Str} {k n m:Nat} {g:gF} {FF:qN} (F:TY K x a st f fd) (S:Tg N ps (aK st)) (hn:ps.length=n) (hm:N.length=m) (i:FF=jx m g)
  (j:∀(b:OW) (A:PX) (outer:List Env) (s:Pa) (H:Hp) (E:XK),S5 k (A.deeper (Qu a (aK st) s.heap.objs.size f b))->
   ∃t,VS (nR gB P w K mg base N a (aK st) f b A outer s H E).Zl (cI st) t/\p0 K E t g):FnOk P w K mg base gB (k+1) f fd ps (wW K n FF):=by
 subst i hm;refine F.ok S (fun vs H Q E h=>h.1.trans hn.symm) (fun b A outer s H vs Q E e h=> ?_);obtain⟨t,c,d⟩:=j b A outer s H E e;exact⟨t,c,JZ (xs:=[]) d h⟩
abbrev qS (P:PF) (w:Qc) (K:OK) (mg:Str->Option OW) (base:Heap) (k:Nat) (x:Str) (ps:List Str) (n:Nat) (F:qN):Prop:=AA P w K mg base k x ps (wW K n F)
end L10
namespace PySem.W
open PySem PySem.Calls PyProof.Rows PyProof.V PySem.Spec
end PySem.W
namespace PyProof.Rows
open PySem
end PyProof.Rows
namespace L10
open PySem PySem.Spec PyProof.Rows L2 L3
def Ly (p d:Pc):HO:= .ext fun h=>h.IsValuesView p d
theorem MB (x:h.IsValuesView p d):ObjOk P w H h p (Ly p d):=⟨x,let⟨o,a,_⟩:=x;⟨o,a⟩,fun h1 c ⟨o,a,b⟩ k=>⟨o,k o a,b⟩⟩
end L10
namespace PySem
open Sem (wp)
namespace F
theorem lk_tuple_keys:typeLookup (.type "tuple") "keys"=pure Ld:=by rw[Sd,Q8];kernel_rfl
theorem lk_tuple_hook:typeLookup (.type "tuple") "__getattr__"=pure Ld:=by rw[Sd,Q8];kernel_rfl
theorem sub_ae:isSubtype (.type "AttributeError") (.type "AttributeError")=pure Pb:=by rw[adw];kernel_rfl
end F
section
variable {prog:PF} {w:Qc} {A:PX} {E:OW->Pa->Prop} {h:Heap} {g:Array VT} {d:aaS} {t:Nat} {Z:aaU} {a:Pc} {o:Obj}
theorem pL {α:Type} {name c:Str} {Q:α->Pa->Prop} {E:OW->Pa->Prop} (hm:c.length<=Po) (i:A.handled=Ld) (f:∀e h' t',(∀b o,h.get? b=lD o->h'.get? b=lD o)->(⟨h',g,d,t',Z⟩:Pa).TypeIs e "AttributeError"->E e ⟨h',g,d,t',Z⟩):
  wpAny (model prog w) A (raiseAttrError (.ref a) name c:Sem α) Q E ⟨h,g,d,t,Z⟩:=by
 have j:¬c.length>Po:=Nat.not_lt.mpr hm;unfold raiseAttrError newExc newTuple
 repeat (any_goals (first|assumption|wp_step))
 refine Uk (a:=Pb) F.sub_ae ?_
 repeat (any_goals (first|assumption|wp_step))
 refine wpAny_raiseNew_none i (f _ _ _ (fun b o e=> ?_) ?_)
 .exact(Heap.get?_update_other _ _ (Ne.symm (PU (Heap.lt_size (Heap.get?_push_of_some _ e))))).trans (Heap.get?_push_of_some _ (Heap.get?_push_of_some _ e))
 .exact⟨_,Heap.get?_update_self _ (Heap.get?_push_size _ rfl) rfl,rfl⟩
theorem mD {c:Tok} {Q:Fin->Pa->Prop} {E:OW->Pa->Prop} {m:Array OW} {n:Nat} {f:Array (Option OW)} (i:h.get? a=lD ⟨.type "tuple",Ld,.seq m n,f⟩) (l:A.handled=Ld) (j:∀e h' t',(∀b o,h.get? b=lD o->h'.get? b=lD o)->(⟨h',g,d,t',Z⟩:Pa).TypeIs e "AttributeError"->E e ⟨h',g,d,t',Z⟩):
  wpAny (model prog w) A (Builtin.«object.__getattribute__» ⟨[.ref a,.str "keys" c],[]⟩) Q E ⟨h,g,d,t,Z⟩:=by
 have p:(⟨h,g,d,t,Z⟩:Pa).TypeIs (.ref a) "tuple":=⟨_,i,rfl⟩;have q:=F.lk_tuple_keys
 repeat (any_goals (first|assumption|wp_step))
 exact pL (by decide+kernel) l j
theorem qV {c:Tok} {Q:OW->Pa->Prop} {E:OW->Pa->Prop} {r:Array OW} {n:Nat} {j:Array (Option OW)} (f:h.get? a=lD ⟨.type "tuple",Ld,.seq r n,j⟩) (p:A.handled=Ld) (l:∀e h' t',(∀b o,h.get? b=lD o->h'.get? b=lD o)->(⟨h',g,d,t',Z⟩:Pa).TypeIs e "AttributeError"->E e ⟨h',g,d,t',Z⟩):
  wpAny (model prog w) A (getAttrBy (.ref a) (.str "keys" c) Ph) Q E ⟨h,g,d,t,Z⟩:=by
 have q:(⟨h,g,d,t,Z⟩:Pa).TypeIs (.ref a) "tuple":=⟨_,f,rfl⟩;have z:=F.slot_tuple_getattribute.lookup;have v:=F.slot_tuple_getattribute.bind (.ref a);have u:=F.lk_tuple_hook
 repeat (any_goals (first|assumption|wp_step))
 refine Zo F.slot_tuple_getattribute.plain F.entry_tuple_ga (F.slot_tuple_getattribute.check _ _ _ _ _ _ _ _ q (F.args_tuple_getattribute_2 _ _) (mD f p fun e h' t' m i=> ?_));have fs:=F.sub_ae;show wpAny (model prog w) A (getattributeRaised (OW.ref a) (OW.str (Str.ofString "keys") c) (OW.type "tuple") e Ld Ph Ph) Q E _;unfold getattributeRaised;refine Bn (Rz i fs ?_)
 repeat (any_goals (first|assumption|wp_step))
 exact l e h' t' m i
theorem nU (c:h.get? a=lD ⟨.type "tuple",Ld,.seq Qh n,sl⟩) (j:A.handled=Ld) (f:∀h' t',(∀b o,h.get? b=lD o->h'.get? b=lD o)->Q Ld ⟨h',g,d,t',Z⟩):
  wpAny (model prog w) A (getAttr? (.ref a) "keys") Q E ⟨h,g,d,t,Z⟩:=by
 unfold getAttr? getAttrBy?;have fs:=F.sub_ae;refine Bn ?_
 repeat (any_goals (first|assumption|(with_reducible refine qV c j fun e h' t' i l=> ?_)|wp_step))
 exact f h' t' i
namespace F
theorem entry_upd_loop:entryFor table "dict.update.loop"=lD Builtin.«dict.update.loop»:=entryFor_of_tree (by kernel_rfl)
theorem plain_upd_loop:plainId "dict.update.loop"=Pb:=by decide+kernel
end F
end
section
variable {prog:PF} {w:Qc} {A:PX} {E:OW->Pa->Prop} {s:Pa} {K:Type} [DecidableEq K] {knd:KeyKind prog w K} {I dd ax:Pc} {items:Array OW} {ks:List (K×OW)} {R:Vy->Pa->Prop}
theorem yP (kvs:List (K×OW)) (k:K) (v:OW):(stored kvs k v).length<=kvs.length+1:=by
 unfold stored;split
 .rw[OX];omega
 .rw[OZ];exact O8 _
theorem nH:∀(a kvs:List (K×OW)),(merged kvs a).length<=kvs.length+a.length
 |[],kvs=>O8 _
 |p::r,kvs=>by have h1:=nH r (stored kvs p.1 p.2);have b:=yP kvs p.1 p.2;show(merged (stored kvs p.1 p.2) r).length<=_;rw[Pf];omega
theorem xE (a:List (K×OW)):(merged [] a).length<=a.length:=by have:=nH a [];simpa using this
theorem C1 {h0:Heap} (Y:A.handled=Ld) (SR:ax≠I) (J:I≠dd) (H:ax≠dd) (X:∀(i:Nat) (v:OW),items[i]? =lD v->∃q key k x,v= .ref q/\q≠dd/\q≠I/\ks[i]? =lD (k,x)/\knd.is k key=Pb/\h0.IsTuple q #[key,x]) (hs:ks.length=items.size) (hz:items.size<=Po)
  (hR:∀h' d,h'.DictOf knd dd (merged [] ks)->(∀b o,b≠dd->b≠I->h0.get? b=lD o->h'.get? b=lD o)->R (.ok (.ret .none)) {s with heap:=h',toks:=d}):
  ∀(m i:Nat) (h:Heap) (d:Nat),items.size - i=m->i<=items.size->h.IsTupleIter I ax i->h.IsTuple ax items->h.DictOf knd dd (merged [] (ks.take i))->(∀b o,b≠dd->b≠I->h0.get? b=lD o->h.get? b=lD o)->
   codeAny (model prog w) A (.builtin "dict.update.loop" ⟨[.ref dd,.ref I,rawInt i,.none],[]⟩) R {s with heap:=h,toks:=d}:=by
 have W:=Walks.tuple (prog:=prog) (w:=w) (A:=A.in1) Y I ax SR items;intro m
 induction m with
 |zero=>
  intro i h d hm hi t p l j;have e:i=items.size:=by omega
  subst e;refine Se F.entry_upd_loop ?_;rw[PX.under_plainId F.plain_upd_loop _];refine Bn (W.done _ _ _ ⟨t,p⟩ fun h' n c=> ?_);rw[QC (by omega)] at l;refine Bn (OY (OY ?_));refine hR h' n (l.at fun o e=>c dd o (by simp;exact fun z=>J z.symm) e) fun b o h1 a e=>c b o (by simp;exact a) (j b o h1 a e)
 |succ m S=>
  intro i h d hm hi t p l j;have N:i<items.size:=by omega
  refine Se F.entry_upd_loop ?_;rw[PX.under_plainId F.plain_upd_loop _];refine Bn (W.item i _ _ _ N ⟨t,p⟩ fun v h' n T st c=> ?_);obtain⟨q,key,k,x,rfl,u,f,B,Vt,U⟩:=X i v T;have Yh:=U.at fun o e=>c q o (by simp;exact f) (j q o u f e);have M:=l.at fun o e=>c dd o (by simp;exact fun z=>J z.symm) e;have r:=fun b o h1 a e=>c b o (by simp;exact a) (j b o h1 a e);obtain⟨Q,g,G,nq,C⟩:=Yh;obtain⟨cq,dq,dtq,O⟩:=Q;cases G;cases C;have hT:({s with heap:=h',toks:=n}:Pa).TypeIs (.ref q) "tuple":=⟨_,g,rfl⟩;refine Bn (QL (Bn ?_));refine Ta ?_;unfold Builtin.Dict.pairItems;refine Bn (RZ hT ?_);rw[if_pos (by decide)];refine Bn ?_;unfold seqItems?;refine Bn (aaf g (OY (OY ?_)));refine QL (wpAny_dictSet_pairs Vt M (fun a d2 P=> ?_) ?_)
  .refine OY ⟨Rv F.plain_upd_loop _,?_⟩;have L:∀b o,b≠dd->h'.get? b=lD o->a.get? b=lD o:=fun b o Z e=>(P.2 b Z).trans e;refine S (i+1) a (n+1) (by omega) N (st.1.at fun o e=>L I o J e) (st.2.at fun o e=>L ax o H e) ?_ fun b o h1 a e=>L b o h1 (r b o h1 a e);rw[merged_take_succ [] ks i (k,x) B];exact d2
  .have:(merged [] (ks.take i)).length<=(ks.take i).length:=xE _;rw[Qj] at this;omega
end
end PySem
namespace PySem
open Sem (wp)
open PyProof.Rows
section
variable {prog:PF} {w:Qc} {A:PX} {E:OW->Pa->Prop} {s:Pa} {K:Type} [DecidableEq K] {knd:KeyKind prog w K} {ax:Pc} {items:Array OW} {ks:List (K×OW)} {R:Vy->Pa->Prop}
theorem nV (z:A.handled=Ld) (u:s.heap.get? ax=lD ⟨.type "tuple",Ld,.seq items n,sl⟩) (hs:ks.length=items.size) (hz:items.size<=Po)
  (H:∀(i:Nat) (v:OW),items[i]? =lD v->∃q key k x,v= .ref q/\ks[i]? =lD (k,x)/\knd.is k key=Pb/\s.heap.IsTuple q #[key,x])
  (h:∀h' tk,h'.DictOf knd s.heap.objs.size (merged [] ks)->(∀b o,s.heap.get? b=lD o->h'.get? b=lD o)->Q (.ref s.heap.objs.size) {s with heap:=h',toks:=tk}):
  wpAny (model prog w) A (call (.type "dict") [.ref ax]) Q E s:=by
 refine W4 (Q₁:=fun obj a=>obj= .ref s.heap.objs.size/\a={s with heap:=s.heap.push {cls:= .type "dict",data:= .dict #[]}}) F.kt_called_dict (F.kt_typeCall_dict_1 _) F.entry_dict_init (abz _ ⟨rfl,rfl⟩) ?_;rintro obj a ⟨rfl,rfl⟩;have g:(s.heap.push {cls:= .type "dict",data:= .dict #[]}).DictOf knd s.heap.objs.size []:=Heap.DictOf.new s.heap;have p:(s.heap.push {cls:= .type "dict",data:= .dict #[]}).get? ax=lD ⟨.type "tuple",Ld,.seq items n,sl⟩:=Heap.get?_push_of_some _ u;have I:({s with heap:=s.heap.push {cls:= .type "dict",data:= .dict #[]}}:Pa).TypeIs (.ref ax) "tuple":=⟨_,p,rfl⟩;refine⟨g.typeIs,F.args_dict_init_2 _ _,?_⟩;unfold Builtin.«dict.__init__»;refine Bn ?_;unfold Builtin.Dict.selfAndRest;refine Bn (RB g.typeIs ?_);refine OY ?_;show wpAny _ _ (Builtin.Dict.updateFrom "dict.__init__" s.heap.objs.size (.ref ax) [] .none) _ _ _;unfold Builtin.Dict.updateFrom;refine Bn (RZ I ?_);rw[if_pos (by decide)];refine Bn (nU p z fun h' C d=> ?_);rw[if_pos (show(Ld:Option OW).isNone=Pb from rfl)];refine Bn (UJ ?_);have B:=d _ _ p;have l:h'.IsTuple ax items:=⟨_,B,rfl,n,rfl⟩;refine Bn (UU l ?_);refine OY ⟨Rv F.plain_upd_loop _,?_⟩;have SD:s.heap.objs.size<h'.objs.size:=by obtain⟨o,_,_,f,_⟩:=g;exact Heap.lt_size (d _ _ f)
 have c:=Heap.lt_size u;refine C1 (A:=A.in1) (knd:=knd) z (PU (RP c SD)) (RD SD) (PU c) (fun i v e=> ?_) hs hz (fun m j L G=> ?_) items.size 0 _ C (by omega) (Qb _) ⟨_,Heap.get?_push_size _ rfl,rfl,rfl⟩ ⟨_,Heap.get?_push_of_some _ B,rfl,n,rfl⟩ ?_ fun b o _ _ e=>e
 .obtain⟨q,key,k,x,rfl,h1,m,o,f,J⟩:=H i v e;have r:=Heap.lt_size f;exact⟨q,key,k,x,rfl,PU r,PU (RP r SD),h1,m,o,Heap.get?_push_of_some _ (d _ _ (Heap.get?_push_of_some _ f)),J⟩
 .refine⟨rfl,h m j L fun b o e=> ?_⟩;have t:=Heap.lt_size e;exact G b o (PU t) (PU (RP t SD)) (Heap.get?_push_of_some _ (d _ _ (Heap.get?_push_of_some _ e)))
 .have:=g.at (h':=h'.push {cls:= .type "tuple_iterator",data:= .fields #[.ref ax,.int 0 0]}) fun o e=>Heap.get?_push_of_some _ (d _ _ e);exact this
end
end PySem
namespace L10
open PySem PySem.Spec PyProof.Rows L2 L3
inductive Wa (K:OK) (H:Hp):List V->List (bT×V)->Prop
 |nil:Wa K H [] []
 |cons {q:Pc} {k:bT} {v:V} {vs:List V} {kvs:List (bT×V)}:TX K H q [kV k,v]->Wa K H vs kvs->Wa K H (.ref q::vs) ((k,v)::kvs)
def Et (K:OK):List V->Hp->VK->Prop:=fun xs H Q=>∃p ys kvs,xs=[.ref p]/\TX K H p ys/\Wa K H ys kvs/\∀d,H d=Ld->Q (.ref d) (upd H d (.dK (hW [] kvs)))
theorem Dc (I:Inv X pins σ H s):∀{ys:List V} {kvs:List (bT×V)} {g:List OW},Wa X.K H ys kvs->Vals ys g->∃ks:List (bT×OW),KV kvs ks/\ks.length=g.length/\∀(i:Nat) (v:OW),g[i]? =lD v->∃q key k x,v= .ref q/\ks[i]? =lD (k,x)/\(cK X.prog X.w).is k key=Pb/\s.heap.IsTuple q #[key,x]
 |_,_,_,.nil,.nil=>⟨[],.nil,rfl,fun i v e=>by simp at e⟩
 |_,_,_,.cons (q:=q) (k:=k) (v:=v) h t,.cons r rs=>by
  obtain⟨ks,h1,m,l⟩:=Dc I t rs;obtain⟨n,rv,pl,_⟩:=I.tuple h;cases r;obtain⟨f,d,rfl,rk,j⟩:∃f d,n=[f,d]/\RelV (kV k) f/\RelV v d:=by
   cases rv with
   |cons a b=>cases b with
    |cons b c=>cases c;exact⟨_,_,rfl,a,b⟩
  refine⟨(k,d)::ks,.cons ⟨rfl,j⟩ h1,by rw[Pf,Pf,m],fun i u e=> ?_⟩;cases i with
  |zero=>cases e;exact⟨q,f,k,d,rfl,rfl,pY rk,pl⟩
  |succ i=>exact l i u (by simpa using e)
theorem yq (F:X.calm=Pb):iG X (.type "dict") (Et X.K):=by
 intro c s G H xs J Q I r h;obtain⟨p,ys,kvs,rfl,t,w,q⟩:=h;obtain⟨u,rfl,f⟩:=nF r;cases f;obtain⟨T,rv,⟨o,z,⟨b,n,E⟩,a⟩,m⟩:=I.aaG t;obtain⟨O,d,l,j⟩:=Dc I w rv;obtain⟨N,M,g,S⟩:=o;cases b;cases E;cases a;have A:=rv.length;have B:=d.length;refine nV (I.ok.hd F) z (by rw[Pm];exact l) (by rw[Pm,<-A];exact m) (fun i v e=>j i v (by simpa using e)) fun P L dd C=> ?_;refine⟨.ref s.heap.objs.size,_,I.laid C (O8 _) ?_,rfl,q _ (I.Ro.fresh (O8 _))⟩;refine xx ?_ ?_ (KV.merge d .nil) dd
 .have:=hE kvs [];rw[Q0] at this;omega
 .exact beq_eq_false_iff_ne.mpr (RD I.big)
end L10
namespace L10
open PySem PyProof.Rows L2 L3
theorem E5:Qx "dict"=lD (.type "dict"):=by decide+kernel
section
variable {B O O':bF} {K:OK} {E:XK} {H H' T S:Hp} {Z α' Y U:List Pc} {ω ω' ω1 ω2:aW} {X:L2.St} {ρ:aX} {v:V}
def nX:SV->Option bT
 | .fz (.int i)=>lD (.inl i)
 | .fz (.str x)=>lD (.inr x)
 |_=>Ld
theorem k7 (e:nX x=lD k) (h:Tf O K H Z v x):v=kV k:=by
 unfold nX at e;split at e
 .cases e;cases h;rfl
 .cases e;cases h;rfl
 .cases e
abbrev ve (O:bF) (K:OK) (H:Hp) (Z:List Pc):List (bT×V)->List (bT×SV)->Prop:=Paired (fun(p:bT×V) (q:bT×SV)=>p.1=q.1/\Tf O K H Z p.2 q.2)
def kA (ω:aW):SV->Option (Nat×List (bT×SV))
 | .rf i=>match ω[i]? with
  |some (.R9 kvs)=>lD (i,kvs)
  |_=>Ld
 |_=>Ld
theorem sW (s:P5 B K H Z ω) (b:Tf (ow B Z ω) K H Z v x) (h:kA ω x=lD (i,kvs)):ω[i]? =lD (.R9 kvs)/\∃a ws,Z[i]? =lD a/\v= .ref a/\H a=lD (.dK ws)/\ve (ow B Z ω) K H Z ws kvs:=by
 cases x with
 |fz d=>cases h
 |tp l=>cases h
 |rf j=>
  obtain⟨a,ha,rfl⟩:=b;unfold kA at h;dsimp only at h;cases q:ω[j]? with
  |none=>rw[q] at h;cases h
  |some c=>
   rw[q] at h;cases c with
   |R9 ys=>have e:=PK h;cases e;obtain⟨ws,h1,f⟩:=s.Wc i a _ ha q;exact⟨q,a,ws,ha,rfl,h1,f⟩
   |_=>cases h
def cR (kvs:List (bT×SV)) (k:bT):Option SV:=(kvs.find? fun a=>decide (a.1=k)).map (·.2)
def gR (kvs:List (bT×SV)) (k:bT) (x:SV):List (bT×SV):=
 if(kvs.any fun a=>decide (a.1=k))=Pb then kvs.map (fun a=>if a.1=k then(a.1,x) else a) else kvs++[(k,x)]
theorem uf:∀{ws:List (bT×V)} {kvs:List (bT×SV)},ve O K H Z ws kvs->(∀x,cR kvs k=lD x->∃v,jW ws k=lD v/\Tf O K H Z v x)/\(cR kvs k=Ld->jW ws k=Ld)
 |_,_,.nil=>⟨fun x e=>(by cases e),fun _=>rfl⟩
 |(a,u)::ws,(b,y)::kvs,.cons ⟨h1,h2⟩ t=>by
  cases h1;unfold cR jW;rw[PL,PL];by_cases e:a=k
  .simp only[decide_eq_true e];exact⟨fun x h=>⟨u,rfl,by cases h;exact h2⟩,fun h=>by cases h⟩
  .simp only[decide_eq_false e];exact uf t
theorem M6:∀{ws:List (bT×V)} {kvs:List (bT×SV)},ve O K H Z ws kvs->(ws.any fun kv=>decide (kv.1=k))=kvs.any fun kv=>decide (kv.1=k)
 |_,_,.nil=>rfl
 |(a,u)::ws,(b,y)::kvs,.cons ⟨h1,h2⟩ t=>by cases h1;rw[S9,S9,M6 t]
theorem J9 (c:Tf O K H Z v x):∀{ws:List (bT×V)} {kvs:List (bT×SV)},ve O K H Z ws kvs->ve O K H Z (ws.map (fun kv=>if kv.1=k then(kv.1,v) else kv)) (kvs.map (fun kv=>if kv.1=k then(kv.1,x) else kv))
 |_,_,.nil=> .nil
 |(a,u)::ws,(b,y)::kvs,.cons ⟨h1,h2⟩ t=>by
  cases h1;rw[Pd,Pd];by_cases e:a=k
  .rw[if_pos e,if_pos e];exact .cons ⟨rfl,c⟩ (J9 c t)
  .rw[if_neg e,if_neg e];exact .cons ⟨rfl,h2⟩ (J9 c t)
theorem Fd (h:ve O K H Z ws kvs) (r:p.1=q.1/\Tf O K H Z p.2 q.2):ve O K H Z (ws++[p]) (kvs++[q]):=by
 induction h with
 |nil=>exact .cons r .nil
 |cons a _ b=>exact .cons a b
theorem AG (a:Tf O K H Z v x) (h:ve O K H Z ws kvs):ve O K H Z (iB ws k v) (gR kvs k x):=by
 unfold iB gR;rw[M6 h];split
 .exact J9 a h
 .exact Fd h ⟨rfl,a⟩
def qB (neg:Bool) (fk fd:cE):cE:=fun ρ ω=>(fk ρ ω).bind fun x ω1=>(fd ρ ω1).bind fun o ω2=>(RS.Qi ω2 (nX x)).bind fun k ω2=>(RS.Qi ω2 (kA ω2 o)).bind fun p ω2=> .ok (.fz (.bool ((cR p.2 k).isSome !=neg))) ω2
theorem vp (h:ve O K H Z ws kvs):(jW ws k).isSome=(cR kvs k).isSome:=by
 obtain⟨h1,a⟩:=uf h;cases q:cR kvs k with
 |none=>rw[a q];rfl
 |some x=>obtain⟨u,e,_⟩:=h1 x q;rw[e];rfl
theorem G7 (n:cZ K E tk fk) (p:cZ K E td fd):cZ K E (M5 tk td) (qB Ph fk fd):=by intro B X H Z ω ρ Q s c w;refine n B X H Z ω ρ _ s c (w.bind.imp fun x Y ω1 T t g f v l=> ?_);refine p B X T Y ω1 ρ _ g (c.Sr t) (f.bind.imp fun o U ω2 S z d b u m=> ?_);obtain⟨k,j,b⟩:=WS.Qi b;obtain⟨⟨i,kvs⟩,h,b⟩:=WS.Qi b;obtain⟨_,a,e,ha,rfl,r,q⟩:=sW d m h;refine⟨a,jW e k,rfl,by rw[k7 j l];exact Vu.k r,?_⟩;rw[vp q];refine WS.now d b _ ?_;rw[ZW];exact .bl _
theorem vx (n:cZ K E tk fk) (p:cZ K E td fd):cZ K E (A5 tk td) (qB Pb fk fd):=by intro B X H Z ω ρ Q s c w;refine n B X H Z ω ρ _ s c (w.bind.imp fun x Y ω1 T t g f v l=> ?_);refine p B X T Y ω1 ρ _ g (c.Sr t) (f.bind.imp fun o U ω2 S z d b u m=> ?_);obtain⟨k,j,b⟩:=WS.Qi b;obtain⟨⟨i,kvs⟩,h,b⟩:=WS.Qi b;obtain⟨_,a,e,ha,rfl,r,q⟩:=sW d m h;refine⟨a,jW e k,rfl,by rw[k7 j l];exact Vu.k r,?_⟩;rw[vp q];refine WS.now d b _ ?_;rw[Ww];exact .bl _
def pc (fd fk:cE):cE:=fun ρ ω=>(fd ρ ω).bind fun o ω1=>(fk ρ ω1).bind fun x ω2=>(RS.Qi ω2 (nX x)).bind fun k ω2=>(RS.Qi ω2 (kA ω2 o)).bind fun p ω2=>RS.Qi ω2 (cR p.2 k)
theorem pD (r:cZ K E td fd) (p:cZ K E tk fk):cZ K E (Je td tk) (pc fd fk):=by
 intro B X H Z ω ρ Q s c w;refine r B X H Z ω ρ _ s c (w.bind.imp fun o Y ω1 T F g e u n=> ?_);refine p B X T Y ω1 ρ _ g (c.Sr F) (e.bind.imp fun x U ω2 S C d b v m=> ?_);obtain⟨k,j,b⟩:=WS.Qi b;obtain⟨⟨i,kvs⟩,h,b⟩:=WS.Qi b;obtain⟨_,a,G,ha,rfl,A,t⟩:=sW d (n.Sr C) h;dsimp only at b;cases q:cR kvs k with
 |none=>rw[q] at b;exact b.elim
 |some y=>rw[q] at b;obtain⟨z,l,f⟩:=(uf t).1 y q;exact⟨a,z,rfl,by rw[k7 j m,<-l];exact Vu.k A,WS.now d b z f⟩
def zD (fd fk b:cE):gF:=fun ρ ω=>(b ρ ω).bind fun y ω1=>(fd ρ ω1).bind fun o ω2=>(fk ρ ω2).bind fun x a=>(RS.Qi a (nX x)).bind fun k a=>(RS.Qi a (kA a o)).bind fun p a=>if p.2.length<1000000 then .ok (.nx ρ) (a.set p.1 (.R9 (gR p.2 k y))) else .bad
theorem Fp (hd:cZ K E td fd) (hk:cZ K E tk fk) (P:cZ K E tv fv):p0 K E (Jc td tk tv) (zD fd fk fv):=by
 intro B X H Z ω ρ D s e w;refine P B X H Z ω ρ _ s e (WS.imp (WS.bind w) fun y Y ω1 T n J G q j=> ?_);refine hd B X T Y ω1 ρ _ J (e.Sr n) (WS.imp (WS.bind G) fun o U ω2 S m I F u Q=> ?_);refine hk B X S U ω2 ρ _ I (e.Sr (n.trans m)) (WS.imp (WS.bind F) fun x b c f l t d z N=> ?_);obtain⟨k,M,d⟩:=WS.Qi d;obtain⟨⟨i,kvs⟩,L,d⟩:=WS.Qi d;obtain⟨g,a,p,ha,rfl,g1,A⟩:=sW t (Q.Sr l) L;dsimp only at d;by_cases hn:kvs.length<1000000
 .rw[if_pos hn] at d;have ev:Ev (ow B b c) f (ow B b c) (upd f a (.dK (iB p k q))):=tY ha g (by intro z;cases z);have C:Ru b c f b (c.set i (.R9 (gR kvs k y))) (upd f a (.dK (iB p k q))):=Ru.put ha g (by intro z;cases z) (by intro z;cases z);have hl:=Paired.length A;refine⟨a,_,rfl,by rw[k7 M N];exact YO.k g1 (rR (by omega)),?_⟩;exact d b _ C (t.put ha g (by intro z;cases z) (by intro z;cases z) ⟨_,aD,AG ((j.Sr (m.trans l)).ev ev fun _ _ h=>h) (Paired.TR A fun _ _ r=>⟨r.1,r.2.ev ev fun _ _ h=>h⟩)⟩) X ((e.Sr (n.trans (m.trans l))).Sr C)
 .rw[if_neg hn] at d;exact d.elim
theorem pN (s:P5 B K H Z ω) (a:H p=Ld) (w:WS K E B H Z ω (PQ B K Q) (.ok (.rf ω.length) (ω++[c]))) (d:∀e:Ru Z ω H (Z++[p]) (ω++[c]) (upd H p o),Zs (ow B (Z++[p]) (ω++[c])) K (upd H p o) (Z++[p]) p c):Q (.ref p) (upd H p o):=by have b:Rg H (upd H p o):=bU a _;have e:Ru Z ω H (Z++[p]) (ω++[c]) (upd H p o):=Ru.Vs s.len b a;exact w _ _ e (s.Vs b a (by rw[aD];simp) (d e)) _ ⟨p,by rw[<-s.len];exact aU,rfl⟩
def pT:D->Option (bT×SV)
 | .tuple [.int i,d]=>lD (.inl i,.fz d)
 | .tuple [.str x,d]=>lD (.inr x,.fz d)
 |_=>Ld
def qA:SV->Option (List (bT×SV))
 | .fz (.tuple ds)=>ar pT ds
 |_=>Ld
theorem B6 (e:qA x=lD ps):∃ds,x= .fz (.tuple ds)/\ar pT ds=lD ps:=by
 unfold qA at e;split at e
 .exact⟨_,rfl,e⟩
 .cases e
def e9 (kvs a:List (bT×SV)):List (bT×SV):=a.foldl (fun b c=>gR b c.1 c.2) kvs
def wK (fe:cE):cE:=fun ρ ω=>(fe ρ ω).bind fun x ω1=>(RS.Qi ω1 (qA x)).bind fun ps ω1=> .ok (.rf ω1.length) (ω1++[.R9 (e9 [] ps)])
theorem vf:∀{vs:List V} {ds:List D} {ps:List (bT×SV)},L3.QV O K H vs ds->ar pT ds=lD ps->∃kvs,Wa K H vs kvs/\ve O K H Z kvs ps
 |_,_,_,.nil,e=>by cases e;exact⟨[],.nil,.nil⟩
 |_,_,_,.cons (d:=d) (ds:=ds) h t,e=>by
  unfold ar at e;cases q:pT d with
  |none=>rw[q] at e;cases e
  |some p=>
   rw[q] at e;dsimp only at e;cases q2:ar pT ds with
   |none=>rw[q2] at e;cases e
   |some ps=>
    rw[q2] at e;cases e;obtain⟨kvs,i,g⟩:=vf t q2;unfold pT at q;split at q
    .cases q
     cases h with
     |tup h f=>cases f with
      |cons a b=>cases b with
       |cons b c=>cases c;cases a;exact⟨(.inl _,_)::kvs,.cons h.1 i,.cons ⟨rfl,b⟩ g⟩
    .cases q
     cases h with
     |tup h f=>cases f with
      |cons a b=>cases b with
       |cons b c=>cases c;cases a;exact⟨(.inr _,_)::kvs,.cons h.1 i,.cons ⟨rfl,b⟩ g⟩
    .cases q
theorem sZ:∀{c:List (bT×V)} {d:List (bT×SV)} {ws:List (bT×V)} {kvs:List (bT×SV)},ve O K H Z c d->ve O K H Z ws kvs->ve O K H Z (hW ws c) (e9 kvs d)
 |_,_,_,_,.nil,h=>h
 |(a,u)::c,(b,y)::d,_,_,.cons r t,h=>by obtain⟨f,e⟩:=r;cases f;show ve O K H Z (hW (iB _ a u) c) (e9 (gR _ a y) d);exact sZ t (AG e h)
theorem Fv (m:cZ K E te fe):cZ K E (G8 (Et K) (gQ te qw)) (wK fe):=by
 intro B X H Z ω ρ Q s c w;refine m B X H Z ω ρ _ s c (w.bind.imp fun x Y ω1 T o f b u j=> ?_);obtain⟨ps,q,a⟩:=WS.Qi b;obtain⟨ds,rfl,q⟩:=B6 q;have a:=a;cases j with
 |tup h l=>obtain⟨kvs,i,g⟩:=vf l q;exact⟨_,_,kvs,rfl,h.1,i,fun d n=>pN f n a fun e=>⟨_,aD,sZ (Paired.TR g fun _ _ r=>⟨r.1,r.2.Sr e⟩) .nil⟩⟩
end
end L10
namespace PySem
open PyProof.Rows
namespace F
end F
end PySem
namespace L10
open PySem PySem.Spec PyProof.Rows L2 L3
end L10
namespace L10
open PySem L2 L3
section
variable {B O O':bF} {K:OK} {E:XK} {H H' H1 H2:Hp} {X Y U α2:List Pc} {ω Z ω1 ω2:aW} {σ:L2.St} {ρ:aX} {v:V}
theorem fU {l r:List A} (h:(l++r)[i]? =lD y):l[i]? =lD y\/∃j,i=l.length+j/\r[j]? =lD y:=by
 by_cases hi:i<l.length
 .rw[Pz hi] at h;exact .inl h
 .rw[PH (by omega)] at h;exact .inr ⟨i - l.length,by omega,h⟩
theorem HC {l r:List A} {i:Nat} (h:l[i]? =lD y):(l++r)[i]? =lD y:=by rw[Pz (O0.mp h).1];exact h
theorem Ci {l r:List A} (h:r[i]? =lD y):(l++r)[l.length+i]? =lD y:=by rw[PH (by omega),SK];exact h
theorem El (e:X.length=ω.length) (h:Lv (X++ps) (ω++cs) b):Lv X ω b\/b∈ps:=by
 obtain⟨i,d,h1,c,a⟩:=h;rcases fU h1 with g1|⟨j,e1,g1⟩
 .rcases fU c with g2|⟨k,e2,g2⟩
  .exact .inl ⟨i,d,g1,g2,a⟩
  .have:=(O0.mp g1).1;omega
 .exact .inr (Pu g1)
theorem Ru.Wl (s:P5 B K H X ω) (e:Rg H H') (c:∀p∈ps,H p=Ld):Ru X ω H (X++ps) (ω++cs) H':=
 ⟨fun i a h=>HC h,fun b u q _=>e b u q,fun b z=>(El s.len z).imp id fun z=>c b z⟩
theorem P5.Wl (s:P5 B K H X ω) (e:Rg H H') (f:∀p∈ps,H p=Ld) (l:∀p∈ps,H' p≠Ld) (nd:∀(i j:Nat) (a:Pc),ps[i]? =lD a->ps[j]? =lD a->i=j) (r:ps.length=cs.length)
  (new:∀(i:Nat) (a:Pc) (c:Cell),ps[i]? =lD a->cs[i]? =lD c->Zs (ow B (X++ps) (ω++cs)) K H' (X++ps) a c):P5 B K H' (X++ps) (ω++cs):=by
 have ev:Ru X ω H (X++ps) (ω++cs) H':=Ru.Wl s e f;have n:∀b,H b≠Ld->H' b≠Ld:=fun b h z=>h (e.free z);refine⟨by rw[OZ,OZ,s.len,r],fun i j a h1 g=> ?_,fun a h=>n a (s.bn a h),fun a h i q=> ?_,fun i a h=> ?_,fun i a d h1 g=> ?_⟩
 .rcases fU h1 with g1|⟨i',e1,g1⟩<;>rcases fU g with g2|⟨j',e2,g2⟩
  .exact s.nd i j a g1 g2
  .exact absurd (f a (Pu g2)) (s.al i a g1)
  .exact absurd (f a (Pu g1)) (s.al j a g2)
  .have:=nd i' j' a g1 g2;omega
 .rcases fU q with q|⟨j,_,q⟩
  .exact s.ba a h i q
  .exact s.bn a h (f a (Pu q))
 .rcases fU h with h|⟨j,_,h⟩
  .exact n a (s.al i a h)
  .exact l a (Pu h)
 .have m:=s.len
  rcases fU g with g2|⟨j,e2,g2⟩
  .rcases fU h1 with g1|⟨k,e1,g1⟩
   .exact(s.Wc i a d g1 g2).ev ev.ev ev.pre fun o q=>e _ _ q
   .have:=(O0.mp g2).1;omega
  .rcases fU h1 with g1|⟨k,e1,g1⟩
   .have:=(O0.mp g1).1;omega
   .have:k=j:=by omega
    subst this;exact new k a d g1 g2
def wv (Z:aW):Nat->List AV->Option (List AV×List (List D)×List Nat)
 |_,[]=>lD ([],[],[])
 |n,.fz d::r=>match wv Z n r with
  |some (l,cs,js)=>lD (.fz d::l,cs,js)
  |none=>Ld
 |n,.rf i::r=>match sh Z (.rf i) with
  |some (.list ds)=>(match wv Z (n+1) r with
   |some (l,cs,js)=>lD (.rf n::l,ds::cs,i::js)
   |none=>Ld)
  |_=>Ld
def M9 (ds:List D):Cell:= .lst (ds.map .fz)
def dQ (x:SV) (Z ω:aW):RS SV:=match x with
 | .fz d=> .ok (.fz d) ω
 | .rf i=>(match sh Z (.rf i) with
  |some (.list ds)=>jo ω (.ow ds)
  |_=> .bad)
 | .tp l=>(match wv Z ω.length l with
  |some (l',cs,js)=>if js.Nodup then .ok (.tp l') (ω++cs.map M9) else .bad
  |none=> .bad)
theorem uR (h:sh ω (.rf i)=lD (.list ds)):∃xs,ω[i]? =lD (.lst xs)/\ar mJ xs=lD ds:=by
 unfold sh at h;dsimp only at h;cases q:ω[i]? with
 |none=>rw[q] at h;cases h
 |some c=>
  rw[q] at h;cases c with
  |lst xs=>
   dsimp only at h;cases q2:ar mJ xs with
   |none=>rw[q2] at h;cases h
   |some a=>rw[q2] at h;cases h;exact⟨xs,rfl,q2⟩
  |_=>cases h
theorem kR (s:P5 B K H X ω) (h:sh ω (.rf i)=lD (.list ds)):∃a vs,X[i]? =lD a/\H a=lD (.lst vs)/\L3.QV (ow B X ω) K H vs ds/\ow B X ω a:=by obtain⟨xs,b,c⟩:=uR h;obtain⟨a,ha⟩:=s.at b;obtain⟨vs,h1,d⟩:=s.Wc i a _ ha b;exact⟨a,vs,ha,h1,jA (cP (R:=Tf (ow B X ω) K H X) (fun v x y r e=>xI r e) d c),.inr ⟨i,_,ha,b,by intro z;cases z⟩⟩
theorem Fq {g:bF} (s:P5 g K H' Y Z):∀{n:Nat} {l m:List AV} {cs:List (List D)} {f:List Nat} {xs:List V},wv Z n l=lD (m,cs,f)->Paired (AOk (ow g Y Z) K H' Y) xs l->
  ∃ps:List Pc,ps.length=f.length/\cs.length=f.length/\(∀(k j:Nat),f[k]? =lD j->∃a ds vs,ps[k]? =lD a/\cs[k]? =lD ds/\Y[j]? =lD a/\H' a=lD (.lst vs)/\L3.QV (ow g Y Z) K H' vs ds/\ow g Y Z a)/\
   ∀(b:List Pc),b.length=n->Paired (AOk (ow g Y Z) K H' (b++ps)) xs m
 |_,[],_,_,_,_,e,.nil=>by cases e;exact⟨[],rfl,rfl,fun k j h=>by simp at h,fun b _=> .nil⟩
 |n,.fz d::r,m,cs,f,_,e,.cons h t=>by
  unfold wv at e;cases q:wv Z n r with
  |none=>rw[q] at e;cases e
  |some p=>obtain⟨l1,A,o⟩:=p;rw[q] at e;cases e;obtain⟨ps,h1,z,w,u⟩:=Fq s q t;exact⟨ps,h1,z,w,fun b c=> .cons h (u b c)⟩
 |n,.rf i::r,m,cs,f,_,e,.cons h t=>by
  unfold wv at e;cases qs:sh Z (.rf i) with
  |none=>rw[qs] at e;cases e
  |some d=>
   rw[qs] at e;cases d with
   |list ds=>
    dsimp only at e;cases q:wv Z (n+1) r with
    |none=>rw[q] at e;cases e
    |some p=>
     obtain⟨l1,A,o⟩:=p;rw[q] at e;cases e;obtain⟨ps,h1,z,w,u⟩:=Fq s q t;obtain⟨a,vs,ha,G,J,I⟩:=kR s qs;refine⟨a::ps,by rw[Pf,Pf,h1],by rw[Pf,Pf,z],fun k j C=> ?_,fun b c=> ?_⟩
     .cases k with
      |zero=>cases C;exact⟨a,ds,vs,rfl,rfl,ha,G,J,I⟩
      |succ k=>exact w k j (by simpa using C)
     .have L:b++a::ps=(b++[a])++ps:=by simp
      obtain⟨M,F,rfl⟩:=h;rw[ha] at F;cases F;refine .cons ⟨a,by rw[<-c];exact Ci (l:=b) (r:=a::ps) (i:=0) rfl,rfl⟩ ?_;rw[L];exact u (b++[a]) (by rw[OZ,c];rfl)
   |_=>cases e
theorem BK (s:P5 B K H X ω) (w:WS K E B H X ω (PQ B K Q) (dQ x Z ω)) (e':Ru [] [] H Y Z H') (G:P5 (ow B X ω) K H' Y Z) (J:Tf (ow (ow B X ω) Y Z) K H' Y v x):Q v H':=by
 have F:=fun b o h=>e'.kp b o h fun⟨i,c,q,_⟩=>by simp at q
 have sub:∀b,ow B X ω b->ow (ow B X ω) Y Z b:=fun b z=> .inl z;have fr:=fun i a c h1 h2 h3=>(e'.lv a ⟨i,c,h1,h2,h3⟩).elim (fun⟨i,c,q,_⟩=>by simp at q) id;cases x with
 |fz d=>exact w X H' (Ru.same F) (s.grow F) v (DV.ev (Ev.sub sub) J)
 |rf i=>
  unfold dQ at w;dsimp only at w;cases qs:sh Z (.rf i) with
  |none=>rw[qs] at w;exact w.elim
  |some d=>
   rw[qs] at w;cases d with
   |list ds=>obtain⟨a,vs,ha,h1,hd,M⟩:=kR G qs;obtain⟨xs,e,_⟩:=uR qs;obtain⟨a',Z0,rfl⟩:=J;rw[ha] at Z0;cases Z0;exact oQ s w F (fr i a _ ha e (by intro z;cases z)) h1 hd sub M
   |_=>exact w.elim
 |tp l=>
  unfold dQ at w;dsimp only at w;cases qg:wv Z ω.length l with
  |none=>rw[qg] at w;exact w.elim
  |some p=>
   obtain⟨l',cs,I⟩:=p;rw[qg] at w;dsimp only at w;by_cases hn:I.Nodup
   .rw[if_pos hn] at w
    obtain⟨a,xs,rfl,ht,hl⟩:=J;obtain⟨ps,g1,g2,g3,g4⟩:=Fq G qg hl;have C:∀(k:Nat) (b:Pc),ps[k]? =lD b->∃j ds vs,I[k]? =lD j/\cs[k]? =lD ds/\Y[j]? =lD b/\H' b=lD (.lst vs)/\L3.QV (ow (ow B X ω) Y Z) K H' vs ds/\ow (ow B X ω) Y Z b:=fun k b hb=>by
     have f:k<I.length:=by rw[<-g1];exact(O0.mp hb).1
     obtain⟨b',ds,vs,e,A,u,m,t,g⟩:=g3 k _ (Pq f);rw[hb] at e;cases e;exact⟨_,ds,vs,Pq f,A,u,m,t,g⟩
    have nB:∀(j:Nat) (b:Pc),Y[j]? =lD b->ow (ow B X ω) Y Z b->H b=Ld:=fun j b N M=>by
     rcases M with z|⟨i,c,z1,z2,z3⟩
     .exact absurd N (G.ba b z j)
     .exact fr i b c z1 z2 z3
    have fp:∀p∈ps,H p=Ld:=fun p L=>by obtain⟨k,f⟩:=S2.mp L;obtain⟨j,ds,vs,e,A,u,m,t,g⟩:=C k p f;exact nB j p u g
    have n:∀b,ow B (X++ps) (ω++cs.map M9) b->ow (ow B X ω) Y Z b:=fun b z=>by
     rcases z with z|z
     .exact .inl (.inl z)
     .rcases El s.len z with z|z
      .exact .inl (.inr z)
      .obtain⟨k,f⟩:=S2.mp z;obtain⟨j,ds,vs,e,A,u,m,t,g⟩:=C k b f;exact g
    have ev:=Ru.Wl (cs:=cs.map M9) s F fp;refine w (X++ps) H' ev (s.Wl F fp (fun p L=> ?_) (fun i j b hi N=> ?_) (by rw[OX,g1,g2]) fun i b c hi T=> ?_) (.ref a) ⟨a,xs,rfl,ht.ev (Ev.sub n),Paired.TR (g4 X s.len) fun _ _ r=>r.ev (Ev.sub n) fun _ _ h=>h⟩
    .obtain⟨k,f⟩:=S2.mp L;obtain⟨j,ds,vs,e,A,u,m,t,g⟩:=C k p f;rw[m];simp
    .obtain⟨j1,_,_,S,_,p3,_⟩:=C i b hi;obtain⟨j2,_,_,r1,_,r3,_⟩:=C j b N;have:=G.nd j1 j2 b p3 r3;subst this;have P:=(O0.mp S).1;exact(List.getElem?_inj P hn).mp (S.trans r1.symm)
    .obtain⟨j,ds,vs,e,A,u,m,t,g⟩:=C i b hi;rw[Pg,A] at T;cases T;exact⟨vs,m,mW _ _ (t.ev (Ev.sub n))⟩
   .rw[if_neg hn] at w;exact w.elim
def jq (F:qN) (n:Nat) (xs:List SV) (ω:aW):RS SV:=if xs.length=n then(match ar mJ xs with
 |some ds=>(match F (ds.map .fz) [] with
  | .ok x Z=>dQ x Z ω
  | .er x _=> .er x ω
  | .bad=> .bad)
 |none=> .bad) else .bad
def gJ (F:qN) (n:Nat) (fa:AR):cE:=fun ρ ω=>(fa ρ ω).bind fun xs ω1=>gO (jq F n xs ω1)
theorem FV (h:∀a,B a->H a≠Ld):P5 B K H [] []:=⟨rfl,fun i j a h=>by simp at h,h,fun a h i=>by simp,fun i a h=>by simp at h,fun i a c h=>by simp at h⟩
theorem ut:∀{xs:List SV} {ds:List D},ar mJ xs=lD ds->xs=ds.map .fz
 |[],_,e=>by cases e;rfl
 |x::r,ds,e=>by
  unfold ar at e;cases x with
  |fz d=>
   dsimp only[mJ] at e;cases q:ar mJ r with
   |none=>rw[q] at e;cases e
   |some a=>rw[q] at e;cases e;rw[Pd,<-ut q]
  |rf i=>cases e
  |tp l=>cases e
theorem DZ (s:P5 B K H X ω) (d:S6 (ow B X ω) K H X vs xs) (w:WS K E B H X ω (PQ B K Q) (jq F n xs ω)):wW K n F vs H Q E:=by
 unfold jq at w;by_cases hn:xs.length=n
 .rw[if_pos hn] at w
  refine⟨d.length.trans hn,?_⟩;cases q:ar mJ xs with
  |none=>rw[q] at w;exact w.elim
  |some ds=>
   rw[q] at w;dsimp only at w;have j:=ut q;refine⟨ow B X ω,[],[],ds.map .fz,FV s.owd,?_,?_⟩
   .rw[j] at d;exact mW _ _ ((yV d).ev (Ev.sub fun b z=>z.elim id fun⟨i,c,q,_⟩=>by simp at q))
   .cases qF:F (ds.map .fz) [] with
    |bad=>rw[qF] at w;exact w.elim
    |ok x Z=>rw[qF] at w;exact fun Y H' e g v a=>BK s w e g a
    |er x Z=>
     rw[qF] at w;intro c dx Y H' e g k;have f:=fun b o h=>e.kp b o h fun⟨i,c,q,_⟩=>by simp at q
     exact w c dx X H' (Ru.same f) (s.grow f) (Zy.sub (fun b z=> .inl z) k)
 .rw[if_neg hn] at w;exact w.elim
theorem ni (ha:Ia K E ta fa):cZ K E (sk (wW K n F) [] E0 ta) (gJ F n fa):=by intro B σ H X ω ρ Q s b w;refine ha B σ H X ω ρ _ s b (w.bind.imp fun xs U ω1 H1 e c a vs d=> ?_);rw[PY];exact DZ c d (WS.e0 a)
def LM (F:qN):FN:=fun ds=>match F (ds.map .fz) [] with
 | .ok (.fz d) _=> .ok (.fz d)
 | .ok (.rf i) ω=>(match sh ω (.rf i) with
  |some (.list ds)=> .ok (.ow ds)
  |_=> .bad)
 | .ok (.tp _) _=> .bad
 | .er x _=> .er x
 | .bad=> .bad
theorem Jz (h:l4 K n (LM F) vs H Q E):wW K n F vs H Q E:=by
 obtain⟨u,B,ds,C,G,w⟩:=h;refine⟨u,B,[],[],ds.map .fz,FV C,mW _ _ (G.ev (Ev.sub fun b z=>z.elim id fun⟨i,c,q,_⟩=>by simp at q)),?_⟩;unfold LM at w;cases qF:F (ds.map .fz) [] with
 |bad=>rw[qF] at w;exact w.elim
 |er x Z=>rw[qF] at w;intro c dx Y H' e g k;exact w c dx H' (fun b o h=>e.kp b o h fun⟨i,c,q,_⟩=>by simp at q) (Zy.sub (fun b z=> .inl z) k)
 |ok x Z=>
  rw[qF] at w;intro Y H' e g v j;have f:=fun b o h=>e.kp b o h fun⟨i,c,q,_⟩=>by simp at q
  cases x with
  |fz d=>exact w v H' f (DV.ev (Ev.sub fun b z=> .inl z) j)
  |tp l=>exact w.elim
  |rf i=>
   dsimp only at w;cases qs:sh Z (.rf i) with
   |none=>rw[qs] at w;exact w.elim
   |some d=>
    rw[qs] at w;cases d with
    |list I=>obtain⟨a,p,ha,h1,A,t⟩:=kR g qs;obtain⟨xs,r,_⟩:=uR qs;obtain⟨J,m,rfl⟩:=j;rw[ha] at m;cases m;refine w a p H' f ((e.lv a ⟨i,_,ha,r,by intro z;cases z⟩).elim (fun⟨i,c,q,_⟩=>by simp at q) id) h1 (A.ev (Ev.sub fun b z=>z.elim (fun z=> .inl z) fun z=>by rw[z];exact t))
    |_=>exact w.elim
end
section
variable {ρ ρ1 ρ2:aX} {ω ω1 ω2 ω3 ω4:aW} {x y z:SV} {i n:Nat} {d dx dy:D} {ds:List D} {b:Bool}
theorem bi (h:ρ[i]? =lD (lD x)):bw i ρ ω= .ok x ω:=by unfold bw;rw[h]
theorem aw (h:f (dI ρ)= .ok (.fz d,ρ')):aq f ρ ω= .ok (.fz d) ω:=by unfold aq;rw[h]
theorem pZ (h:f (dI ρ)= .ok (.ow ds,ρ')):aq f ρ ω= .ok (.rf ω.length) (ω++[.lst (ds.map .fz)]):=by unfold aq;rw[h];rfl
theorem fE (h:f (dI ρ)= .ok (b,ρ')):kY f ρ ω= .ok b ω:=by unfold kY;rw[h]
theorem iH (h:f (dI ρ)= .ok (ds,ρ')):jM f ρ ω= .ok ds ω:=by unfold jM;rw[h]
theorem jG (ha:fa ρ ω= .ok x ω1) (hb:fb ρ ω1= .ok y ω2) (a:pU f x y ω2= .ok z ω3):F4 f fa fb ρ ω= .ok z ω3:=by unfold F4;rw[ha,RS.bind_ok,hb,RS.bind_ok,a]
theorem gC (h:f dx dy=lD (.fz d)):pU f (.fz dx) (.fz dy) ω= .ok (.fz d) ω:=by unfold pU;show((RS.Qi ω (f dx dy)).bind fun rv ω1=>jo ω1 rv)=_;rw[h];rfl
theorem yG (hs:sh ω x=Ld\/sh ω y=Ld) (c:kS 6 ω x=lD dx) (a:kS 6 ω y=lD dy) (h:f dx dy=lD (.fz d)) (g:Br d=Pb):pU f x y ω= .ok (.fz d) ω:=by
 have e:((RS.Qi ω (kS 6 ω x)).bind fun dx ω1=>(RS.Qi ω1 (kS 6 ω1 y)).bind fun dy ω2=>(RS.Qi ω2 (f dx dy)).bind fun rv ω3=>kB ω3 rv)= .ok (.fz d) ω:=by rw[c];show((RS.Qi ω (kS 6 ω y)).bind fun dy ω2=>(RS.Qi ω2 (f dx dy)).bind fun rv ω3=>kB ω3 rv)=_;rw[a];show((RS.Qi ω (f dx dy)).bind fun rv ω3=>kB ω3 rv)=_;rw[h];show(if Br d=Pb then RS.ok (SV.fz d) ω else RS.bad)=_;rw[if_pos g]
 unfold pU;rcases hs with hs|hs
 .rw[hs];exact e
 .rw[hs];cases sh ω x<;>exact e
theorem oE:∀ds:List D,ar mJ (ds.map .fz)=lD ds
 |[]=>rfl
 |d::r=>by rw[Pd];unfold ar;rw[oE r];rfl
theorem ci (h:fa ρ ω= .ok (.fz (.bool b)) ω1):eZ fa ρ ω= .ok b ω1:=by unfold eZ;rw[h];rfl
theorem BU (h:fa ρ ω= .ok Pb ω1) (k:fb ρ ω1=r):BG fa fb ρ ω=r:=by unfold BG;rw[h,RS.bind_ok,if_pos rfl,k]
theorem BD (h:fa ρ ω= .ok Ph ω1):BG fa fb ρ ω= .ok Ph ω1:=by unfold BG;rw[h,RS.bind_ok,if_neg Pt]
theorem wb (h:fa ρ ω= .ok Ph ω1) (k:fb ρ ω1=r):LB fa fb ρ ω=r:=by unfold LB;rw[h,RS.bind_ok,if_neg Pt,k]
theorem lB (h:fa ρ ω= .ok b ω1):yc fa ρ ω= .ok (!b) ω1:=by unfold yc;rw[h];rfl
theorem ce:d5 ρ ω= .ok [] ω:=rfl
theorem aR (ha:fa ρ ω= .ok x ω1) (a:fr ρ ω1= .ok xs ω2):bp fa fr ρ ω= .ok (x::xs) ω2:=by unfold bp;rw[ha,RS.bind_ok,a,RS.bind_ok]
theorem L6 (ha:fa ρ ω= .ok xs ω1) (a:xs.length<=1000) (h1:ar mJ xs=Ld) (c:ar Nk xs=lD l):Gf fa ρ ω= .ok (.tp l) ω1:=by unfold Gf;rw[ha,RS.bind_ok,if_pos a];unfold N9;rw[h1];dsimp only;rw[c];rfl
theorem IS (ha:fa ρ ω= .ok xs ω1) (hs:ar (sh ω1) xs=lD ds) (h:f ds=lD (.fz d)):Cw f fa ρ ω= .ok (.fz d) ω1:=by unfold Cw;rw[ha,RS.bind_ok];unfold HI;rw[hs];show((RS.Qi ω1 (f ds)).bind fun rv ω1=>jo ω1 rv)=_;rw[h];rfl
theorem pq:gO (RS.ok a ω)= .ok a ω:=rfl
theorem uo (ha:fa ρ ω= .ok (.fz dx) ω1) (hb:fb ρ ω1= .ok (.fz dy) ω2) (h:dR dx dy=lD (.fz d)):rF fa fb ρ ω= .ok (.fz d) ω2:=by unfold rF;rw[ha,RS.bind_ok,hb,RS.bind_ok];exact gC h
theorem yW (a:fo ρ ω= .ok (.rf i) ω1) (h1:ω1[i]? =lD (.lst xs)) (e:fe ρ ω1= .ok x ω2) (f:ω2[i]? =lD (.lst ys)) (c:ys.length<1000000):BM fo fe ρ ω= .ok (.fz .none) (ω2.set i (.lst (ys++[x]))):=by
 have h:gj ω1 (.rf i)=lD (i,xs):=by unfold gj;dsimp only;rw[h1]
 have g:gj ω2 (.rf i)=lD (i,ys):=by unfold gj;dsimp only;rw[f]
 unfold BM;rw[a,RS.bind_ok,h];show((fe ρ ω1).bind _)=_;rw[e,RS.bind_ok,g];show(if ys.length<1000000 then _ else _)=_;rw[if_pos c]
theorem x9 (h:ω[i]? =lD (.R9 kvs)):kA ω (.rf i)=lD (i,kvs):=by unfold kA;dsimp only;rw[h]
theorem Ef (a:fk ρ ω= .ok x ω1) (c:fd ρ ω1= .ok (.rf i) ω2) (h1:nX x=lD k) (e:ω2[i]? =lD (.R9 kvs)):qB neg fk fd ρ ω= .ok (.fz (.bool ((cR kvs k).isSome !=neg))) ω2:=by unfold qB;rw[a,RS.bind_ok,c,RS.bind_ok,h1];show((RS.Qi ω2 (kA ω2 (.rf i))).bind _)=_;rw[x9 e];rfl
theorem Ae (c:fd ρ ω= .ok (.rf i) ω1) (a:fk ρ ω1= .ok x ω2) (h1:nX x=lD k) (f:ω2[i]? =lD (.R9 kvs)) (e:cR kvs k=lD y):pc fd fk ρ ω= .ok y ω2:=by unfold pc;rw[c,RS.bind_ok,a,RS.bind_ok,h1];show((RS.Qi ω2 (kA ω2 (.rf i))).bind _)=_;rw[x9 f];show RS.Qi ω2 (cR kvs k)=_;rw[e];rfl
theorem F8 (a:fv ρ ω= .ok y ω1) (f:fd ρ ω1= .ok (.rf i) ω2) (e:fk ρ ω2= .ok x ω3) (h1:nX x=lD k) (g:ω3[i]? =lD (.R9 kvs)) (c:kvs.length<1000000):zD fd fk fv ρ ω= .ok (.nx ρ) (ω3.set i (.R9 (gR kvs k y))):=by unfold zD;rw[a,RS.bind_ok,f,RS.bind_ok,e,RS.bind_ok,h1];show((RS.Qi ω3 (kA ω3 (.rf i))).bind _)=_;rw[x9 g];show(if kvs.length<1000000 then _ else _)=_;rw[if_pos c]
theorem zU (a:fe ρ ω= .ok x ω1) (h:qA x=lD ps):wK fe ρ ω= .ok (.rf ω1.length) (ω1++[.R9 (e9 [] ps)]):=by unfold wK;rw[a,RS.bind_ok,h];rfl
variable {fl:FlS} {r:RS FlS}
theorem Cj (h:f ρ ω= .ok (.nx ρ1) ω1) (k:g ρ1 ω1=r):bv f g ρ ω=r:=by unfold bv;rw[h,RS.bind_ok];exact k
theorem xq (h:f ρ ω= .ok x ω1):gY f ρ ω= .ok (.rt x) ω1:=by unfold gY;rw[h];rfl
theorem HE (h:f ρ ω= .ok x ω1):kE f ρ ω= .ok (.nx ρ) ω1:=by unfold kE;rw[h];rfl
theorem DA (h:f ρ ω= .ok x ω1) (e:ρ.set i (lD x)=ρ1):d7 f (ju i) ρ ω= .ok (.nx ρ1) ω1:=by subst e;unfold d7;rw[h];rfl
theorem u7 (h:f ρ ω= .ok x ω1) (k:frz 4 ω1 x=lD (d,ω2)):oT f ρ ω= .ok (.fz d) ω2:=by unfold oT;rw[h,RS.bind_ok];unfold Lb;rw[k]
theorem FH (e:xs.map lD++Pe (N - xs.length) Ld=ρ) (h:g ρ ω= .ok (.rt x) ω1):jx N g xs ω= .ok x ω1:=by subst e;unfold jx;rw[h];rfl
end
section
variable {ρ ρ1 ρ2:aX} {ω ω1 ω2 ω3 ω4:aW} {x y z:SV} {i n:Nat} {d dx dy:D} {ds:List D} {b:Bool}
theorem HB (hi:fi ρ ω= .ok ds ω1) (a:cV gt ft fe ds (jL n fj ρ) ω1 []= .ok xs ω2):AF n fj fi gt ft fe ρ ω= .ok (.rf ω2.length) (ω2++[.lst xs]):=by unfold AF;rw[hi,RS.bind_ok,a,pq,RS.bind_ok]
theorem zz (m:Nat):∀(ds:List D),ri (frz m) ω (ds.map .fz)=lD (ds,ω)
 |[]=>rfl
 |d::r=>by rw[Pd];unfold ri;rw[show frz m ω (.fz d)=lD (d,ω) by cases m<;>rfl];dsimp only;rw[zz m r]
theorem u6 (h:ω[i]? =lD (.lst (ds.map .fz))):frz 4 ω (.rf i)=lD (.list ds,ω.set i .dead):=by unfold frz;rw[h];dsimp only;rw[zz]
theorem JG (h:fe ρ ω= .ok (.rf i) ω1) (a:ω1[i]? =lD (.lst (ds.map .fz))):zG fe ρ ω= .ok ds (ω1.set i .dead):=by unfold zG;rw[h,RS.bind_ok,u6 a];rfl
def MK (N C:aX->aW->Prop) (T:SV->aW->Prop):RS FlS->Prop
 | .ok (.nx ρ) ω=>N ρ ω
 | .ok (.ct ρ) ω=>C ρ ω
 | .ok (.rt v) ω=>T v ω
 |_=>False
structure S8 (r:RS FlS) (N C:aX->aW->Prop) (T:SV->aW->Prop):Prop where
 out:MK N C T r
variable {f g:gF} {fe:cE} {N C:aX->aW->Prop} {T:SV->aW->Prop}
theorem S8.eq (e:r=r') (h:S8 r' N C T):S8 r N C T:=by rw[e];exact h
theorem S8.imp (h:S8 r N C T) (c:∀ρ ω,N ρ ω->N' ρ ω) (e:∀ρ ω,C ρ ω->C' ρ ω) (a:∀v ω,T v ω->T' v ω):S8 r N' C' T':=by
 refine⟨?_⟩;have h:=h.out;cases r with
 |bad=>exact h
 |er x ω=>exact h
 |ok j ω=>
  cases j with
  |nx r=>exact c _ _ h
  |ct r=>exact e _ _ h
  |rt v=>exact a _ _ h
  |bk r=>exact h
theorem gl (h:S8 (f ρ ω) (fun r o=>S8 (g r o) N C T) C T):S8 (bv f g ρ ω) N C T:=by
 refine⟨?_⟩;have h:=h.out;unfold bv;cases q:f ρ ω with
 |bad=>rw[q] at h;exact h.elim
 |er x o=>rw[q] at h;exact h.elim
 |ok a o=>
  rw[q] at h;cases a with
  |nx r=>exact(show S8 (g r o) N C T from h).out
  |ct r=>exact h
  |rt v=>exact h
  |bk r=>exact h.elim
theorem A0 (h:c ρ ω= .ok b ω1) (a:b=Pb->S8 (f ρ ω1) N C T) (e:b=Ph->S8 (g ρ ω1) N C T):S8 (gI c f g ρ ω) N C T:=by
 unfold gI;rw[h,RS.bind_ok];cases b with
 |true=>exact a rfl
 |false=>exact e rfl
theorem Kz (e:c ρ ω= .ok Pb ω1) (a:S8 (f ρ ω1) N C T):S8 (gI c f g ρ ω) N C T:=A0 e (fun _=>a) fun h=>by cases h
theorem yt (e:c ρ ω= .ok Ph ω1) (a:S8 (g ρ ω1) N C T):S8 (gI c f g ρ ω) N C T:=A0 e (fun h=>by cases h) fun _=>a
theorem JM (c:fe ρ ω= .ok x ω1) (a:gt x ρ ω1= .ok ρ1 ω2) (h:N ρ1 ω2):S8 (d7 fe gt ρ ω) N C T:=by refine⟨?_⟩;unfold d7;rw[c,RS.bind_ok,a,RS.bind_ok];exact h
theorem sB (a:f ρ ω= .ok (.nx ρ1) ω1) (h:N ρ1 ω1):S8 (f ρ ω) N C T:=⟨by rw[a];exact h⟩
theorem Mb (a:f ρ ω= .ok (.rt x) ω1) (h:T x ω1):S8 (f ρ ω) N C T:=⟨by rw[a];exact h⟩
theorem tN (a:fe ρ ω= .ok x ω1) (h:N ρ ω1):S8 (kE fe ρ ω) N C T:=sB (HE a) h
theorem jz (a:fe ρ ω= .ok x ω1) (h:T x ω1):S8 (gY fe ρ ω) N C T:=Mb (xq a) h
theorem jZ (h:N ρ ω):S8 (gk ρ ω) N C T:=⟨h⟩
theorem bX {gt:vG} (c:fe ρ ω= .ok x ω1) (a:gt x ρ ω1= .ok ρ1 ω2) (h:S8 (g ρ1 ω2) N C T):S8 (bv (d7 fe gt) g ρ ω) N C T:=gl (JM c a h)
theorem MQ (a:f ρ ω= .ok (.nx ρ1) ω1) (h:S8 (g ρ1 ω1) N C T):S8 (bv f g ρ ω) N C T:=gl (sB a h)
theorem uG (a:fe ρ ω= .ok x ω1) (h:S8 (g ρ ω1) N C T):S8 (bv (kE fe) g ρ ω) N C T:=gl (tN a h)
theorem Fo {h a:gF} (m:c ρ ω= .ok b ω1) (j:b=Pb->S8 (bv h g ρ ω1) N C T) (l:b=Ph->S8 (bv a g ρ ω1) N C T):S8 (bv (gI c h a) g ρ ω) N C T:=by
 have e:bv (gI c h a) g ρ ω=if b=Pb then bv h g ρ ω1 else bv a g ρ ω1:=by unfold bv gI;rw[m,RS.bind_ok];cases b<;>rfl
 refine .eq e ?_;cases b with
 |true=>exact j rfl
 |false=>exact l rfl
theorem JJ {a l:gF} (j:c ρ ω= .ok Pb ω1) (e:S8 (bv a g ρ ω1) N C T):S8 (bv (gI c a l) g ρ ω) N C T:=Fo j (fun _=>e) fun h=>by cases h
theorem jD {l a:gF} (j:c ρ ω= .ok Ph ω1) (e:S8 (bv a g ρ ω1) N C T):S8 (bv (gI c l a) g ρ ω) N C T:=Fo j (fun h=>by cases h) fun _=>e
theorem CM (a:fe ρ ω= .ok x ω1) (h:T x ω1):S8 (bv (gY fe) g ρ ω) N C T:=gl (jz a h)
theorem fW (h:S8 (g ρ ω) N C T):S8 (bv gk g ρ ω) N C T:=gl (jZ h)
theorem uA {b:gF} (I:Nat->aX->aW->Prop):∀(ds:List D) (k:Nat) (ρ:aX) (ω:aW),I k ρ ω->(∀i d ρ ω,ds[i]? =lD d->I (k+i) ρ ω->∃ρ1 ω1,gt (.fz d) ρ ω= .ok ρ1 ω1/\S8 (b ρ1 ω1) (I (k+i+1)) (I (k+i+1)) T)->S8 (kz gt b ds ρ ω) (I (k+ds.length)) C T
 |[],k,ρ,ω,h0,_=>⟨h0⟩
 |d::r,k,ρ,ω,h0,hs=>by
  obtain⟨ρ1,ω1,h1,a⟩:=hs 0 d ρ ω rfl h0;have a:=a.out;have l:∀j c,I (k+1) j c->S8 (kz gt b r j c) (I (k+(r.length+1))) C T:=fun j c h=>by
   have e:k+(r.length+1)=k+1+r.length:=by omega
   rw[e];refine uA I r (k+1) j c h fun i w p m hi t=> ?_;have e:k+1+i=k+(i+1):=by omega
   rw[e] at t⊢;exact hs (i+1) w p m (by simpa using hi) t
  refine⟨?_⟩;show MK _ _ _ ((gt (.fz d) ρ ω).bind _);rw[h1,RS.bind_ok];cases q:b ρ1 ω1 with
  |bad=>rw[q] at a;exact a.elim
  |er x o=>rw[q] at a;exact a.elim
  |ok u o=>
   rw[q] at a;cases u with
   |nx r=>exact(l _ _ a).out
   |ct r=>exact(l _ _ a).out
   |rt v=>exact a
   |bk r=>exact a.elim
theorem mX {b:gF} (I:Nat->aX->aW->Prop) (hi:fi ρ ω= .ok ds ω1) (h0:I 0 ρ ω1) (hs:∀i d ρ ω,ds[i]? =lD d->I i ρ ω->∃ρ1 ω1,gt (.fz d) ρ ω= .ok ρ1 ω1/\S8 (b ρ1 ω1) (I (i+1)) (I (i+1)) T) (a:∀ρ' ω',I ds.length ρ' ω'->N ρ' ω'):S8 (ui fi gt b ρ ω) N C T:=by have:=uA (C:=C) I ds 0 ρ ω1 h0 (by simpa using hs);rw[Ts] at this;refine .eq ?_ (this.imp a (fun _ _ h=>h) fun _ _ h=>h);unfold ui;rw[hi,RS.bind_ok]
theorem kT (a:xs.map lD++Pe (n - xs.length) Ld=ρ) (h:S8 (g ρ ω) (fun _ ω'=>T (.fz .none) ω') (fun _ _=>False) T):∃x ω',jx n g xs ω= .ok x ω'/\T x ω':=by
 have h:=h.out;unfold jx;rw[a];cases q:g ρ ω with
 |bad=>rw[q] at h;exact h.elim
 |er x o=>rw[q] at h;exact h.elim
 |ok c o=>
  rw[q] at h;cases c with
  |nx r=>exact⟨_,_,rfl,h⟩
  |ct r=>exact h.elim
  |rt v=>exact⟨_,_,rfl,h⟩
  |bk r=>exact h.elim
theorem Fm {W:aW->Prop} (a:xs.map lD++Pe (n - xs.length) Ld=ρ) (h:S8 (g ρ ω) (fun _ ω'=>SV.fz .none=v/\W ω') (fun _ _=>False) (fun r ω'=>r=v/\W ω')):∃ω',jx n g xs ω= .ok v ω'/\W ω':=by obtain⟨x,ω',h1,e,c⟩:=kT (T:=fun r ω'=>r=v/\W ω') a h;exact⟨ω',by rw[h1,e],c⟩
end
end L10
namespace L10
open PySem PySem.SeqAt PySem.Spec PySem.W PyProof.Rows L2 L3
end L10
namespace L10
open PySem PyProof.Rows L2 L3
end L10
namespace L10
open PySem PySem.Spec PyProof.Rows L2 L3
end L10
namespace L10
open PySem PyProof.Rows L2 L3
section
variable {O Z:bF} {K:OK} {H H':Hp} {a b:Pc} {xs:List V} {Y:Heap->Prop}
def Nf (a:Pc) (O:bF) (H:Hp) (Z:bF) (H':Hp):Prop:=∀b o,b≠a->H b=lD o->¬O b->H' b=lD o/\¬Z b
theorem Wm.Zu (d:H a=lD (.ext Y)) (h:Wm O K H b xs) (e:Nf a O H Z H'):Wm Z K H' b xs:=by
 obtain⟨h,k⟩:=h;by_cases z:O b
 .exact⟨Tv.same (jX H') (k z),fun _=>k z⟩
 .rcases h with(h|⟨o,h⟩)|h
  .obtain⟨h1,c⟩:=e b _ (fun y=>by rw[y,d] at h;cases h) h z;exact⟨.inl (.inl h1),fun y=>absurd y c⟩
  .obtain⟨h1,c⟩:=e b _ (fun y=>by rw[y,d] at h;cases h) h z;exact⟨.inl (.inr ⟨o,h1⟩),fun y=>absurd y c⟩
  .exact⟨.inr h,fun _=> .inr h⟩
theorem U1.Zu (d:H a=lD (.ext Y)) (h:U1 O K H b xs) (e:Nf a O H Z H'):U1 Z K H' b xs:=by
 obtain⟨h,k⟩:=h;by_cases z:O b
 .exact⟨(jX H').tup (k z),fun _=>k z⟩
 .rcases h with(h|⟨o,h⟩)|h
  .obtain⟨h1,c⟩:=e b _ (fun y=>by rw[y,d] at h;cases h) h z;exact⟨.inl (.inl h1),fun y=>absurd y c⟩
  .obtain⟨h1,c⟩:=e b _ (fun y=>by rw[y,d] at h;cases h) h z;exact⟨.inl (.inr ⟨o,h1⟩),fun y=>absurd y c⟩
  .exact⟨.inr h,fun _=> .inr h⟩
mutual
theorem DV.Zu (c:H a=lD (.ext Y)) (e:Nf a O H Z H'):∀{v:V} {d:D},L3.DV O K H v d->L3.DV Z K H' v d
 |_,_,.S4=> .S4
 |_,_,.bl b=> .bl b
 |_,_,.int i=> .int i
 |_,_,.str x=> .str x
 |_,_,.tup h hs=> .tup (U1.Zu c h e) (QV.Zu c e hs)
 |_,_,.lst h hs=> .lst (Wm.Zu c h e) (QV.Zu c e hs)
theorem QV.Zu (c:H a=lD (.ext Y)) (e:Nf a O H Z H'):∀{vs:List V} {ds:List D},L3.QV O K H vs ds->L3.QV Z K H' vs ds
 |_,_,.nil=> .nil
 |_,_,.cons h hs=> .cons (DV.Zu c e h) (QV.Zu c e hs)
end
end
end L10
namespace PySem
open Sem (wp)
open PyProof.Rows
end PySem
namespace L10
open PySem PySem.Spec PyProof.Rows L2 L3
end L10
namespace L10
open PySem PyProof.Rows L2 L3
section
variable {B O O':bF} {K:OK} {E:XK} {H H' H1 H2:Hp} {Z Y S T:List Pc} {ω U ω1 ω2:aW} {X:L2.St} {ρ:aX} {v:V}
def lN:List (cE×cE)->aX->aW->RS (List (bT×SV))
 |[],_,ω=> .ok [] ω
 |(fk,fv)::r,ρ,ω=>(fk ρ ω).bind fun x ω1=>(RS.Qi ω1 (nX x)).bind fun k ω1=>(fv ρ ω1).bind fun y ω2=>(lN r ρ ω2).bind fun ps a=> .ok ((k,y)::ps) a
def uu (K:OK) (E:XK) (a:List (TE×TE)) (fs:List (cE×cE)):Prop:=
 ∀(B:bF) (X:L2.St) (H:Hp) (Z:List Pc) (ω:aW) (ρ:aX) (Q:List (V×V)->Hp->Prop),P5 B K H Z ω->Su (ow B Z ω) K H Z X ρ->WS K E B H Z ω (fun ps Y U H'=>∀vs,Paired (fun(p:V×V) (q:bT×SV)=>p.1=kV q.1/\Tf (ow B Y U) K H' Y p.2 q.2) vs ps->Q vs H') (lN fs ρ ω)->sJ a X H Q
theorem HA:uu K E [] []:=fun B X H Z ω ρ Q s a w=>WS.now s w [] .nil
theorem DY (r:cZ K E tk fk) (n:cZ K E tv fv) (p:uu K E X5 fs):uu K E ((tk,tv)::X5) ((fk,fv)::fs):=by intro B X H Z ω ρ Q s b w;refine r B X H Z ω ρ _ s b (w.bind.imp fun x S ω1 H1 e m a v d=> ?_);obtain⟨k,q,a⟩:=WS.Qi a;have ev:=k7 q d;refine n B X H1 S ω1 ρ _ m (b.Sr e) (a.bind.imp fun y T ω2 H2 z l i u o=> ?_);refine p B X H2 T ω2 ρ _ l ((b.Sr e).Sr z) (i.bind.imp fun ps g f A t j h vs c=> ?_);exact WS.now j h _ (.cons ⟨ev,o.Sr t⟩ c)
def vP (fs:List (cE×cE)):cE:=fun ρ ω=>(gO (lN fs ρ ω)).bind fun ps ω1=>if ps.length<=15 then .ok (.rf ω1.length) (ω1++[.R9 (e9 [] ps)]) else .bad
theorem v3:∀{vs:List (V×V)} {ps:List (bT×SV)},Paired (fun(p:V×V) (q:bT×SV)=>p.1=kV q.1/\Tf O K H Z p.2 q.2) vs ps->∃kvs:List (bT×V),vs=kvs.map (fun kv=>(kV kv.1,kv.2))/\ve O K H Z kvs ps
 |_,_,.nil=>⟨[],rfl,.nil⟩
 |(x,y)::_,(k,z)::_,.cons h t=>by obtain⟨kvs,rfl,c⟩:=v3 t;obtain⟨a,b⟩:=h;dsimp only at a;subst a;exact⟨(k,y)::kvs,rfl,.cons ⟨rfl,b⟩ c⟩
theorem P5.aan (s:P5 (bx B p) K H Z ω) (g:c≠ .dead) (f:H p≠Ld) (e:Zs (ow (bx B p) Z ω) K H Z p c) (l:¬B p):P5 B K H (Z++[p]) (ω++[c]):=by
 have m:ow (bx B p) Z ω=ow B (Z++[p]) (ω++[c]):=qv s.len g;have hn:=s.ba p (.inr rfl);have ev:Ev (ow (bx B p) Z ω) H (ow B (Z++[p]) (ω++[c])) H:=by rw[m];exact fun b o h n=>⟨h,n⟩
 refine⟨by rw[OZ,OZ,s.len];rfl,fun i j a h1 d=> ?_,fun a h=>s.bn a (.inl h),fun a h i z=> ?_,fun i a h=> ?_,fun i a r h1 d=> ?_⟩
 .rcases aY h1 with g1|⟨e1,e2⟩<;>rcases aY d with g2|⟨e3,e4⟩
  .exact s.nd i j a g1 g2
  .rw[e4] at g1;exact absurd g1 (hn i)
  .rw[e2] at g2;exact absurd g2 (hn j)
  .omega
 .rcases aY z with z|⟨_,rfl⟩
  .exact s.ba a (.inl h) i z
  .exact l h
 .rcases aY h with h|⟨_,rfl⟩
  .exact s.al i a h
  .exact f
 .rcases aY d with d|⟨e2,rfl⟩
  .rcases aY h1 with h1|⟨e1,rfl⟩
   .exact(s.Wc i a r h1 d).ev ev (fun _ _ h=>fJ h) fun _ q=>q
   .have:=(O0.mp d).1;rw[<-s.len] at this;omega
  .rcases aY h1 with h1|⟨e1,rfl⟩
   .have:=(O0.mp h1).1;rw[s.len] at this;omega
   .exact e.ev ev (fun _ _ h=>fJ h) fun _ q=>q
theorem CO (h:ve O K H Z kvs ps):kvs.length=ps.length:=h.length
theorem Cz (h:uu K E X5 fs):cZ K E (Iq X5) (vP fs):=by
 intro B X H Z ω ρ Q s A w p e;have M:=fun z=>s.bn p z e;have C:P5 (bx B p) K (upd H p (.dK [])) Z ω:=s.hide e;have g:Su (ow (bx B p) Z ω) K (upd H p (.dK [])) Z X ρ:=by
  have ev:Ev (ow B Z ω) H (ow (bx B p) Z ω) (upd H p (.dK [])):=fun b o h n=>by
   have G:b≠p:=fun z=>by rw[z,e] at h;cases h
   refine⟨by rw[aA G];exact h,fun z=> ?_⟩;rcases z with(z|z)|z
   .exact n (.inl z)
   .exact G z
   .exact n (.inr z)
  exact⟨A.1,fun j x L=>let⟨v,h1,h2⟩:=A.2 j x L;⟨v,h1,h2.ev ev fun _ _ h=>h⟩⟩
 unfold vP at w;cases qr:lN fs ρ ω with
 |er x d=>rw[qr] at w;exact w.elim
 |bad=>rw[qr] at w;exact w.elim
 |ok ps d=>
  rw[qr] at w;have w:WS K E B H Z ω (PQ B K Q) (if ps.length<=15 then .ok (.rf d.length) (d++[.R9 (e9 [] ps)]) else .bad):=w;refine h (bx B p) X _ Z ω ρ _ C g ?_;rw[qr];intro Y H' I l vs r;have f:=I.kp p _ aD fun⟨i,c,q,_⟩=>C.ba p (.inr rfl) i q;obtain⟨kvs,rfl,F⟩:=v3 r;by_cases t:ps.length<=15
  .rw[if_pos t] at w;refine⟨f,kvs,rfl,by rw[CO F];exact t,?_⟩;have N:Ev (ow (bx B p) Y d) H' (ow (bx B p) Y d) (upd H' p (.dK (hW [] kvs))):=Ev.mut (.inl (.inr rfl)) _;have m:=sZ (Paired.TR F fun _ _ q=>⟨q.1,q.2.ev N fun _ _ h=>h⟩) .nil;have J:=(l.acw f).aan (c:= .R9 (e9 [] ps)) (by intro z;cases z) (by rw[aD];simp) ⟨_,aD,m⟩ M;have u:Ru Z ω H Y d (upd H' p (.dK (hW [] kvs))):=((Ru.same (bU e _)).trans I).dd e;exact w (Y++[p]) _ ⟨fun i a h=>fJ (u.pre i a h),u.kp,fun b z=>(pK l.len z).elim (u.lv b) fun z=> .inr (by rw[z];exact e)⟩ J (.ref p) ⟨p,by rw[<-l.len];exact aU,rfl⟩
  .rw[if_neg t] at w;exact w.elim
theorem G1:lN [] ρ ω= .ok [] ω:=rfl
theorem D3 (c:fk ρ ω= .ok x ω1) (q:nX x=lD k) (a:fv ρ ω1= .ok y ω2) (b:lN fs ρ ω2= .ok ps ω3):lN ((fk,fv)::fs) ρ ω= .ok ((k,y)::ps) ω3:=by unfold lN;rw[c,RS.bind_ok,q];show((fv ρ ω1).bind _)=_;rw[a,RS.bind_ok,b,RS.bind_ok]
theorem Gq (h:lN fs ρ ω= .ok ps ω1) (a:ps.length<=15):vP fs ρ ω= .ok (.rf ω1.length) (ω1++[.R9 (e9 [] ps)]):=by unfold vP;rw[h,pq,RS.bind_ok,if_pos a]
end
end L10
namespace L3
open PySem PySem.Spec PyProof.Rows L2
end L3
namespace L3
open PySem L2
structure NI (K:OK) (f:Pc) (n:Str) (t:Sl):Prop where
 a:Qv K P7 n=lD (lD (.ref f))
 F:∃fd,TY K n n t f fd
structure MI (K:OK) (C f:Pc) (m q:Str) (t:Sl):Prop where
 a:Q5 K (.ref C) m=lD (lD (.ref f))
 i:Wh K (.ref f)=Pb
 F:∃fd,TY K m q t f fd
structure CI (K:OK) (C:Pc) (n:Str) (fs:List Str):Prop where
 a:Qv K P7 n=lD (lD (.ref C))
 pg:XI K C Str.empty=Pb
 hd:Xi K C=Pb
 po:Xj K C=Pb
 sa:Q5 K (.ref C) "__setattr__"=lD (lD (.builtin "object.__setattr__"))
 mm:X9 K C=Pb
 kc:RF K (.ref C)=Pb
 fl:∀x∈fs,Jv K C x
def BA (n q:Str) (t:Sl) (ps:List Str):Prop:=∀(kV b c:OW) (d:Option Pc) (e ct:OW) (a:List OW),a.length=ps.length->bindArgs (Sb n q (j3 t) (cI t) (aK t) .none kV b c d e ct) ⟨a,[]⟩=pure (ps.zip a)
section
variable {P:PF} {w:Qc} {K:OK} {mg:Str->Option OW} {base h:Heap} {f C:Pc} {n m q:Str} {t:Sl} {ps fs:List Str} {Z k:Nat} {sp sp':Sp}
theorem NI.Vp (i:NI K f n t) (X:K.In h) (G:h.Ns P7 mg) (hb:BA n n t ps) (ok:∀fd,TY K n n t f fd->FnOk P w K mg base gB Z f fd ps sp):AA P w K mg base Z n ps sp:=
 let⟨fd,z⟩:=i.F;⟨f,fd,ok fd z,z.binds hb,z.kp,Y5 X G i.a⟩
theorem NI.law (i:NI K f "law" t) (X:K.In h) (G:h.Ns P7 mg) (b:mg "law"=lD (.ref fa)) (hb:BA "law" "law" t [x]) (ok:∀base fd,TY K "law" "law" t f fd->FnOk P w K mg base gB Z f fd [x] sp):∃fd:QR,(∀(s:Pa) (v:OW),Vg s fd ⟨[v],[]⟩ [(x,v)])/\∀base:Heap,K.In base->base.Ns P7 mg->FnOk P w K mg base gB Z fa fd [x] sp:=by have e:=b.symm.trans (Y5 X G i.a);cases e;obtain⟨fd,z⟩:=i.F;obtain⟨o,l,kV,c,d,g,j,ct,r,rfl,p,u⟩:=z.ex;exact⟨_,fun s v=> .of_eq (hb kV c d g j ct [v] rfl),fun base _ _=>ok base _ z⟩
theorem EL (a:S5 k A):A.units+65<cLine:=by have:=a.un;omega
theorem zF (p:SO K E u g) (h:VS X b u):∃t,VS X b t/\SO K E t g:=⟨_,h,p⟩
theorem F0 (p:L10.p0 K E u g) (h:VS X b u):∃t,VS X b t/\L10.p0 K E t g:=⟨_,h,p⟩
theorem ko {x a:Str} {st:Sl} {fd:QR} {N:List Str} {n m:Nat} {g:FS} {FF:FN} (F:TY K x a st f fd) (S:Tg N ps (aK st)) (hn:ps.length=n) (hm:N.length=m) (d:FF=fV m g)
  (e:∀(b:OW) (A:PX) (outer:List Env) (s:Pa) (H:Hp) (E:XK),N.Nodup->S5 k (A.deeper (Qu a (aK st) s.heap.objs.size f b))->(A.deeper (Qu a (aK st) s.heap.objs.size f b)).units+64<cLine->(A.deeper (Qu a (aK st) s.heap.objs.size f b)).units+1<cLine->(A.deeper (Qu a (aK st) s.heap.objs.size f b)).units+65<cLine->
   ∃t,VS (nR gB P w K mg base N a (aK st) f b A outer s H E).Zl (cI st) t/\SO K E t g):FnOk P w K mg base gB (k+1) f fd ps (l4 K n FF):=
 OC F S hn hm d fun b A outer s H E c=>e b A outer s H E S.nd c c.units (IK c) (EL c)
theorem sH {n m:Nat} (F:TY K x qual st f fd) (S:Tg N ps (aK st)) (hn:ps.length=n) (hm:N.length=m) (c:FF=L10.jx m g)
  (d:∀(a:OW) (A:PX) (outer:List Env) (s:Pa) (H:Hp) (E:XK),N.Nodup->S5 k (A.deeper (Qu qual (aK st) s.heap.objs.size f a))->(A.deeper (Qu qual (aK st) s.heap.objs.size f a)).units+64<cLine->(A.deeper (Qu qual (aK st) s.heap.objs.size f a)).units+1<cLine->(A.deeper (Qu qual (aK st) s.heap.objs.size f a)).units+65<cLine->
   ∃t,VS (nR gB P w K mg base N qual (aK st) f a A outer s H E).Zl (cI st) t/\L10.p0 K E t g):FnOk P w K mg base gB (k+1) f fd ps (L10.wW K n FF):=
 L10.ON F S hn hm c fun a A outer s H E b=>d a A outer s H E S.nd b b.units (IK b) (EL b)
end
end L3
namespace L2
open PySem PySem.Spec PyProof.Rows
end L2
namespace L3
open PySem PySem.Spec PyProof.Rows L2
end L3
namespace L10R
open PySem PySem.Calls PyProof.Rows
theorem Jq:typeLookup (.type "list_reverseiterator") "__len__"=pure Ld:=by rw[Sd,Q8];kernel_rfl
theorem Bq:typeLookup (.type "list_reverseiterator") "__length_hint__"=pure (lD (.builtin "list_reverseiterator.__length_hint__")):=by rw[Sd,Q8];kernel_rfl
section
variable {prog:PF} {w:Qc} {A:PX} {E:OW->Pa->Prop} {s:Pa} {r l:Pc} {items:Array OW}
theorem Cv {Q:Bool->Pa->Prop} (c:s.TypeIs (.ref r) "list_reverseiterator") (h:Q Ph s):wpAny (model prog w) A (Builtin.List.listLengthHint (.ref r)) Q E s:=by
 unfold Builtin.List.listLengthHint;refine Bn (UR c Jq ?_);dsimp only;refine SS (fun a=>absurd a (by decide)) (fun _=> ?_);refine SS (fun a=>absurd a (by decide)) (fun _=> ?_);refine Bn (UR c Bq ?_);generalize hid:("list_reverseiterator.__length_hint__":String)=id0
 wp_delta
 rw[show splitId id0=lD ("list_reverseiterator","__length_hint__") from by subst hid;decide+kernel];subst hid;refine Bn (Rz (T:= "list_reverseiterator") (b:=Pb) c (by rw[adw];kernel_rfl) ?_);refine SS (fun a=>absurd a (by decide)) (fun _=> ?_);refine SS (fun _=> ?_) (fun a=>absurd (by decide+kernel) a);refine SS (fun a=>absurd a (by decide+kernel)) (fun _=> ?_);exact OY h
theorem xS {R:Vy->Pa->Prop} (p:A.handled=Ld) (J:l≠r) (n:s.heap.IsList l items) (g:s.heap.IsRevIter r l ((items.size:Int) - 1)) (S:Pc) (d:S≠r) (m:S≠l) (res:OW) (a:Nat) (t:s.heap.get? S=lD {cls:= .type "list",data:= .seq #[] a})
  (u:∀h' tk U0 c',(∀b o,b≠S->b≠r->s.heap.get? b=lD o->h'.get? b=lD o)->h'.get? S=lD {cls:= .type "list",dict:=Ld,data:= .seq U0 c',slots:= #[]}->WH (fun i v=>items[items.size - 1 - i]? =lD v) U0 items.size->R (.ok (.ret res)) {s with heap:=h',toks:=tk}) (hn:items.size<=Po):
  wpAny (model prog w) A.in1 (Builtin.List.listExtendWith (.ref S) (.ref r) res)
   (fun fin s'=>match fin with| .done f=>R (.ok f) s'| .again c'=>c'.quiet=Pb/\codeAny (model prog w) A c' R s') (fun e s'=>R (.error e) s') s:=by
 have C:S∉[r,l]:=by simp only[Py,S7,or_false,not_or];exact⟨d,m⟩
 have W:=Walks.listRev (prog:=prog) (w:=w) (A:=A.in1) p r l J items;have st:0<=items.size/\s.heap.IsRevIter r l ((items.size:Int) - 1 - ((0:Nat):Int))/\s.heap.IsList l items:=⟨Qb _,by rw[show(items.size:Int) - 1 - ((0:Nat):Int)=(items.size:Int) - 1 by omega];exact g,n⟩;have h:codeAny (model prog w) A (.builtin "list.extend.loop" ⟨[.ref S,.ref r,res],[]⟩) R s:=by
  refine codeAny_extend_loopS W.toS hn S C res items.size 0 _ #[] a rfl (Qb _) st t (WH.nil _) fun s' U0 c' hm I G=> ?_;rw[Moved.eq_with hm];refine u s'.heap s'.toks U0 c' (fun b o q j e=>hm.heap b o (fun c=> ?_) e) I G;rcases Py.mp c with e'|c
  .exact q e'
  .exact j (Pk.mp c)
 unfold Builtin.List.listExtendWith;refine Bn (RZ (T:= "list_reverseiterator") g.typeIs ?_);have h1:Builtin.List.listSameRef (.ref S) (.ref r)=Ph:=by simp[Builtin.List.listSameRef,d]
 have B:(OW.type "list_reverseiterator"==OW.type "list")=Ph:=by decide+kernel
 have z:(OW.type "list_reverseiterator"==OW.type "tuple")=Ph:=by decide+kernel
 simp only[h1,B,z,aag,Pj,if_false];refine Bn (wpAny_pyIter_revIter g ?_);refine Bn (QL (Cv g.typeIs ?_));refine SS (fun H=>absurd H (by decide+kernel)) (fun _=>OY ⟨Rv PySem.F.plain_extend_loop _,h⟩)
theorem Fs {R:Vy->Pa->Prop} (q:A.handled=Ld) (B:l≠r) (n:s.heap.IsList l items) (m:s.heap.IsRevIter r l ((items.size:Int) - 1)) (S:Pc) (c:S≠r) (d:S≠l) (j:s.heap.get? S=lD {cls:= .type "list",data:= .seq #[]})
  (t:∀h' tk U0 c',(∀b o,b≠S->b≠r->s.heap.get? b=lD o->h'.get? b=lD o)->h'.get? S=lD {cls:= .type "list",dict:=Ld,data:= .seq U0 c',slots:= #[]}->WH (fun i v=>items[items.size - 1 - i]? =lD v) U0 items.size->R (.ok (.ret .none)) {s with heap:=h',toks:=tk}) (hn:items.size<=Po):
  wpAny (model prog w) A.in1 (Builtin.«list.__init__» ⟨[.ref S,.ref r],[]⟩)
   (fun fin s'=>match fin with| .done f=>R (.ok f) s'| .again c'=>c'.quiet=Pb/\codeAny (model prog w) A c' R s') (fun e s'=>R (.error e) s') s:=by
 show wpAny _ _ (do let old<-Builtin.List.listItems (.ref S);Builtin.List.listUpdate (.ref S) (fun _=> #[]);letGo old.toList.reverse;Builtin.List.listExtendWith (.ref S) (.ref r) .none) _ _ s;refine Bn ?_;unfold Builtin.List.listItems;refine Bn (T4 j rfl (OY ?_));show wpAny _ _ (updateSeq S (fun _=> #[])>>=fun _=>letGo (#[]:Array OW).toList.reverse>>=fun _=>Builtin.List.listExtendWith (.ref S) (.ref r) .none) _ _ s;refine Bn (US j rfl ?_);have a:=Heap.get?_update_self (Obj.mapSeq (fun _=>(#[]:Array OW))) j rfl
 have oD:∀b o,b≠S->s.heap.get? b=lD o->(s.heap.update S (Obj.mapSeq (fun _=>(#[]:Array OW)))).get? b=lD o:=
  fun b o g e=>(Heap.get?_update_other _ _ (Ne.symm g)).trans e
 refine Bn (Ul ?_);refine xS q B (n.at fun o e=>oD l o d.symm e) (m.at fun o e=>oD r o c.symm e) S c d .none _ a (fun h' tk U0 c' p z u=> ?_) hn;exact t h' tk U0 c' (fun b o g h e=>p b o g h (oD b o g e)) z u
theorem YY {Q:OW->Pa->Prop} (n:A.handled=Ld) (z:l≠r) (f:s.heap.IsList l items) (d:s.heap.IsRevIter r l ((items.size:Int) - 1)) (hn:items.size<=Po)
  (q:∀h' tk U0 c',(∀b o,b≠r->s.heap.get? b=lD o->h'.get? b=lD o)->h'.get? s.heap.objs.size=lD {cls:= .type "list",dict:=Ld,data:= .seq U0 c',slots:= #[]}->WH (fun i v=>items[items.size - 1 - i]? =lD v) U0 items.size->Q (.ref s.heap.objs.size) {s with heap:=h',toks:=tk}):
  wpAny (model prog w) A (call (.type "list") [.ref r]) Q E s:=by
 refine W4 (Q₁:=fun obj a=>obj= .ref s.heap.objs.size/\a={s with heap:=s.heap.push {cls:= .type "list",data:= .seq #[]}}) PySem.F.called_list (PySem.F.typeCall_list_1 _) PySem.F.entry_list_init
  (code_list_new _ ⟨rfl,rfl⟩) fun obj a c=> ?_
 obtain⟨rfl,rfl⟩:=c;have g:(s.heap.push {cls:= .type "list",data:= .seq #[]}).get? s.heap.objs.size=lD {cls:= .type "list",data:= .seq #[]}:=Heap.get?_push_size _ rfl;have h:r<s.heap.objs.size:=by obtain⟨o,e,_⟩:=d;exact Heap.lt_size e
 have j:l<s.heap.objs.size:=by obtain⟨o,e,_⟩:=f;exact Heap.lt_size e
 refine⟨⟨_,g,rfl⟩,PySem.F.args_list_init_2 _ _,Fs (A:=A.in1) n z (f.at fun o e=>Heap.get?_push_of_some _ e) (d.at fun o e=>Heap.get?_push_of_some _ e) _ (RD h) (RD j) g (fun h' tk U0 c' m u t=> ?_) hn⟩;exact⟨rfl,q h' tk U0 c' (fun b o p e=>m b o (PU (Heap.lt_size e)) p (Heap.get?_push_of_some _ e)) u t⟩
end
end L10R
namespace L2
open PySem PySem.Spec PyProof.Rows
section
variable {X:Cx} {e:Qn} {Z:TE} {p q p1 p2:Pos}
def vh (K:OK) (Z:TE):TE:=fun c H Q=>Z c H fun x b=>∃a xs,x= .ref a/\Um K b a xs/\∀l,b l=Ld->Q (.ref l) (upd b l (.lst xs.reverse))
theorem xW:Qx "reversed"=lD (.type "reversed"):=by rfl
theorem B1 {xs:List V} {a:List OW} (h:Vals xs a):Vals xs.reverse a.reverse:=by
 induction h with
 |nil=>exact .nil
 |cons h _ b=>rw[Rh,Rh];exact b.append (.cons h .nil)
theorem Bx {items a:Array OW} (h:WH (fun i v=>items[items.size - 1 - i]? =lD v) a items.size):a.toList=items.toList.reverse:=by
 apply SU;intro j;by_cases b:j<items.size
 .have h1:j<a.size:=by rw[h.1];exact b
  have e:=h.2 j _ (TH h1);rw[Ql,TH h1,List.getElem?_reverse (by rw[PJ];exact b),PJ,Ql];exact e.symm
 .rw[S3 (by rw[PJ,h.1];omega),S3 (by rw[QW,PJ];omega)]
theorem C4 {a:List (Pc×Obj)} {i:St} {H:Hp} {s:Pa} {e:Pc} {o:HO} (I:Inv X a i H s) (f:qL X a H e) (v:X.s₀.heap.get? e=Ld) (new:ObjOk X.prog X.w (upd H e o) s.heap e o):Inv X a i (upd H e o) s:=by
 obtain⟨ne,m,_,_,t,h⟩:=f;have l:∀b o,X.s₀.heap.get? b=lD o->b≠e:=fun b o z y=>by rw[y,v] at z;cases z
 have d:∀b o,H b=lD o->b≠e:=fun b o z y=>by rw[y,ne] at z;cases z
 have B:=I.base;refine⟨I.ok,I.os,I.bare,⟨B.keep,B.slot,fun b o z n x=> ?_,B.there,fun b xs z=> ?_,fun b o u z=> ?_,fun b ps z=> ?_⟩,I.loc,I.cell,?_,fun x c z=> ?_,fun p j=> ?_,fun b u z=> ?_,I.len⟩
 .rw[aA (l b o z)];exact B.free b o z n x
 .have:=B.Wo b xs z;rw[aA (d b _ this)];exact this
 .have:=B.V3 b o u z;rw[aA (d b _ this)];exact this
 .obtain⟨g,y⟩:=B.Ws b ps z;exact⟨g,by rw[aA (d b _ y)];exact y⟩
 .rw[aA m.symm];exact I.free
 .rw[aA (t x c z)];exact I.Uu x c z
 .obtain⟨z,n,r⟩:=I.pin p j;exact⟨z,by rw[aA (h p j)];exact n,r⟩
 .by_cases y:b=e
  .subst y;rw[aD] at z;cases z;exact new
  .rw[aA y] at z;exact(I.Ro b u z).X6 (fun _ _ _ y=>y) (fun c y=>by rw[aA (d c _ y)];exact y) fun c xs y=>by rw[aA (d c _ y)];exact y
theorem xB (T:X.calm=Pb) (B:Gl X "list") (w:X.mg "list"=Ld) (A:Gl X "reversed") (Xw:X.mg "reversed"=Ld) (S:PE X e Z)
  (h1:Qy [.Call (.Name "reversed" q) [e] [] p2] X.env=[(Ph,eval (.Call (.Name "reversed" q) [e] [] p2) X.env)]:=by rfl) (G:Qy [e] X.env=[(Ph,eval e X.env)]:=by rfl):
  PE X (.Call (.Name "list" p) [.Call (.Name "reversed" q) [e] [] p2] [] p1) (vh X.K Z):=by
 intro f s t H Q I h;refine SY (mC I B w uD ?_);refine RK ?_ h1 rfl;rw[h1];show wpAny _ _ (spliced ((Ph,eval (.Call (.Name "reversed" q) [e] [] p2) X.env)::[])) _ _ s;refine Calls.spliced_cons ?_;refine SY (mC I A Xw xW ?_);refine RK ?_ G rfl;rw[G];show wpAny _ _ (spliced ((Ph,eval e X.env)::[])) _ _ s;refine Calls.spliced_cons (cg (S f s t H _ I h) fun u d ⟨x,n,j,L,a,xs,ex,O,M⟩=>Calls.spliced_nil ?_);subst ex;obtain rfl:u=OW.ref a:=L;obtain⟨g,rv,pl,F⟩:=j.list O;have v:=pl.isList;refine call_reversed_list v (Calls.spliced_nil ?_);have la:a<d.heap.objs.size:=by obtain⟨o,e,_⟩:=v;exact Heap.lt_size e
 have m:Inv X f t n {d with heap:=d.heap.push (revObj a ((g.toArray.size:Int) - 1))}:=j.kept (t':=d.toks) fun b o e=>Heap.get?_push_of_some _ e;have i:g.toArray.size<=Po:=by rw[Pm,<-rv.length];exact F
 refine L10R.YY (r:=d.heap.objs.size) (l:=a) (items:=g.toArray) (j.ok.hd T) (PU la) (v.at fun o e=>Heap.get?_push_of_some _ e) ⟨_,Heap.get?_push_size _ rfl,rfl,rfl⟩ i fun h' E C c P Y hi=> ?_;obtain⟨f0,f1,J,f3,f4,f5⟩:=j.W8 (O8 d.heap.objs.size) (j.Ro.fresh (O8 _));have I3:Inv X f t n {d with heap:=h',toks:=E}:=Inv.turned (s:={d with heap:=d.heap.push (revObj a ((g.toArray.size:Int) - 1))}) (t':=E) (it:=d.heap.objs.size) m (fun b o U e=>P b o U e) f0 f1 f3 f4 f5;have ea:=Bx hi;have hn:n (d.heap.push (revObj a ((g.toArray.size:Int) - 1))).objs.size=Ld:=m.Ro.fresh (O8 _);refine⟨.ref (d.heap.push (revObj a ((g.toArray.size:Int) - 1))).objs.size,_,?_,rfl,M _ hn⟩;have J:=m.W8 (H':=n) (O8 (d.heap.push (revObj a ((g.toArray.size:Int) - 1))).objs.size) hn;have N:X.s₀.heap.get? (d.heap.push (revObj a ((g.toArray.size:Int) - 1))).objs.size=Ld:=by
  cases z:X.s₀.heap.get? (d.heap.push (revObj a ((g.toArray.size:Int) - 1))).objs.size with
  |none=>rfl
  |some o=>exact absurd (PD (Heap.lt_size z) m.sz) (Qq _)
 refine C4 I3 J N ⟨by rw[QW];exact F,C.toList,c,by rw[ea];exact B1 rv,by rw[Array.toArray_toList];exact Y⟩
end
end L2
namespace L10
open PySem PySem.Spec PyProof.Rows L2 L3
theorem mR:typeLookup (.type "tuple") (dunderI "add")=pure Ld:=by rw[Sd,Q8];kernel_rfl
def FM (K:OK):R2:=fun x y H Q=>∃(a b:Pc) (xs ys:List V),x= .ref a/\y= .ref b/\TX K H a xs/\TX K H b ys/\xs.length+ys.length<=Po/\(xs=[]->Q (.ref b) H)/\(xs≠[]->ys=[]->Q (.ref a) H)/\(xs≠[]->ys≠[]->∀p,H p=Ld->Q (.ref p) (upd H p (.tup (xs++ys))))
theorem K7 {X:Cx}:Np X .Add (FM X.K):=by
 intro E s σ H x y v u Q I P O h;obtain⟨a,b,xs,ys,rfl,rfl,ha,hb,F,U,T,S⟩:=h;cases P;cases O;obtain⟨f,q,Z,_⟩:=I.tuple ha;obtain⟨d,p,Y,_⟩:=I.tuple hb;obtain⟨⟨cls,dd,M,m⟩,c,J,n,G⟩:=id Z;obtain⟨⟨acp,B,A,C⟩,i,N,r,j⟩:=id Y;simp only at J G N j;subst J G N j;have w:f=[]↔xs=[]:=by cases q<;>simp
 have L:d=[]↔ys=[]:=by cases p<;>simp
 by_cases g:f=[]
 .exact UK ⟨_,c,rfl⟩ ⟨_,i,rfl⟩ mR SE Tq (S0 Rk ⟨_,c,rfl⟩ Ra (Q2 _ _)
   (tuple_addW0 a b f.toArray d.toArray n r dd B m C (by simp[g])) ⟨c,i,⟨.ref b,H,I,rfl,U (w.mp g)⟩⟩)
 .by_cases l:d=[]
  .exact UK ⟨_,c,rfl⟩ ⟨_,i,rfl⟩ mR SE Tq (S0 Rk ⟨_,c,rfl⟩ Ra (Q2 _ _)
    (tuple_addW1 a b f.toArray d.toArray n r dd B m C (by simpa using g) (by simp[l])) ⟨c,i,⟨.ref a,H,I,rfl,T (fun z=>g (w.mpr z)) (L.mp l)⟩⟩)
  .have t:f.length+d.length<=Po:=by rw[<-q.length,<-p.length];exact F
   refine UK ⟨_,c,rfl⟩ ⟨_,i,rfl⟩ mR SE Tq (S0 Rk ⟨_,c,rfl⟩ Ra (Q2 _ _)
    (tuple_addW2 a b f.toArray d.toArray n r dd B m C (by simpa using g) (by simpa using l) (by rw[Pm,Pm];exact t)) ⟨c,i,?_⟩)
   have e:f.toArray++d.toArray=(f++d).toArray:=by simp
   rw[e];exact⟨.ref s.heap.objs.size,_,I.laid (t':=s.toks) (o:= .tup (xs++ys)) (fun b o e=>Heap.get?_push_of_some _ e) (O8 _) ⟨by rw[OZ];exact F,f++d,q.append p,_,Heap.get?_push_size _ rfl,⟨⟨rfl,_,rfl⟩,rfl⟩⟩,rfl,S (fun z=>g (w.mpr z)) (fun z=>l (L.mpr z)) _ (I.Ro.fresh (O8 _))⟩
def Aq:D->D->Option RV
 | .tuple xs,.tuple ys=>if xs.length+ys.length<=1000000 then lD (.fz (.tuple (xs++ys))) else Ld
 |_,_=>Ld
theorem vS {K:OK}:kG K (FM K) Aq:=by
 intro O H x y dx l rv Q n i h e q;unfold Aq at e;split at e
 .split at e
  .rename_i j
   cases e;obtain⟨a,xs,rfl,h1,c⟩:=xl i;obtain⟨b,ys,rfl,g,d⟩:=xl h;refine⟨a,b,xs,ys,rfl,rfl,h1.1,g.1,rA (by rw[c.length,d.length];exact j),fun z=> ?_,fun _ z=> ?_,fun _ _=>Fin.Xe (c.append d) n q⟩
   .have f:=c.ne.mp z;subst f;exact q.at (.tup g d)
   .have f:=d.ne.mp z;subst f;rw[PY] at q;exact q.at (.tup h1 c)
  .cases e
 .cases e
def Ic:R2:=Om fun i j=>i - j
theorem HJ {X:Cx}:Np X .Sub Ic:=K1
theorem vt {K:OK}:kG K Ic v7:=by intro O H x y dx c rv Q n b a e q;obtain⟨i,j,rfl,rfl,rfl⟩:=vA e;cases b;cases a;exact⟨_,_,rfl,rfl,q.at (.int _)⟩
end L10
namespace L9
open PySem PySem.Spec PyProof.Rows L2 L3 L4
end L9
namespace L2
open PySem PySem.Spec PyProof.Rows
end L2
namespace L3
open PySem L2
end L3
namespace L10
open PySem PySem.Spec PyProof.Rows L2 L3
section
variable {B O O':bF} {K:OK} {E:XK} {H H' Y H2:Hp} {α α' Z α2:List Pc} {ω ω' ω1 ω2:aW} {σ:L2.St} {ρ:aX} {v:V}
def zS (fa:cE):cE:=fun ρ ω=>(fa ρ ω).bind fun x ω1=>(RS.Qi ω1 (gj ω1 x)).bind fun p ω2=> .ok (.rf ω2.length) (ω2++[.lst p.2.reverse])
theorem Ju {a:Type} {R:V->a->Prop} {vs:List V} {xs:List a} (h:Paired R vs xs):Paired R vs.reverse xs.reverse:=by
 induction h with
 |nil=>exact .nil
 |cons h t b=>rw[Rh,Rh];exact tz b h
theorem Fb {g:TE} {fe:cE} (n:cZ K E g fe):cZ K E (vh K g) (zS fe):=by intro B σ H α ω ρ Q s j w;refine n B σ H α ω ρ _ s j (w.bind.imp fun x Z ω1 Y r b c u m=> ?_);obtain⟨⟨i,xs⟩,q,c⟩:=WS.Qi c;obtain⟨p,a,vs,ha,rfl,h1,o⟩:=uC b m q;refine⟨a,vs,rfl,Um.of h1,fun l f=> ?_⟩;have h:Rg Y (upd Y l (.lst vs.reverse)):=bU f _;have e:Ru Z ω1 Y (Z++[l]) (ω1++[.lst xs.reverse]) (upd Y l (.lst vs.reverse)):=Ru.Vs b.len h f;exact c _ _ e (b.Vs h f (by rw[aD];simp) ⟨_,aD,Paired.TR (Ju o) fun _ _ d=>d.Sr e⟩) _ ⟨l,by rw[<-b.len];exact aU,rfl⟩
theorem HR {i:Nat} {fa:cE} {xs:List SV} (h:fa ρ ω= .ok (.rf i) ω1) (a:ω1[i]? =lD (.lst xs)):zS fa ρ ω= .ok (.rf ω1.length) (ω1++[.lst xs.reverse]):=by
 have b:gj ω1 (.rf i)=lD (i,xs):=by unfold gj;dsimp only;rw[a]
 unfold zS;rw[h,RS.bind_ok,b];rfl
theorem E3 {i:Nat} {f:D->D->Option RV} {fe:cE} {x y:SV} {z:SV} {ω3:aW} (a:ρ[i]? =lD (lD x)) (c:fe ρ ω= .ok y ω1) (b:pU f x y ω1= .ok z ω2):BP i f fe ρ ω= .ok (.nx (ρ.set i (lD z))) ω2:=by unfold BP;rw[bi a,RS.bind_ok,c,RS.bind_ok,b,RS.bind_ok]
end
end L10
namespace L4
open PySem PySem.Spec PyProof.Rows L2 L3
end L4
namespace L3
open PySem L2
end L3
namespace LD
open PySem PyProof.Rows L2 L3
section
variable {prog:PF} {w:Qc} {K:Type} [DecidableEq K] {knd:HeapKind prog w K} {A:PX} {E:OW->Pa->Prop} {s:Pa}
def uI (xs:List (K×Pc×OW)) (k:K):List (K×Pc×OW):=xs.filter fun x=>decide (x.1≠k)
theorem Bl {k:K} (h:k∉xs.map (·.1)):uI xs k=xs:=by unfold uI;rw[List.filter_eq_self];intro x a;exact decide_eq_true fun e=>h (e▸Pn.mpr ⟨x,a,rfl⟩)
theorem rX:∀{xs:List (K×Pc×OW)} {j:Nat} {p:Pc×OW},(xs.map (·.1)).Nodup->xs[j]? =lD (k,p)->xs.eraseIdx j=uI xs k
 |[],_,_,_,h=>by simp at h
 |x::r,0,p,hn,h=>by simp only[T8,UD] at h;subst h;rw[Pd,Qr] at hn;rw[List.eraseIdx_zero,List.tail_cons];unfold uI;rw[QG,if_neg (by simp)];exact(Bl hn.1).symm
 |x::r,j+1,p,hn,h=>by simp only[QQ] at h;rw[Pd,Qr] at hn;have hm:k∈r.map (·.1):=Pn.mpr ⟨(k,p),Pu h,rfl⟩;have a:x.1≠k:=fun e=>hn.1 (e▸hm);rw[T9,rX hn.2 h];unfold uI;rw[QG,if_pos (decide_eq_true a)]
theorem rO (f:α->β):∀(l:List α) (j:Nat),(l.map f).eraseIdx j=(l.eraseIdx j).map f
 |[],_=>rfl
 |_::_,0=>rfl
 |x::r,j+1=>by rw[Pd,T9,T9,Pd,rO f r j]
theorem u4 (m:knd.room A) (n:knd.is s.heap k a) (hm:s.heap.DictOfH knd d xs) (h:atKey xs k=lD p) (hsz:xs.length<=Po)
  (t:∀(e:QT) h',e.val=p.2->h'.DictOfH knd d (uI xs k)->Heap.SameBut d s.heap h'->Q (lD e) {s with heap:=h',toks:=s.toks+knd.draws k}):wpAny (model prog w) A (Builtin.Dict.takeOut d (.ref a)) Q E s:=by
 obtain⟨o,z,u,c,r,b,g,f,hn⟩:=hm;unfold Builtin.Dict.takeOut
 try with_reducible refine QL ?_
 refine Bn (knd.pyHash m n (Bn (wpAny_dictFind_heap m n c b g f hn ?_ ?_)))
 .intro i;rw[atKey_none_of_get i] at h;cases h
 .intro j v l
  have e:=atKey_of_get hn l;rw[h] at e;cases e;refine Bn (QP c b ?_);rw[entry_at g j,l];refine Bn (wpAny_updateDictKeys (hz:=by have e:=size_of_entries g;omega) c b (OY (t _ _ rfl ⟨_,_,u+1,Heap.get?_update_self _ c (Obj.isFreed_of_dict (Obj.data_mapDictKeys b _)),
   r.mapDictKeys _,Obj.data_mapDictKeys b _,?_,?_,?_⟩ (Heap.SameBut.update ..))))
  .rw[<-rX hn l,<-rO,<-g];simp
  .intro x q;exact knd.keeps (f x (QD.mp q).1) c b (Heap.SameBut.update ..)
  .exact hn.sublist ((XN).map _)
theorem xN (d a:Pc):MeetsIn prog w (Builtin.«dict.pop» ⟨[.ref d,.ref a],[]⟩) (fun A R s=>knd.room A.in1/\∃k xs p,knd.is s.heap k a/\s.heap.DictOfH knd d xs/\xs.length<=Po/\atKey xs k=lD p/\
  ∀h',h'.DictOfH knd d (uI xs k)->Heap.SameBut d s.heap h'->R (.ok (.ret p.2)) {s with heap:=h',toks:=s.toks+knd.draws k}):=
 .of_wp fun A R s ⟨m,k,xs,p,v,hm,b,i,h⟩=>by
  unfold Builtin.«dict.pop»;refine Bn ?_;unfold Builtin.Dict.keyAndDefault;refine Bn (RB hm.typeIs ?_);refine OY ?_;have g:=hm;obtain⟨o,j,B,n,_,u,t,_,_⟩:=g;have z:j.isEmpty=Ph:=by
   cases q:j.isEmpty with
   |false=>rfl
   |true=>
    rw[Vb] at q;subst q;cases xs with
    |nil=>cases i
    |cons x r=>cases t
  have f:(keyPart (.ref a)).isSome=Ph:=rfl;simp only[f,Pj,if_false];refine Bn (QP n u ?_);refine Bn (OY ?_);rw[z];simp only[Pj,if_false];refine Bn (u4 m v hm i b fun e h' l g c=> ?_);simp only[Option.isNone_some,Pj,if_false];exact Bn (Ul (OY ⟨e.val,rfl,by rw[l];exact h h' g c⟩))
end
def kr (xs:List (KD×Pc×V)) (k:KD):Option V:=(xs.find? fun x=>decide (x.1=k)).map (·.2.2)
def k6 (xs:List (KD×Pc×V)) (k:KD) (b:Pc) (v:V):List (KD×Pc×V):=
 if(xs.find? fun x=>decide (x.1=k)).isSome=Pb then xs.map (fun x=>if x.1=k then(x.1,x.2.1,v) else x) else xs++[(k,b,v)]
def nk (xs:List (KD×Pc×V)) (k:KD):List (KD×Pc×V):=xs.filter fun x=>decide (x.1≠k)
abbrev RX:List (KD×Pc×V)->List (KD×Pc×OW)->Prop:=Paired fun x y=>x.1=y.1/\x.2.1=y.2.1/\RelV x.2.2 y.2.2
theorem tq:∀{xs:List (KD×Pc×V)} {ys:List (KD×Pc×OW)},RX xs ys->xs.map (·.1)=ys.map (·.1)
 |_,_,.nil=>rfl
 |_,_,.cons h t=>by rw[Pd,Pd,h.1,tq t]
theorem mG:∀{xs:List (KD×Pc×V)} {ys:List (KD×Pc×OW)},RX xs ys->UE (kr xs k) ((atKey ys k).map (·.2))
 |_,_,.nil=>by unfold kr atKey;exact trivial
 |x::xs,y::ys,.cons h t=>by
  unfold kr atKey;rw[PL,PL,h.1];by_cases e:y.1=k
  .rw[decide_eq_true e];exact h.2.2
  .rw[decide_eq_false e];exact mG t
theorem A8:∀{xs:List (KD×Pc×V)} {ys:List (KD×Pc×OW)},RX xs ys->(xs.find? fun x=>decide (x.1=k)).isSome=(atKey ys k).isSome
 |_,_,.nil=>rfl
 |x::xs,y::ys,.cons h t=>by
  unfold atKey;rw[PL,PL,h.1];by_cases e:y.1=k
  .rw[decide_eq_true e];rfl
  .rw[decide_eq_false e];exact A8 t
theorem Fh (r:RelV v u):∀{xs:List (KD×Pc×V)} {ys:List (KD×Pc×OW)},RX xs ys->RX (xs.map fun x=>if x.1=k then(x.1,x.2.1,v) else x) (ys.map (putAt k u))
 |_,_,.nil=> .nil
 |x::xs,y::ys,.cons h t=>by
  rw[Pd,Pd];refine .cons ?_ (Fh r t);unfold putAt;by_cases e:y.1=k
  .rw[if_pos (h.1.trans e),if_pos e];exact⟨h.1,h.2.1,r⟩
  .rw[if_neg (by rw[h.1];exact e),if_neg e];exact h
theorem zB (h:x.1=y.1/\x.2.1=y.2.1/\RelV x.2.2 y.2.2):∀{xs:List (KD×Pc×V)} {ys:List (KD×Pc×OW)},RX xs ys->RX (xs++[x]) (ys++[y])
 |_,_,.nil=> .cons h .nil
 |_,_,.cons g t=> .cons g (zB h t)
theorem CZ (r:RelV v u) (h:RX xs ys):RX (k6 xs k b v) (storedH ys k b u):=by
 unfold k6 storedH;rw[A8 h];split
 .exact Fh r h
 .exact zB ⟨rfl,rfl,r⟩ h
theorem sQ:∀{xs:List (KD×Pc×V)} {ys:List (KD×Pc×OW)},RX xs ys->RX (nk xs k) (uI ys k)
 |_,_,.nil=> .nil
 |x::xs,y::ys,.cons h t=>by
  unfold nk uI;rw[QG,QG,h.1];by_cases e:y.1≠k
  .rw[if_pos (decide_eq_true e),if_pos (decide_eq_true e)];exact .cons h (sQ t)
  .rw[if_neg (by simpa using e),if_neg (by simpa using e)];exact sQ t
theorem nz (xs:List (KD×Pc×V)) (k:KD) (b:Pc) (v:V):(k6 xs k b v).length<=xs.length+1:=by
 unfold k6;split
 .rw[OX];omega
 .rw[OZ];exact O8 _
def mZ (K:OK) (H:Hp) (xs:List (KD×Pc×V)):Prop:=∀x∈xs,L2.DV K H (.ref x.2.1) x.1.1
section
variable {X:Cx} {Z:List (Pc×Obj)} {Y:L2.St} {H:Hp} {s:Pa} {a b:Pc} {xs:List (KD×Pc×V)} {k:KD} {v:V} {u r:OW} {A:PX} {E:OW->Pa->Prop}
theorem FP:∀{xs:List (KD×Pc×V)} {c:List QT},Paired (fun(x:KD×Pc×V) (e:QT)=>e.hash=ny w x.1.1/\e.key= .ref x.2.1/\RelV x.2.2 e.val) xs c->∃ys,RX xs ys/\c=ys.map (entryOfKey (b5 P w))
 |_,_,.nil=>⟨[],.nil,rfl⟩
 |x::_,e::_,.cons ⟨h1,h2,h3⟩ t=>by obtain⟨ys,f,d⟩:=FP t;refine⟨(x.1,x.2.1,e.val)::ys,.cons ⟨rfl,rfl,h3⟩ f,?_⟩;rw[Pd,<-d];obtain⟨h,g,ev⟩:=e;dsimp only at h1 h2;subst h1 h2;rfl
theorem II:∀{xs:List (KD×Pc×V)} {ys:List (KD×Pc×OW)},RX xs ys->Paired (fun(x:KD×Pc×V) (e:QT)=>e.hash=ny w x.1.1/\e.key= .ref x.2.1/\RelV x.2.2 e.val) xs (ys.map (entryOfKey (b5 P w)))
 |_,_,.nil=> .nil
 |_,_,.cons h t=> .cons ⟨by rw[h.1];rfl,by rw[h.2.1];rfl,h.2.2⟩ (II t)
theorem kJ (I:L2.Inv X Z Y H s) (h:L2.DV X.K H (.ref b) k.1):(b5 X.prog X.w).is s.heap k b:=L2.DV.reads I h rfl
theorem sC (I:L2.Inv X Z Y H s) (e:H a=lD (DkO a xs)) (h:mZ X.K H xs):xs.length<=Po/\(a==QO)=Ph/\∃ys,RX xs ys/\s.heap.DictOfH (b5 X.prog X.w) a ys:=by
 obtain⟨⟨⟨z,i,nd⟩,o,F,G,h1,B,n,j⟩,_⟩:=(show ObjOk X.prog X.w H s.heap a (DkO a xs) from I.Ro a _ e);obtain⟨ys,d,C⟩:=FP j;refine⟨z,i,ys,d,o,F,G,h1,B,n,C,?_,by rw[<-tq d];exact nd⟩;have all:∀{l:List (KD×Pc×V)} {m:List (KD×Pc×OW)},RX l m->(∀x∈l,L2.DV X.K H (.ref x.2.1) x.1.1)->∀y∈m,(b5 X.prog X.w).is s.heap y.1 y.2.1:=by
  intro l m q
  induction q with
  |nil=>intro _ y c;exact nomatch c
  | @cons p q ps qs hq t ih=>
   intro g y c;rcases Py.mp c with e|c
   .subst e;have:=kJ I (g p (Pr ..));rw[hq.1,hq.2.1] at this;exact this
   .exact ih (fun x f=>g x (Pl _ f)) y c
 exact all d h
theorem tG (z:xs.length<=Po) (f:(a==QO)=Ph) (c:RX xs ys) (dd:h'.DictOfH (b5 P w) a ys):ObjOk P w H' h' a (DkO a xs):=by obtain⟨o,d,e,h1,j,i,h,n,g⟩:=dd;refine⟨⟨⟨z,f,by rw[tq c];exact g⟩,o,d,e,h1,j,i,by rw[h];exact II c⟩,⟨o,h1⟩,?_⟩;rintro t p ⟨q,o,d,e,m,l⟩ st;exact⟨q,o,d,e,st o m,l⟩
theorem km (c:A.units+64<cLine):(b5 X.prog X.w).room A.in1:=by show A.in1.units+8<cLine;rw[PX.in1_units];omega
theorem JE (f:A.units+64<cLine) (I:L2.Inv X Z Y H s) (e:H a=lD (DkO a xs)) (j:mZ X.K H xs) (hb:L2.DV X.K H (.ref b) k.1) (g:kr xs k=lD v) (h:∀w' s',L2.Inv X Z Y H s'->RelV v w'->Q w' s'):
  wpAny (model X.prog X.w) A (getItem (.ref a) (.ref b)) Q E s:=by
 obtain⟨z,n,ys,c,dd⟩:=sC I e j;obtain⟨w',d,m⟩:=UE.some_of (by rw[<-g];exact mG c);obtain⟨p,i,l⟩:=Qz.mp d;refine VA (km f) (kJ I hb) dd i ?_;rw[l];exact h w' _ (I.tok _) m
theorem KH (d:A.units+64<cLine) (I:L2.Inv X Z Y H s) (e:H a=lD (DkO a xs)) (f:mZ X.K H xs) (hb:L2.DV X.K H (.ref b) k.1) (h:∀s',L2.Inv X Z Y H s'->Q (.bool (!(kr xs k).isSome)) s'):
  wpAny (model X.prog X.w) A (Rf .NotIn (.ref b) (.ref a)) Q E s:=by
 obtain⟨z,g,ys,c,dd⟩:=sC I e f;refine wpAny_notIn_heap (km d) (kJ I hb) g dd ?_;have q:=(mG (k:=k) c).Th;rw[RA] at q;rw[<-q];exact h _ (I.tok _)
theorem JF (i:A.units+64<cLine) (I:L2.Inv X Z Y H s) (e:H a=lD (DkO a xs)) (l:mZ X.K H xs) (hb:L2.DV X.K H (.ref b) k.1) (rv:RelV v r) (p:xs.length<Po) (h:∀s',L2.Inv X Z Y (upd H a (DkO a (k6 xs k b v))) s'->Q () s'):
  wpAny (model X.prog X.w) A (setItem (.ref a) (.ref b) r) Q E s:=by
 obtain⟨z,n,ys,c,dd⟩:=sC I e l;have g:ys.length<=Po:=by rw[<-Paired.length c];exact z
 have d:(k6 xs k b v).length<=Po:=by have:=nz xs k b v;omega
 refine aai (hsz:=g) (km i) (kJ I hb) dd fun o f j=>h _ ?_;have m:∃q,o.get? a=lD q:=let⟨q,_,_,hq,_⟩:=f;⟨q,hq⟩
 exact lW I (by rw[e];exact True.intro) j m (tG d n (CZ rv c) f)
theorem Hs (j:A.units+64<cLine) (I:L2.Inv X Z Y H s) (e:H a=lD (DkO a xs)) (g:mZ X.K H xs) (hb:L2.DV X.K H (.ref b) k.1) (f:RelV d r) (h:∀w' s',L2.Inv X Z Y H s'->RelV ((kr xs k).getD d) w'->Q w' s'):
  wpAny (model X.prog X.w) A (call (.builtin "dict.get") [.ref a,.ref b,r]) Q E s:=by
 obtain⟨z,i,ys,c,dd⟩:=sC I e g;refine Yp Wx dd.typeIs PySem.F.entry_dict_get (PySem.F.args_dict_get_3 _ _ _) (meetsH_dict_get_default (b5 X.prog X.w) a b i r) ⟨km (by omega),k,ys,kJ I hb,dd,h _ _ (I.tok _) ?_⟩;exact(mG c).getD f
theorem Li (C:A.units+64<cLine) (I:L2.Inv X Z Y H s) (e:H a=lD (DkO a xs)) (l:mZ X.K H xs) (hb:L2.DV X.K H (.ref b) k.1) (g:kr xs k=lD v) (h:∀w' s',L2.Inv X Z Y (upd H a (DkO a (nk xs k))) s'->RelV v w'->Q w' s'):
  wpAny (model X.prog X.w) A (call (.builtin "dict.pop") [.ref a,.ref b]) Q E s:=by
 obtain⟨z,n,ys,c,dd⟩:=sC I e l;obtain⟨w',f,B⟩:=UE.some_of (by rw[<-g];exact mG c);obtain⟨p,j,t⟩:=Qz.mp f;refine Yp Wz dd.typeIs PySem.F.entry_dict_pop (PySem.F.args_dict_pop_2 _ _) (xN a b) ⟨km (by omega),k,ys,p,kJ I hb,dd,by rw[<-Paired.length c];exact z,j,fun o d i=> ?_⟩;rw[t];refine h w' _ ?_ B;have m:∃q,o.get? a=lD q:=let⟨q,_,_,hq,_⟩:=d;⟨q,hq⟩
 exact lW I (by rw[e];exact True.intro) i m (tG (Pp (UB _ _) z) n (sQ c) d)
theorem j4 (I:L2.Inv X Z Y H s) (e:H a=lD (DkO a xs)):s.TypeIs (.ref a) "dict"/\(∀b,OW.ref a= .ref b->∃ob,s.heap.get? b=lD ob/\ob.dict=Ld)/\(a==QO)=Ph:=by obtain⟨⟨⟨z,d,nd⟩,o,h,i,h1,c,g,f⟩,_⟩:=(show ObjOk X.prog X.w H s.heap a (DkO a xs) from I.Ro a _ e);refine⟨⟨o,h1,c.1⟩,fun b q=> ?_,d⟩;cases q;exact⟨o,h1,c.2.1⟩
end
section
variable (K:OK)
def Io (neg:Bool) (ty e:TE):TE:=fun d H Q=>ty d H fun y f=>e d f fun x c=>∃a b xs k,x= .ref a/\y= .ref b/\c a=lD (DkO a xs)/\mZ K c xs/\L2.DV K c (.ref b) k.1/\Q (.bl ((kr xs k).isSome !=neg)) c
def D0 (e ty:TE):TE:=fun d H Q=>e d H fun x f=>ty d f fun y c=>∃a b xs k v,x= .ref a/\y= .ref b/\c a=lD (DkO a xs)/\mZ K c xs/\L2.DV K c (.ref b) k.1/\kr xs k=lD v/\Q v c
def Ei (f ty e:TE):TS:=fun D c H=>e c H fun v h=>f c h fun x g=>ty c g fun y d=>∃a b xs k,x= .ref a/\y= .ref b/\d a=lD (DkO a xs)/\mZ K d xs/\L2.DV K d (.ref b) k.1/\xs.length<Po/\D.nx c (upd d a (DkO a (k6 xs k b v)))
def z5 (f ty tx:TE):TE:=fun d H Q=>f d H fun x e=>∃a Zh,x= .ref a/\e a=lD (DkO a Zh)/\ty d e fun y g=>tx d g fun z c=>∃b xs k,y= .ref b/\c a=lD (DkO a xs)/\mZ K c xs/\L2.DV K c (.ref b) k.1/\Q ((kr xs k).getD z) c
def Ey (f ty:TE):TE:=fun d H Q=>f d H fun x e=>∃a Zh,x= .ref a/\e a=lD (DkO a Zh)/\ty d e fun y c=>∃b xs k v,y= .ref b/\c a=lD (DkO a xs)/\mZ K c xs/\L2.DV K c (.ref b) k.1/\kr xs k=lD v/\Q v (upd c a (DkO a (nk xs k)))
def Dz:TE:=fun _ H Q=>∀p,H p=Ld->Q (.ref p) (upd H p (DkO p []))
end
section
variable {X:Cx} {o i e f Z:Qn} {T U tx tv:TE} {pos S Y P:Pos}
theorem VO (r:X.A.units+64<cLine) (hi:PE X i U) (t:PE X o T):PC X .NotIn i o (Io X.K Pb U T):=by intro c s d H Q I h;refine cg (hi c s d H _ I h) fun L j ⟨y,F,C,l,n⟩=>cg (t c j d F _ C n) fun u J ⟨x,E,B,m,a,b,xs,k,w,v,e,p,q,g⟩=> ?_;subst w v;obtain rfl:=m;obtain rfl:=l;rw[Ww] at g;exact KH r B e p q fun G z=>⟨.bl _,E,z,rfl,g⟩
theorem VG (w:X.A.units+64<cLine) (z:PE X o T) (hi:PE X i U) (hs:Gh i):PE X (.Subscript o i pos) (D0 X.K T U):=by intro c s d H Q I h;refine sN Tt.lookup hs (cg (z c s d H _ I h) fun u l ⟨x,L,G,n,q⟩=>cg (hi c l d L _ G q) fun iv O ⟨y,J,j,m,a,b,xs,k,v,C,B,e,r,t,g,p⟩=> ?_);subst C B;obtain rfl:=n;obtain rfl:=m;exact⟨(j4 j e).1,JE w j e r t g fun M N F E=>⟨v,J,F,E,p⟩⟩
theorem WO (B:X.A.units+64<cLine) (C:PE X o T) (hi:PE X i U) (z:PE X Z tv) (hs:Rm Z (lD (.Subscript o i S)) pos.line X.env=pure Ph):
  PS X (.Assign [.Subscript o i S] Z pos) (Ei X.K T U tv):=by
 intro c s d H D I h;refine Yo (cg (z c s d H _ I h) fun r j ⟨v,Q,N,rv,q⟩=>cg (C c j d Q _ N q) fun u g ⟨x,O,M,m,p⟩=>cg (hi c g d O _ M p) fun iv s3 ⟨y,H3,L,l,a,b,xs,k,G,F,e,t,w,E,n⟩=> ?_) hs;subst G F;obtain rfl:=m;obtain rfl:=l;exact JF B L e t w rv E fun s4 J=>⟨d,_,J,n⟩
theorem XS (G:X.A.units+64<cLine) (J:PE X o T) (M:PE X e U) (L:PE X f tx) (m:M2 X o "get" Y e f P):PE X (.Call (.Attribute o "get" Y) [e,f] [] P) (z5 X.K T U tx):=by
 intro c s d H Q I h;refine aaV m.base m.few m.line Sz Wx PySem.F.type_dict_get (cg (J c s d H _ I h) fun u p ⟨x,H1,g,t,a,Zh,O,e0,B⟩=> ?_);subst O;obtain rfl:=t;obtain⟨l,j,_⟩:=j4 g e0;refine⟨l,j,?_⟩;rw[m.trees];refine Calls.callWith_builtin rfl (Calls.evalArgs_plain (Calls.spliced_cons (cg (M c p d H1 _ g B) fun iv n ⟨y,H2,I2,r,w⟩=>
  Calls.spliced_cons (cg (L c n d H2 _ I2 w) fun fv s3 ⟨z,H3,I3,q,b,xs,k,N,e3,C,E,v⟩=>Calls.spliced_nil ?_))))
 subst N;obtain rfl:=r;exact Hs G I3 e3 C E q fun w' s4 I4 V4=>⟨_,H3,I4,V4,v⟩
theorem YJ (C:X.A.units+64<cLine) (E:PE X o T) (G:PE X e U) (m:M1 X o "pop" Y e P):PE X (.Call (.Attribute o "pop" Y) [e] [] P) (Ey X.K T U):=by intro c s d H Q I h;refine aaV m.base m.few m.line Sz Wz PySem.F.type_dict_pop (cg (E c s d H _ I h) fun u p ⟨x,H1,j,r,a,Zh,L,e0,w⟩=> ?_);subst L;obtain rfl:=r;obtain⟨n,l,_⟩:=j4 j e0;refine⟨n,l,?_⟩;rw[m.trees];refine Calls.callWith_builtin rfl (Calls.evalArgs_plain (Calls.spliced_cons (cg (G c p d H1 _ j w) fun iv s2 ⟨y,H2,I2,q,b,xs,k,v,J,M,z,B,g,t⟩=>Calls.spliced_nil ?_)));subst J;obtain rfl:=q;exact Li C I2 M z B g fun w' s3 O N=>⟨v,_,O,N,t⟩
theorem VL:PE X (.Dict [] [] pos) Dz:=fun a s b H Q I h=>
 wpAny_Dict_empty ⟨.ref s.heap.objs.size,_,I.laid (fun _ _ q=>Heap.get?_push_of_some _ q) (O8 _) (tG (Qb _) (beq_eq_false_iff_ne.mpr (Ne.symm (PU I.big))) .nil (Heap.DictOfH.new s.heap)),rfl,h _ (I.Ro.fresh (O8 _))⟩
end
mutual
def SD:O9->O9->Option Bool
 | .int i,.int j=>lD (decide (i<j))
 | .str x,.str y=>lD (decide (x.cps.toList<y.cps.toList))
 | .tuple xs,.tuple ys=>Rq xs ys
 |_,_=>Ld
def Rq:List O9->List O9->Option Bool
 |[],[]=>lD Ph
 |[],_::_=>lD Pb
 |_::_,[]=>lD Ph
 |x::xs,y::ys=>if O9.eqv x y=Pb then Rq xs ys else SD x y
end
section
variable {prog:PF} {w:Qc} {E:OW->Pa->Prop}
theorem FC:∀(n:Nat) (x y:O9) (u v:OW) (as bs:List Pc) (A:PX) (s:Pa) (Q:OW->Pa->Prop) (r:Bool),x.depth<=n->y.depth<=n->x.canLay0=Pb->y.canLay0=Pb->RO s.heap u x as->RO s.heap v y bs->A.units+n<cLine->SD x y=lD r->Q (.bool r) s->wpAny (model prog w) A (richCompare .Lt u v) Q E s
 |n,.int i,.int j,_,_,_,_,A,s,Q,r,_,_,_,_,ru,rv,_,e,h=>by cases ru;cases rv;rw[SD] at e;cases e;exact aaW (T1 s _ _) (T1 s _ _) F.slot_int_lt F.entry_int_lt (F.args_int_lt_2 _ _) (gives_int_lt _ _ _ _) (fun x=>nomatch x) h
 |n,.str i,.str j,_,_,_,_,A,s,Q,r,_,_,_,_,ru,rv,_,e,h=>by cases ru;cases rv;rw[SD] at e;cases e;exact aaW (W3 s _ _) (W3 s _ _) F.slot_str_lt F.entry_str_lt (F.args_str_lt_2 _ _) (gives_str_lt _ _ _ _) (fun x=>nomatch x) h
 |0,.tuple xs,_,_,_,_,_,A,s,Q,r,hx,_,_,_,_,_,_,_,_=>by simp only[O9.depth] at hx;omega
 |n+1,.tuple xs,.tuple ys,_,_,_,_,A,s,Q,r,hx,hy,lx,ly,ru,rv,hu,e,h=>by
  cases ru with
  | @tuple a oa va na _ _ a1 a2 a3 a4=>
  cases rv with
  | @tuple b ob vb nb _ _ b1 b2 b3 b4=>
   have g:s.TypeIs (.ref a) "tuple":=⟨_,a1,a2⟩;have f:s.TypeIs (.ref b) "tuple":=⟨_,b1,b2⟩;rw[SD] at e;simp only[O9.depth] at hx hy;unfold O9.canLay0 at lx ly;refine WV g f F.slot_tuple_lt (QM F.slot_tuple_lt g F.entry_tuple_lt ?_ (F.args_tuple_lt_2 _ _)) (by omega);show wpAny _ _ (isInstance (.ref b) (.type "tuple")>>=_) _ _ s;refine Bn (Rz f Y4 ?_);simp only[Q7,Pj,if_false];refine Bn (VB a1 a3 ?_);refine Bn (VB b1 b3 ?_);refine Bn ?_;have la:va.size=xs.length:=by have:=SeqAt.ReadsAll.length _ _ _ a4;rw[PJ] at this;exact this
   have m:vb.size=ys.length:=by have:=SeqAt.ReadsAll.length _ _ _ b4;rw[PJ] at this;exact this
   refine aby _
    (fun c q d=>q.1=Ld/\d=s/\∃x' y' xs' ys' cs ds,c=List.zip xs' ys'/\Sx s.heap xs' x' cs/\Sx s.heap ys' y' ds/\O9.depthAll x'<=n/\O9.depthAll y'<=n/\O9.canLayAll0 x'=Pb/\O9.canLayAll0 y'=Pb/\Rq x' y'=Rq xs ys/\(x'.length<y'.length↔xs.length<ys.length))
    _ ?_ ?_ _ _ ⟨rfl,rfl,xs,ys,_,_,_,_,rfl,a4,b4,by omega,by omega,lx,ly,rfl,Iff.rfl⟩
   .rintro⟨p,q⟩ c B d ⟨l,rfl,x',y',xs',ys',cs,ds,hz,WD,hy',dx,dy,cx,cy,hl,hlen⟩
    cases WD with
    |nil=>simp at hz
    | @cons p' ps k1 x'' c1 c2 h1 adN=>
     cases hy' with
     |nil=>simp at hz
     | @cons q' qs k2 y'' d1 d2 h2 adW=>
      simp only[QN,Xo,Prod.mk.injEq] at hz;obtain⟨⟨rfl,rfl⟩,rfl⟩:=hz;simp only[O9.depthAll] at dx dy;unfold O9.canLayAll0 at cx cy;rw[PN] at cx cy;refine Bn (SeqAt.eqAt_reads k1 k2 A.in1 d p q _ _ h1 h2 cx.1 cy.1 (by rw[PX.in1_units];omega) prog w _ _ ?_);rw[Rq] at hl;cases z:O9.eqv k1 k2 with
      |true=>rw[if_pos z] at hl;simp only[Q7,Pj,if_false];refine OY ⟨rfl,rfl,x'',y'',ps,qs,_,_,rfl,adN,adW,by omega,by omega,cx.2,cy.2,hl,?_⟩;rw[<-hlen,Pf,Pf];omega
      |false=>rw[if_neg (by rw[z];simp)] at hl;simp only[V7,if_true];refine Bn (UJ (Bn (FC n k1 k2 p q _ _ A.in1 d _ r (by omega) (by omega) cx.1 cy.1 h1 h2 (by rw[PX.in1_units];omega) (hl.trans e) ?_)));exact Bn (OY (OY (OY ⟨_,rfl,(fun x=>nomatch x),h⟩)))
   .rintro⟨t,o⟩ d ⟨l,rfl,x',y',xs',ys',cs,ds,hz,WD,hy',dx,dy,cx,cy,hl,hlen⟩
    simp only at l;subst l;refine OY ⟨_,rfl,(fun x=>nomatch x),?_⟩;have er:r=decide (xs.length<ys.length):=by
     have:Rq x' y'=lD (decide (x'.length<y'.length)):=by
      cases WD with
      |nil=>cases hy'<;>simp[Rq]
      |cons _ _=>
       cases hy' with
       |nil=>simp[Rq]
       |cons _ _=>simp at hz
     rw[<-hl,this] at e;cases e;exact decide_eq_decide.mpr hlen
    rw[er] at h;rw[la,m];exact h
 |_,.none,_,_,_,_,_,_,_,_,_,_,_,_,_,_,_,_,e,_|_,.bool _,_,_,_,_,_,_,_,_,_,_,_,_,_,_,_,_,e,_|_,.list _,_,_,_,_,_,_,_,_,_,_,_,_,_,_,_,_,e,_|_,.dict _,_,_,_,_,_,_,_,_,_,_,_,_,_,_,_,_,e,_=>by simp[SD] at e
 |_,.int _,.none,_,_,_,_,_,_,_,_,_,_,_,_,_,_,_,e,_|_,.int _,.bool _,_,_,_,_,_,_,_,_,_,_,_,_,_,_,_,e,_|_,.int _,.str _,_,_,_,_,_,_,_,_,_,_,_,_,_,_,_,e,_|_,.int _,.list _,_,_,_,_,_,_,_,_,_,_,_,_,_,_,_,e,_|_,.int _,.tuple _,_,_,_,_,_,_,_,_,_,_,_,_,_,_,_,e,_|_,.int _,.dict _,_,_,_,_,_,_,_,_,_,_,_,_,_,_,_,e,_=>by simp[SD] at e
 |_,.str _,.none,_,_,_,_,_,_,_,_,_,_,_,_,_,_,_,e,_|_,.str _,.bool _,_,_,_,_,_,_,_,_,_,_,_,_,_,_,_,e,_|_,.str _,.int _,_,_,_,_,_,_,_,_,_,_,_,_,_,_,_,e,_|_,.str _,.list _,_,_,_,_,_,_,_,_,_,_,_,_,_,_,_,e,_|_,.str _,.tuple _,_,_,_,_,_,_,_,_,_,_,_,_,_,_,_,e,_|_,.str _,.dict _,_,_,_,_,_,_,_,_,_,_,_,_,_,_,_,e,_=>by simp[SD] at e
 |_,.tuple _,.none,_,_,_,_,_,_,_,_,_,_,_,_,_,_,_,e,_|_,.tuple _,.bool _,_,_,_,_,_,_,_,_,_,_,_,_,_,_,_,e,_|_,.tuple _,.int _,_,_,_,_,_,_,_,_,_,_,_,_,_,_,_,e,_|_,.tuple _,.str _,_,_,_,_,_,_,_,_,_,_,_,_,_,_,_,e,_|_,.tuple _,.list _,_,_,_,_,_,_,_,_,_,_,_,_,_,_,_,e,_|_,.tuple _,.dict _,_,_,_,_,_,_,_,_,_,_,_,_,_,_,_,e,_=>by simp[SD] at e
end
end LD
namespace LD
open PySem PyProof.Rows
structure VE (es:List QT) (kvs:List (Unit×OW)):Prop where
 vals:es.map (·.val)=kvs.map (·.2)
theorem VE.length {a:List QT} {kvs:List (Unit×OW)} (h:VE a kvs):a.length=kvs.length:=by have:=congrArg QY h.vals;rw[OX,OX] at this;exact this
theorem VE.get? {a:List QT} {kvs:List (Unit×OW)} (h:VE a kvs) {i:Nat} {e:QT} {k:Unit} {v:OW} (c:a[i]? =lD e) (b:kvs[i]? =lD (k,v)):True/\e.val=v:=by have:=congrArg (fun l=>l[i]?) h.vals;simp only[Pg,c,b,Vv,UD] at this;exact⟨trivial,this⟩
def Vm (h:Heap) (d:Pc) (kvs:List (Unit×OW)) (a:Nat):Prop:=∃o es,h.get? d=lD o/\o.ExactDict/\o.data= .dict es a/\True/\VE es.toList kvs/\True
theorem Vm.at' {h h':Heap} {a:Pc} {kvs:List (Unit×OW)} {b:Nat} (x:Vm h a kvs b) (e:∀o,h.get? a=lD o->h'.get? a=lD o):Vm h' a kvs b:=let⟨o,es,ho,r⟩:=x;⟨o,es,e _ ho,r⟩
def Kp (h0 h:Heap):Prop:=∀b o,h0.get? b=lD o->h.get? b=lD o
theorem Kp.step {h0 h h':Heap} {wr:List Pc} (a:∀b∈wr,h0.get? b=Ld) (k:Kp h0 h) (c:∀b o,b∉wr->h.get? b=lD o->h'.get? b=lD o):Kp h0 h':=fun b o e=>c b o (fun m=>by rw[a b m] at e;cases e) (k b o e)
theorem Kp.upd {h0 h:Heap} {S:Pc} {f:Obj->Obj} (a:h0.get? S=Ld) (k:Kp h0 h):Kp h0 (h.update S f):=fun b o e=>(Heap.get?_update_other _ _ (fun z:S=b=>by rw[z,e] at a;cases a)).trans (k b o e)
def E2 (prog:PF) (w:Qc) (A:PX) (h0:Heap) (P:Nat->OW->Prop) (a:Nat->Nat->Bool):Prop:=
 ∀i j vi vj (s:Pa) (Q:OW->Pa->Prop) (E:OW->Pa->Prop),P i vi->P j vj->Kp h0 s.heap->Q (.bool (a i j)) s->wpAny (model prog w) A (richCompare .Lt vi vj) Q E s
section
variable {prog:PF} {w:Qc} {A:PX} {E:OW->Pa->Prop} {s:Pa}
theorem lG {v d:Pc} {kvs:List (Unit×OW)} {h:Nat} {Q:OW->Pa->Prop} (b:s.heap.IsValuesView v d) (hm:Vm s.heap d kvs h)
  (l:Q (.ref s.heap.objs.size) {s with heap:=s.heap.push {cls:= .type "dict_valueiterator",data:= .fields #[.ref d,.int 0 0,.int kvs.length 0,.int h 0]}}):
  wpAny (model prog w) A (pyIter (.ref v)) Q E s:=by
 obtain⟨p,e,j,f⟩:=id b;obtain⟨o,m,g,r,a,q,i,hn⟩:=id hm;refine aaX b.typeIs F.slot_dict_values_iter (QM F.slot_dict_values_iter b.typeIs F.entry_dict_values_iter ?_ (F.args_dict_values_iter_1 _));unfold Builtin.«dict_values.__iter__»;refine Bn (OY ?_);refine Bn ?_;unfold Builtin.Dict_items.dictOf;refine Bn (Tr e f (x:= .ref d) rfl (OY ?_));refine Bn ?_;unfold Builtin.Dict_items.newIterator;refine Bn (QP g a ?_);refine Bn (Sf g a ?_);have c:m.size=kvs.length:=by rw[<-i.length];simp
 have n:Builtin.Dict_items.ownsTuple "dict_valueiterator"=Ph:=by decide
 simp only[n,Pj,if_false];refine P8 (OY ⟨_,rfl,"dict_valueiterator",_,⟨_,Heap.get?_push_size _ rfl,rfl⟩,F.slot_dict_valueiterator_next.lookup,?_⟩)
 simpa [rawInt,c] using l
theorem i6 {it d:Pc} {i m:Nat} {kvs:List (Unit×OW)} {k:Unit} {v:OW} {Q:Option OW->Pa->Prop} (a:s.heap.IsValIter it d i kvs.length m)
  (hm:Vm s.heap d kvs m) (r:kvs[i]? =lD (k,v))
  (z:∀h',h'.IsValIter it d (i+1) kvs.length m->Heap.SameBut it s.heap h'->Q (lD v) {s with heap:=h'}):
  wpAny (model prog w) A (pyNext (.ref it)) Q E s:=by
 obtain⟨o,n,u,l⟩:=id a;obtain⟨G,g,c,I,f,H,t,hn⟩:=id hm;unfold pyNext;refine Bn (Ut (QS (name:=Str.ofString "__next__") a.typeIs F.slot_dict_valueiterator_next
  (QM F.slot_dict_valueiterator_next a.typeIs F.entry_dict_valueiterator_next ?_ (F.args_dict_valueiterator_next_1 _))))
 refine Bn (OY ?_);refine Bn ?_;refine Bn ?_
 first|refine Bn (RU a.typeIs (OY ?_))|refine Bn (SN a.typeIs (OY ?_))
 refine Bn (Vc n l ?_);have B:Builtin.Dict_items.ownsTuple "dict_valueiterator"=Ph:=by decide
 simp only[B,Pj,if_false];show wpAny _ _ (if(OW.ref d==OW.none)=Pb then _ else _) _ _ s;rw[if_neg (show¬((OW.ref d==OW.none)=Pb) from Pt)];refine Bn (OY ?_);refine Bn (QP c f ?_);have b:g.size=kvs.length:=by rw[<-t.length];simp
 rw[if_neg (by rw[b];simp)];refine Bn (OY ?_);refine Bn (Sf c f ?_);rw[if_neg (by simp)];refine OY ?_;have C:i<kvs.length:=by
  rcases Nat.lt_or_ge i kvs.length with h|h
  .exact h
  .simp[S3 h] at r
 have j:i<g.size:=by rw[b];exact C
 have p:g[i].val=v:=(t.get? (e:=g[i]) (by simp[j]) r).2;simp only[show¬((i:Int)<0) from by omega,if_false,QK,TH j];refine Bn ?_
 first|refine Bn (RU a.typeIs (OY ?_))|refine Bn (SN a.typeIs (OY ?_))
 refine Bn (UW a.typeIs ?_);show wpAny _ _ (setField (.ref it) 1 (rawInt ((i:Int)+1))>>=_) _ _ s;refine Bn (Vd n l (by simp) ?_)
 have q:(s.heap.update it (Obj.mapFields (·.setIfInBounds 1 (rawInt ((i:Int)+1))))).IsValIter it d (i+1) kvs.length m:=
  ⟨_,Heap.get?_update_self _ n (Obj.isFreed_of_fields (Obj.data_mapFields l _)),(Obj.cls_mapFields ..).trans u,by rw[Obj.data_mapFields l];simp[rawInt]⟩
 refine Bn (QL ?_);refine Bn (UW (s:={s with heap:=s.heap.update it (Obj.mapFields (·.setIfInBounds 1 (rawInt ((i:Int)+1))))}) q.typeIs ?_);refine Bn (UW (s:={s with heap:=s.heap.update it (Obj.mapFields (·.setIfInBounds 1 (rawInt ((i:Int)+1))))}) q.typeIs ?_);show wpAny _ _ (pure g[i].val) _ _ _;exact OY (OY ⟨_,rfl,OY (p▸z _ q (Heap.SameBut.update ..))⟩)
theorem jt {it d:Pc} {i p:Nat} {kvs:List (Unit×OW)} {Q:Option OW->Pa->Prop} (t:A.handled=Ld) (c:s.heap.IsValIter it d i kvs.length p)
  (hm:Vm s.heap d kvs p) (q:kvs[i]? =Ld)
  (u:∀h',Heap.ExtBut it s.heap h'->Q Ld {s with heap:=h'}):wpAny (model prog w) A (pyNext (.ref it)) Q E s:=by
 obtain⟨o,j,C,l⟩:=id c;obtain⟨z,n,f,G,g,B,r,hn⟩:=id hm;unfold pyNext;refine Bn (Ut (QS (name:=Str.ofString "__next__") c.typeIs F.slot_dict_valueiterator_next
  (QM F.slot_dict_valueiterator_next c.typeIs F.entry_dict_valueiterator_next ?_ (F.args_dict_valueiterator_next_1 _))))
 refine Bn (OY ?_);refine Bn ?_;refine Bn ?_
 first|refine Bn (RU c.typeIs (OY ?_))|refine Bn (SN c.typeIs (OY ?_))
 refine Bn (Vc j l ?_);have v:Builtin.Dict_items.ownsTuple "dict_valueiterator"=Ph:=by decide
 simp only[v,Pj,if_false];show wpAny _ _ (if(OW.ref d==OW.none)=Pb then _ else _) _ _ s;rw[if_neg (show¬((OW.ref d==OW.none)=Pb) from Pt)];refine Bn (OY ?_);refine Bn (QP f g ?_);have e:n.size=kvs.length:=by rw[<-r.length];simp
 rw[if_neg (by rw[e];simp)];refine Bn (OY ?_);refine Bn (Sf f g ?_);rw[if_neg (by simp)];refine OY ?_;have h:n.size<=i:=by rw[e];simpa using q
 simp only[show¬((i:Int)<0) from by omega,if_false,QK,WI h];refine Bn ?_
 first|refine Bn (RU c.typeIs (OY ?_))|refine Bn (SN c.typeIs (OY ?_))
 show wpAny _ _ (setField (.ref it) 0 .none>>=_) _ _ s;refine Bn (Vd j l (by simp) ?_);show wpAny _ _ (newExc (.type "StopIteration") []>>=_) _ _ _;refine Bn ?_;simp only[newExc,newTuple];refine Bn (P8 ?_ (by size_fits));refine Bn (m:=firstArgMember _ _) (Uk (a:=OW.none) (by first|rfl|(simp only[firstArgMember];rfl)) ?_);refine P8 ?_ (by size_fits);simp only[raiseNew];refine Bn (ae5 ?_);rw[show A.in1.handled=Ld from t];refine Bn (OY (wpAny_throw ?_));refine Bn (Rz (T:= "StopIteration") (b:=Pb) ⟨_,Heap.get?_push_size _ rfl,rfl⟩ adx ?_);exact OY (u _ (((Heap.SameBut.update ..).extBut.push _).push _))
theorem Bc (q:A.handled=Ld) (I d:Pc) (t:d≠I) (kvs:List (Unit×OW)) (n:Nat):
  Walks prog w A I [I,d] [I] kvs.length (fun i v=>∃k,kvs[i]? =lD (k,v)) (fun i h=>h.IsValIter I d i kvs.length n/\Vm h d kvs n) where
 sub:=fun b a=>by simp at a;simp[a]
 frame:=fun _ _ _ st m=>⟨st.1.at fun o e=>m I (by simp) o e,st.2.at' fun o e=>m d (by simp) o e⟩
 item:=fun i s Q E hi st f=>by obtain⟨⟨k,x⟩,l⟩:∃p,kvs[i]? =lD p:=⟨kvs[i],by simp[hi]⟩;refine i6 st.1 st.2 l fun j r c=> ?_;exact f x j s.toks ⟨k,l⟩ ⟨r,st.2.at' fun o e=>c.extBut d o t e⟩ fun b o a e=>c.extBut b o (fun h=>a (by simp[h])) e
 done:=fun s Q E st f=>jt q st.1 st.2 (by simp) fun j g=>f j s.toks fun b o a e=>g b o (fun h=>a (by simp[h])) e
 self:=fun _ _ _ _ st f=>wpAny_pyIter_valiter st.1 f
end
section
variable {prog:PF} {w:Qc} {A:PX} {R:Vy->Pa->Prop} {I:Pc} {fp wr:List Pc} {n:Nat} {P:Nat->OW->Prop} {St:Nat->Heap->Prop}
theorem uq (W:Walks prog w A.in1 I fp wr n P St) (m:Nat->Nat->Bool) {h0:Heap} (Z:E2 prog w A.in1 h0 P m) (K:∀b∈wr,h0.get? b=Ld) (S:Pc) (G:h0.get? S=Ld) (T:S∉fp):
  ∀(k j:Nat) (s:Pa) (a:OW) (c:Nat),n - (j+1)=k->j+1<=n->St (j+1) s.heap->P (argBest m j) a->Kp h0 s.heap->
  s.heap.get? S=lD {cls:= .type "list",dict:=Ld,data:= .seq #[a,a] c,slots:= #[]}->
  (∀v h' tk,P (argBest m (n - 1)) v->(∀b o,b∉wr->b≠S->s.heap.get? b=lD o->h'.get? b=lD o)->R (.ok (.ret v)) {s with heap:=h',toks:=tk})->
  codeAny (model prog w) A (.builtin "min.loop" ⟨[.ref I,.none,.ref S],[]⟩) R s:=by
 have r:S∉wr:=fun h=>T (W.sub _ h);have U:(toString "min"++toString ".loop":String)= "min.loop":=by decide
 intro k
 induction k with
 |zero=>
  intro j s a c X Y L d B t z;have q:j+1=n:=by omega
  refine Se F.entry_min_loop ?_;rw[PX.under_plainId F.plain_min_loop _];show wpAny _ A.in1 (seqItems? (.ref S)>>=_) _ _ s;refine Bn (T4 t rfl ?_);show wpAny _ A.in1 (tryCatch (pyNext (.ref I)) _>>=_) _ _ s;refine Bn (Ta (W.done s _ _ (q▸L) fun h' tk f=> ?_));have u:=f S _ r t;show wpAny _ A.in1 (updateSeq S (fun _=> #[])>>=_) _ _ _;refine Bn ?_;refine US u rfl (Bn (Ul (OY ?_)));refine z a _ tk (by rw[<-q];exact d) fun b o l p e=>(Heap.get?_update_other _ _ (Ne.symm p)).trans (f b o l e)
 |succ k N=>
  intro j s a c X Y L d B t z;have M:j+1<n:=by omega
  refine Se F.entry_min_loop ?_;rw[PX.under_plainId F.plain_min_loop _];show wpAny _ A.in1 (seqItems? (.ref S)>>=_) _ _ s;refine Bn (T4 t rfl ?_);show wpAny _ A.in1 (tryCatch (pyNext (.ref I)) _>>=_) _ _ s;refine Bn (Ta (W.item (j+1) s _ _ M L fun v h' tk O Q f=> ?_));have u:=f S _ r t;show wpAny _ A.in1 (tryCatch (holding [v,v] (richCompare .Lt v a>>=_)) _>>=_) _ _ _;refine Bn (Ta (QL (Bn (Z (j+1) (argBest m j) v a _ _ _ O d (Kp.step K B f) ?_))));refine Bn (QL (RH ?_));refine Bn (Ul (OY ?_));cases hb:m (j+1) (argBest m j) with
  |true=>
   simp only[if_true];refine Bn ?_;refine US u rfl (Bn (Ul ?_));rw[U];refine OY ⟨Rv F.plain_min_loop _,N (j+1) _ v _ (by omega) M (W.frame _ _ _ Q fun b E o e=> ?_) (by simp only[argBest,hb,if_true];exact O) (Kp.upd G (Kp.step K B f)) (Heap.get?_update_self _ u rfl)
    fun C i J g H=> ?_⟩
   .exact(Heap.get?_update_other _ _ (fun h:S=b=>T (by rw[h];exact E))).trans e
   .exact z C i J g fun b o l p e=>H b o l p ((Heap.get?_update_other _ _ (Ne.symm p)).trans (f b o l e))
  |false=>simp only[Pj,if_false];refine Bn (Ul ?_);rw[U];refine OY ⟨Rv F.plain_min_loop _,N (j+1) _ a c (by omega) M Q (by simp only[argBest,hb,Pj,if_false];exact d) (Kp.step K B f) u fun C i J g H=> ?_⟩;exact z C i J g fun b o l p e=>H b o l p (f b o l e)
theorem gh (W:Walks prog w A.in1 I fp wr n P St) (j:Nat->Nat->Bool) {h0:Heap} (K:E2 prog w A.in1 h0 P j) (r:∀b∈wr,h0.get? b=Ld) (S:Pc) (a:h0.get? S=Ld) (l:S∉fp) (hn:0<n) {s:Pa} {c:Nat} (L:St 0 s.heap) (J:Kp h0 s.heap)
  (p:s.heap.get? S=lD {cls:= .type "list",dict:=Ld,data:= .seq #[] c,slots:= #[]})
  (B:∀v h' tk,P (argBest j (n - 1)) v->(∀b o,b∉wr->b≠S->s.heap.get? b=lD o->h'.get? b=lD o)->R (.ok (.ret v)) {s with heap:=h',toks:=tk}):
  codeAny (model prog w) A (.builtin "min.loop" ⟨[.ref I,.none,.ref S],[]⟩) R s:=by
 have f:S∉wr:=fun h=>l (W.sub _ h);have M:(toString "min"++toString ".loop":String)= "min.loop":=by decide
 refine Se F.entry_min_loop ?_;rw[PX.under_plainId F.plain_min_loop _];show wpAny _ A.in1 (seqItems? (.ref S)>>=_) _ _ s;refine Bn (T4 p rfl ?_);show wpAny _ A.in1 (tryCatch (pyNext (.ref I)) _>>=_) _ _ s;refine Bn (Ta (W.item 0 s _ _ hn L fun v h' tk C E m=> ?_));have u:=m S _ f p;show wpAny _ A.in1 (updateSeq S (fun _=> #[v,v])>>=_) _ _ _;refine Bn ?_;refine US u rfl ?_;rw[M];refine OY ⟨Rv F.plain_min_loop _,uq W j K r S a l _ 0 _ v _ rfl hn (W.frame _ _ _ E fun b d o e=> ?_) C (Kp.upd a (Kp.step r J m)) (Heap.get?_update_self _ u rfl) fun z i H g G=> ?_⟩
 .exact(Heap.get?_update_other _ _ (fun h:S=b=>l (by rw[h];exact d))).trans e
 .exact B z i H g fun b o t q e=>G b o t q ((Heap.get?_update_other _ _ (Ne.symm q)).trans (m b o t e))
end
section
variable {prog:PF} {w:Qc} {A:PX} {E:OW->Pa->Prop} {s:Pa}
theorem vK {h0 h:Heap} (k:Kp h0 h):h0.get? h.objs.size=Ld:=by
 cases q:h0.get? h.objs.size with
 |none=>rfl
 |some o=>exact absurd (Heap.lt_size (k _ _ q)) (Qq _)
theorem tO {x:OW} {Q:OW->Pa->Prop}
  (h:wpAny (model prog w) A.in1 (pyIter x) (fun it s₂=>∃I fp wr n P St bt h0,it= .ref I/\Walks prog w A.in1 I fp wr n P St/\St 0 s₂.heap/\(∀b∈fp,b<s₂.heap.objs.size)/\0<n/\E2 prog w A.in1 h0 P bt/\Kp h0 s₂.heap/\(∀b∈wr,h0.get? b=Ld)/\
   ∀v h' tk,P (argBest bt (n - 1)) v->(∀b o,b∉wr->s₂.heap.get? b=lD o->h'.get? b=lD o)->Q v {s₂ with heap:=h',toks:=tk}) E s):
  wpAny (model prog w) A (call (.builtin "min") [x]) Q E s:=by
 have r:(toString "min"++toString ".loop":String)= "min.loop":=by decide
 refine aaj F.kind_min F.plain_min F.entry_min (F.args_min1 _) ?_;show wpAny _ A.in1 (Builtin.Builtins.bindParams "min" ["key","default"] 0 ⟨[],[]⟩>>=_) _ _ s;refine Bn (Uk (show Builtin.Builtins.bindParams "min" ["key","default"] 0 ⟨[],[]⟩=pure [Ld,Ld] from rfl) ?_);refine Bn (OY ?_);refine Bn (wpAny_mono h (fun it s₂ a=> ?_) fun _ _ e=>e);obtain⟨I,fp,wr,n,P,St,bt,h0,rfl,W,q,c,hn,m,d,l,g⟩:=a;refine Bn (P8 ?_);have j:s₂.heap.objs.size∉fp:=fun hm=>Qq _ (c _ hm);rw[r];refine OY ⟨Rv F.plain_min_loop _,gh W bt m l s₂.heap.objs.size (vK d) j hn (W.frame _ _ _ q fun b _ o e=>Heap.get?_push_of_some _ e) (fun b o e=>Heap.get?_push_of_some _ (d b o e)) (Heap.get?_push_size _ rfl) fun v h' tk i f=> ?_⟩;exact g v h' tk i fun b o p e=>f b o p (PU (Heap.lt_size e)) (Heap.get?_push_of_some _ e)
theorem vY {a b:OW} {Q:OW->Pa->Prop}
  (h:wpAny (model prog w) A.in1 (pyIter (.ref s.heap.objs.size)) (fun it s₂=>∃I fp wr n P St bt h0,it= .ref I/\Walks prog w A.in1 I fp wr n P St/\St 0 s₂.heap/\(∀b∈fp,b<s₂.heap.objs.size)/\0<n/\E2 prog w A.in1 h0 P bt/\Kp h0 s₂.heap/\(∀b∈wr,h0.get? b=Ld)/\
   ∀v h' tk,P (argBest bt (n - 1)) v->(∀b o,b∉wr->s₂.heap.get? b=lD o->h'.get? b=lD o)->Q v {s₂ with heap:=h',toks:=tk}) E
   {s with heap:=s.heap.push {cls:= .type "tuple",data:= .seq #[a,b]}}):
  wpAny (model prog w) A (call (.builtin "min") [a,b]) Q E s:=by
 have t:(toString "min"++toString ".loop":String)= "min.loop":=by decide
 refine aaj F.kind_min F.plain_min F.entry_min (F.args_min2 _ _) ?_;show wpAny _ A.in1 (Builtin.Builtins.bindParams "min" ["key","default"] 0 ⟨[],[]⟩>>=_) _ _ s;refine Bn (Uk (show Builtin.Builtins.bindParams "min" ["key","default"] 0 ⟨[],[]⟩=pure [Ld,Ld] from rfl) ?_);show wpAny _ A.in1 (newTuple [a,b]>>=_) _ _ s;refine Bn (P8 ?_);refine Bn (wpAny_mono h (fun it s₂ c=> ?_) fun _ _ e=>e);obtain⟨I,fp,wr,n,P,St,bt,h0,rfl,W,r,d,hn,p,f,m,i⟩:=c;refine Bn (P8 ?_);have l:s₂.heap.objs.size∉fp:=fun hm=>Qq _ (d _ hm);rw[t];refine OY ⟨Rv F.plain_min_loop _,gh W bt p m s₂.heap.objs.size (vK f) l hn (W.frame _ _ _ r fun b _ o e=>Heap.get?_push_of_some _ e) (fun b o e=>Heap.get?_push_of_some _ (f b o e)) (Heap.get?_push_size _ rfl) fun v h' tk j g=> ?_⟩;exact i v h' tk j fun b o q e=>g b o q (PU (Heap.lt_size e)) (Heap.get?_push_of_some _ e)
end
end LD
namespace LD
open PySem PyProof.Rows L2 L3 L10
def V9 (ds:List D):Bool:=ds.all fun a=>a.canLay0&&decide (a.depth<=32)&&ds.all fun b=>(SD a b).isSome
def WC (ds:List D) (i j:Nat):Bool:=(SD (ds.getD i .none) (ds.getD j .none)).getD Ph
def WM (ds:List D):Nat:=argBest (WC ds) (ds.length - 1)
theorem lU {ds:List D} (h:V9 ds=Pb) {i:Nat} {a:D} (e:ds[i]? =lD a):a.canLay0=Pb/\a.depth<=32:=by unfold V9 at h;rw[Qk] at h;have:=h a (Pu e);rw[PN,PN] at this;exact⟨this.1.1,of_decide_eq_true this.1.2⟩
theorem sX {ds:List D} (h:V9 ds=Pb) {i j:Nat} {a b:D} (e:ds[i]? =lD a) (d:ds[j]? =lD b):SD a b=lD (WC ds i j):=by unfold V9 at h;rw[Qk] at h;have:=h a (Pu e);rw[PN] at this;have c:=this.2;rw[Qk] at c;have g:=c b (Pu d);unfold WC;rw[Si,Si,e,d];obtain⟨r,f⟩:=Q3.mp g;show SD a b=lD ((SD a b).getD Ph);rw[f];rfl
theorem wP {prog:PF} {w:Qc} {A:PX} {h0:Heap} {P:Nat->OW->Prop} {ds:List D} (o:A.units+32<cLine) (h:V9 ds=Pb) (l:∀i v,P i v->∃d as,ds[i]? =lD d/\RO h0 v d as):E2 prog w A h0 P (WC ds):=by intro i j g f s Q E hi p k q;obtain⟨a,as,e,n⟩:=l i g hi;obtain⟨b,bs,c,m⟩:=l j f p;exact FC 32 a b g f as bs A s Q _ (lU h e).2 (lU h c).2 (lU h e).1 (lU h c).1 (Reads.keeps k n) (Reads.keeps k m) o (sX h e c) q
def Fg:V->List V->Hp->VK->Prop:=fun x vs H Q=>∃a xs,x= .ref a/\vs=[]/\H a=lD (DkO a xs)/\∀p,H p=Ld->Q (.ref p) (upd H p (Ly p a))
theorem uw {prog:PF} {w:Qc} (d:Pc) (a:(d==QO)=Ph):MeetsIn prog w (Builtin.«dict.values» ⟨[.ref d],[]⟩) (fun _ R s=>s.TypeIs (.ref d) "dict"/\R (.ok (.ret (.ref s.heap.objs.size))) {s with heap:=s.heap.push {cls:= .type "dict_values",data:= .fields #[.ref d]}}):=
 .of_wp fun A R s ⟨b,h⟩=>by refine Bn ?_;unfold Builtin.Dict.noArgs;refine Bn (RB b ?_);show wpAny _ _ (pure d) _ _ s;refine OY ?_;show wpAny _ _ (Builtin.Dict.showsAll d>>=_) _ _ s;unfold Builtin.Dict.showsAll;rw[if_neg (by rw[a];exact Pt)];exact Bn (OY (Bn (P8 (OY ⟨_,rfl,h⟩))))
theorem yp {X:Cx}:Oz X "dict.values" Fg:=by intro f s j H x xs v l Q I g c h;obtain⟨a,ys,rfl,rfl,e,q⟩:=h;cases g;cases c;obtain⟨d,_,i⟩:=j4 I e;refine Yp TJ d PySem.F.entry_dict_values (PySem.F.args_dict_values_1 _) (uw a i) ⟨d,?_⟩;exact⟨.ref s.heap.objs.size,_,I.laid (t':=s.toks) (o:=Ly s.heap.objs.size a) (fun b o e=>Heap.get?_push_of_some _ e) (O8 _) (MB ⟨_,Heap.get?_push_size _ rfl,rfl,rfl⟩),rfl,q _ (I.Ro.fresh (O8 _))⟩
def IG (K:OK):List V->Hp->VK->Prop:=fun xs H Q=>∃(p a:Pc) (ys:List (KD×Pc×V)) (ds:List D),xs=[.ref p]/\H p=lD (Ly p a)/\H a=lD (DkO a ys)/\L2.QV K H (ys.map (·.2.2)) ds/\0<ds.length/\V9 ds=Pb/\∀(v:V) (d:D),(ys.map (·.2.2))[WM ds]? =lD v->ds[WM ds]? =lD d->L2.DV K H v d->Q v H
theorem xL {K:OK} {H:Hp}:∀{vs:List V} {ds:List D} {i:Nat} {v:V},L2.QV K H vs ds->vs[i]? =lD v->∃d,ds[i]? =lD d/\L2.DV K H v d
 |_,_,0,_,.cons h _,e=>by cases e;exact⟨_,rfl,h⟩
 |_,_,n+1,_,.cons _ t,e=>by obtain⟨d,h1,a⟩:=xL (i:=n) t (by simpa using e);exact⟨d,by simpa using h1,a⟩
theorem uc {K:OK} {H:Hp}:∀{vs:List V} {ds:List D},L2.QV K H vs ds->vs.length=ds.length
 |_,_,.nil=>rfl
 |_,_,.cons _ t=>by rw[Pf,Pf,uc t]
theorem zL {vs:List V} {a:List OW} {i:Nat} {u:OW} (h:Vals vs a) (e:a[i]? =lD u):∃v,vs[i]? =lD v/\RelV v u:=by
 induction h generalizing i with
 |nil=>simp at e
 |cons r _ b=>
  cases i with
  |zero=>simp at e;subst e;exact⟨_,rfl,r⟩
  |succ n=>obtain⟨v,h1,c⟩:=b (i:=n) (by simpa using e);exact⟨v,by simpa using h1,c⟩
theorem Ay:∀{xs:List (KD×Pc×V)} {ys:List (KD×Pc×OW)},RX xs ys->Vals (xs.map (·.2.2)) (ys.map (·.2.2))
 |_,_,.nil=> .nil
 |_,_,.cons h t=> .cons h.2.2 (Ay t)
theorem X3 {X:Cx} (Y:X.calm=Pb) (hu:X.A.units+64<cLine):iG X (.builtin "min") (IG X.K):=by
 intro F s σ H xs us Q I r h;obtain⟨p,a,ys,ds,rfl,ep,e,E,h0,T,q⟩:=h;obtain⟨u,rfl,N⟩:=nF r;cases N;obtain⟨M,_,_⟩:ObjOk X.prog X.w H s.heap p (Ly p a):=I.Ro p _ ep;obtain⟨⟨⟨z,hd,nd⟩,o,es,L,J,g2,g3,g4⟩,_⟩:=(show ObjOk X.prog X.w H s.heap a (DkO a ys) from I.Ro a _ e);obtain⟨g,G,S⟩:=FP (P:=X.prog) g4;have m:=Ay G;have t:ds.length=g.length:=by rw[<-uc E,OX,Paired.length G]
 have n:Vm s.heap a (g.map fun y=>((),y.2.2)) L:=⟨o,es,J,g2,g3,trivial,⟨by rw[S,Qf,Qf];rfl⟩,trivial⟩;refine tO (lG (A:=X.A.in1) M n ?_);have la:a<s.heap.objs.size:=Heap.lt_size J;refine⟨_,_,_,_,_,_,_,s.heap,rfl,Bc (A:=X.A.in1) (I.ok.hd Y) s.heap.objs.size a (PU la) (g.map fun y=>((),y.2.2)) L,⟨⟨_,Heap.get?_push_size _ rfl,rfl,rfl⟩,n.at' fun o e=>Heap.get?_push_of_some _ e⟩,fun b f=> ?_,by rw[OX];omega,wP (ds:=ds) (by rw[PX.in1_units];omega) T (fun i v c=> ?_),fun b o e=>Heap.get?_push_of_some _ e,fun b f=> ?_,fun v h' tk Z U=> ?_⟩
 .show b<(s.heap.push _).objs.size
  rw[Heap.size_push];rcases Py.mp f with rfl|f
  .exact Q6 _
  .rcases Py.mp f with rfl|f
   .exact S1 la
   .cases f
 .obtain⟨k,c⟩:=c
  rw[Pg] at c;have j:(g.map (·.2.2))[i]? =lD v:=by
   rw[Pg];cases q:g[i]? with
   |none=>rw[q] at c;cases c
   |some y=>rw[q] at c;cases c;rfl
  obtain⟨x,l,B⟩:=zL m j;obtain⟨d,C,dx⟩:=xL E l;obtain⟨as,O⟩:=L2.DV.reads I dx B;exact⟨d,as,C,O⟩
 .rcases Py.mp f with rfl|f
  .cases q:s.heap.get? s.heap.objs.size with
   |none=>rfl
   |some o=>exact absurd (Heap.lt_size q) (Qq _)
  .cases f
 .obtain⟨k,c⟩:=Z
  rw[Pg] at c;have j:(g.map (·.2.2))[WM ds]? =lD v:=by
   rw[OX,<-t] at c;rw[Pg];show Xp _ g[argBest (WC ds) (ds.length - 1)]? =lD v;cases q:g[argBest (WC ds) (ds.length - 1)]? with
   |none=>rw[q] at c;cases c
   |some y=>rw[q] at c;cases c;rfl
  obtain⟨x,l,B⟩:=zL m j;obtain⟨d,C,dx⟩:=xL E l;refine⟨x,H,I.kept (fun b o e=>U b o (fun hm=> ?_) (Heap.get?_push_of_some _ e)),B,q x d l C dx⟩;rcases Py.mp hm with l|hm
  .exact absurd (l▸Heap.lt_size e) (Qq _)
  .cases hm
def IP (K:OK):List V->Hp->VK->Prop:=fun xs H Q=>∃(x y:V) (d e:D),xs=[x,y]/\L2.DV K H x d/\L2.DV K H y e/\V9 [d,e]=Pb/\Q (if SD e d=lD Pb then y else x) H
theorem Wb {X:Cx} (M:X.calm=Pb) (Y:X.A.units+64<cLine):iG X (.builtin "min") (IP X.K):=by
 intro p s T H xs F Q I r h;obtain⟨x,y,d,e,rfl,dx,P,C,q⟩:=h;obtain⟨u,v,rfl,m,rv⟩:∃u v,F=[u,v]/\RelV x u/\RelV y v:=by
  cases r with
  |cons a b=>cases b with
   |cons b c=>cases c;exact⟨_,_,rfl,a,b⟩
 obtain⟨S,J⟩:=L2.DV.reads I dx m;obtain⟨bs,G⟩:=L2.DV.reads I P rv;have B:(s.heap.push {cls:= .type "tuple",data:= .seq #[u,v]}).IsTuple s.heap.objs.size #[u,v]:=⟨_,Heap.get?_push_size _ rfl,rfl,_,rfl⟩;refine vY (UU B ?_);have sz:(s.heap.push {cls:= .type "tuple",data:= .seq #[u,v]}).objs.size=s.heap.objs.size+1:=Heap.size_push ..;refine⟨_,_,_,_,_,_,_,s.heap,rfl,Walks.tuple (A:=X.A.in1) (I.ok.hd M) _ s.heap.objs.size (by rw[sz];exact PU (Q6 _)) #[u,v],⟨⟨_,Heap.get?_push_size _ rfl,rfl,rfl⟩,B.push _⟩,fun b f=> ?_,(show 0<2 from by decide),wP (ds:=[d,e]) (by rw[PX.in1_units];omega) C (fun i w g=> ?_),fun b o e=>Heap.get?_push_of_some _ (Heap.get?_push_of_some _ e),fun b f=> ?_,fun w N U l L=> ?_⟩
 .show b<((s.heap.push _).push _).objs.size
  rw[Heap.size_push,sz];rcases Py.mp f with rfl|f
  .rw[sz];exact Q6 _
  .rcases Py.mp f with rfl|f
   .exact S1 (Q6 _)
   .cases f
 .match i,g with
  |0,g=>cases g;exact⟨d,S,rfl,J⟩
  |1,g=>cases g;exact⟨e,bs,rfl,G⟩
  |n+2,g=>cases g
 .rcases Py.mp f with rfl|f
  .rw[sz]
   cases q:s.heap.get? (s.heap.objs.size+1) with
   |none=>rfl
   |some o=>exact absurd (Heap.lt_size q) (Zp (Q6 _))
  .cases f
 .have t:∀b o,s.heap.get? b=lD o->N.get? b=lD o:=fun b o e=>by
   refine L b o (fun hm=> ?_) (Heap.get?_push_of_some _ (Heap.get?_push_of_some _ e));have:=Heap.lt_size e;rcases Py.mp hm with e1|hm
   .rw[sz] at e1;rw[e1] at this;exact absurd this (Zp (Q6 _))
   .cases hm
  have Z:WC [d,e] 1 0=(SD e d).getD Ph:=rfl;have l:(#[u,v]:Array OW)[argBest (WC [d,e]) 1]? =lD w:=l;have O:argBest (WC [d,e]) 1=if WC [d,e] 1 0=Pb then 1 else 0:=rfl
  have E:=sX C (i:=1) (j:=0) (a:=e) (b:=d) rfl rfl;rw[O] at l;cases z:WC [d,e] 1 0 with
  |true=>rw[z,if_pos rfl] at l;cases l;rw[E,z,if_pos rfl] at q;exact⟨y,H,I.kept t,rv,q⟩
  |false=>rw[z,if_neg (by simp)] at l;cases l;rw[E,z,if_neg (by simp)] at q;exact⟨x,H,I.kept t,m,q⟩
def Ir (d:TE):TE:=fun c H Q=>d c H fun x b=>∃a xs,x= .ref a/\b a=lD (DkO a xs)/\∀p,b p=Ld->Q (.bl (!xs.isEmpty)) (upd b p (DkO p []))
theorem KK {prog:PF} {w:Qc} {A:PX} {E:OW->Pa->Prop} {s:Pa} {a b:Pc} {f e:Obj} {c:Array QT} {na nb:Nat} {Q:OW->Pa->Prop} (ha:(a==QO)=Ph) (hb:(b==QO)=Ph) (h1:s.heap.get? a=lD f) (m:f.ExactDict) (g:f.data= .dict c na) (i:s.heap.get? b=lD e) (o:e.ExactDict) (n:e.data= .dict #[] nb) (l:A.units<cLine) (h:Q (.bool (!c.isEmpty)) s):
  wpAny (model prog w) A (Rf .NotEq (.ref a) (.ref b)) Q E s:=by
 have d:s.TypeIs (.ref a) "dict":=⟨_,h1,m.1⟩;have tB:s.TypeIs (.ref b) "dict":=⟨_,i,o.1⟩;refine WV (op:= .NotEq) d tB WJ (QM WJ d PySem.F.entry_dict_ne ?_ (PySem.F.args_dict_ne_2 _ _)) l;show wpAny _ _ (Builtin.Dict.dictSlotArgs "__ne__" ⟨[.ref a,.ref b],[]⟩>>=_) _ _ s;refine Bn ?_;unfold Builtin.Dict.dictSlotArgs;refine Bn (RB d ?_);show wpAny _ _ (pure (OW.ref a,OW.ref b)) _ _ s;refine OY ?_;refine Bn (Rz (T:= "dict") tB PySem.F.sub_dict_dict ?_);simp only[Q7,Pj,if_false];refine Bn (OY (Bn (OY ?_)));unfold Builtin.Dict.samePairs Builtin.Dict.showsAll;rw[if_neg (by rw[ha];exact Pt),if_neg (by rw[hb];exact Pt)];refine Bn (Bn (OY (Bn (OY ?_))));refine Bn (QP h1 g ?_);refine Bn (QP i n ?_);cases q:c.isEmpty with
 |true=>rw[Vb] at q;subst q;show wpAny _ _ (dictEpoch a>>=_) _ _ s;refine Bn (Sf h1 g ?_);refine Bn (Uk (a:=(Ld,())) (by simp) ?_);exact OY (OY ⟨_,rfl,(fun x=>nomatch x),h⟩)
 |false=>
  rw[q] at h;have j:c.size≠0:=fun z=>by rw[VY] at q;exact q (Vo z)
  show wpAny _ _ (if(c.size !=0)=Pb then _ else _) _ _ s;rw[if_pos (by simpa using j)];exact Bn (UJ (OY (OY ⟨_,rfl,(fun x=>nomatch x),h⟩)))
theorem ZH {X:Cx} {o:Qn} {t:TE} {pos:Pos} (hu:X.A.units+64<cLine) (N:PE X o t):PC X .NotEq o (.Dict [] [] pos) (Ir t):=by
 intro b s q H Q I h;refine cg (N b s q H _ I h) fun u F ⟨x,f,I1,J,a,xs,Z,e,K⟩=> ?_;subst Z;obtain rfl:u=OW.ref a:=J;refine cg (VL (pos:=pos) b F q f (fun y E=>∃p,f p=Ld/\y= .ref p/\E=upd f p (DkO p [])) I1 (fun p d=>⟨p,d,rfl,rfl⟩)) fun v B ⟨y,E,n,G,p,d,Y,eH⟩=> ?_;subst Y eH;obtain rfl:v=OW.ref p:=G;have e2:(upd f p (DkO p [])) a=lD (DkO a xs):=by rw[aA (cF e d)];exact e
 obtain⟨⟨⟨z,O,nd⟩,o1,m,en,U,T,S,P⟩,_⟩:=(show ObjOk X.prog X.w _ B.heap a (DkO a xs) from n.Ro a _ e2);obtain⟨⟨⟨z',ZA,M⟩,L,C,en',j,i,g,c⟩,_⟩:=(show ObjOk X.prog X.w _ B.heap p (DkO p []) from n.Ro p _ aD);have e0:C= #[]:=by generalize hq:C.toList=l at c;cases c;exact Array.toList_eq_nil_iff.mp hq
 subst e0;refine KK O ZA U T S j i g (by omega) ⟨.bl _,_,n,rfl,?_⟩;have:m.isEmpty=xs.isEmpty:=by
  have:=Paired.length P;cases xs with
  |nil=>show m.isEmpty=Pb;rw[Vb];exact Vo (by simpa using this.symm)
  |cons x r=>show m.isEmpty=Ph;rw[VY];intro z;subst z;simp at this
 rw[this];exact K p d
def zY (b:TE):TE:=fun a H Q=>b a H fun x c=>Fg x [] c Q
theorem XY {X:Cx} {o:Qn} {g:TE} {c j:Pos} (p:PE X o g) (r:attributeBase o "values" X.env (eval o X.env)=eval o X.env) (t:(c.endLine==j.line)=Pb):PE X (.Call (.Attribute o "values" c) [] [] j) (zY g):=by intro b s f H Q I h;refine wpAny_Call_method0_late r t (cg (p b s f H _ I h) fun v m ⟨x,u,l,n,i⟩=> ?_);have d:=i;obtain⟨a,xs,rfl,_,e,_⟩:=d;obtain rfl:v=OW.ref a:=n;obtain⟨h1,q,_⟩:=j4 l e;exact⟨"dict","dict.values",Sz,TJ,VZ,h1,q,Calls.callWith_builtin rfl (PySem.evalArgs_none (yp b m f u (.ref a) [] _ [] Q l rfl .nil i))⟩
end LD
namespace L10
open PySem PyProof.Rows L2 L3 LD
def ik:SV->Option D
 | .fz d=>if keyD d=Pb then lD d else Ld
 |_=>Ld
def G9:SV->Option D
 | .fz d=>lD d
 |_=>Ld
def gZ (ω:aW):SV->Option (Nat×List (D×D))
 | .rf i=>match ω[i]? with
  |some (.dd kvs)=>lD (i,kvs)
  |_=>Ld
 |_=>Ld
def bS (kvs:List (D×D)) (k:D):Option D:=(kvs.find? fun a=>O9.eqv a.1 k).map (·.2)
def jP (kvs:List (D×D)) (k v:D):List (D×D):=if(kvs.find? fun a=>O9.eqv a.1 k).isSome=Pb then kvs.map (fun a=>if O9.eqv a.1 k=Pb then(a.1,v) else a) else kvs++[(k,v)]
def kI (kvs:List (D×D)) (k:D):List (D×D):=kvs.filter fun a=> !O9.eqv a.1 k
section
variable {B O O':bF} {K:OK} {E:XK} {H H' T S:Hp} {U α' Z Y:List Pc} {ω ω' ω1 ω2:aW} {X:L2.St} {ρ:aX} {v:V} {k:KD}
theorem jE (e:ik x=lD d) (h:Tf O K H U v x):∃(k:KD) (b:Pc),k.1=d/\v= .ref b/\L3.DV O K H (.ref b) d:=by
 cases x with
 |fz z=>
  have e:(if keyD z=Pb then lD z else Ld)=lD d:=e;by_cases a:keyD z=Pb
  .rw[if_pos a] at e
   cases e;have h:=h;cases d with
   |tuple xs=>cases h with
    |tup h1 c=>exact⟨⟨_,a⟩,_,rfl,rfl,.tup h1 c⟩
   |_=>simp[keyD] at a
  .rw[if_neg a] at e;cases e
 |rf i=>cases e
 |tp l=>cases e
theorem ku (s:P5 B K H U ω) (f:Tf (ow B U ω) K H U v x) (h:gZ ω x=lD (i,kvs)):ω[i]? =lD (.dd kvs)/\∃a xs,U[i]? =lD a/\v= .ref a/\H a=lD (DkO a xs)/\PrD (ow B U ω) K H xs kvs:=by
 cases x with
 |fz d=>cases h
 |tp l=>cases h
 |rf j=>
  obtain⟨a,ha,rfl⟩:=f;unfold gZ at h;dsimp only at h;cases q:ω[j]? with
  |none=>rw[q] at h;cases h
  |some c=>
   rw[q] at h;cases c with
   |dd ys=>have e:=PK h;cases e;obtain⟨b,h1,g⟩:=s.Wc i a _ ha q;exact⟨q,a,b,ha,rfl,h1,g⟩
   |_=>cases h
theorem pf:∀{xs:List (KD×Pc×V)} {kvs:List (D×D)},PrD O K H xs kvs->mZ K H xs
 |_,_,.nil=>fun _ h=>nomatch h
 |x::xs,kv::kvs,.cons h t=>fun y a=>by
  rcases Py.mp a with e|a
  .subst e;rw[h.1];exact h.2.1.plain
  .exact pf t y a
theorem oN {x:KD×Pc×V} {a:D×D} (h:x.1.1=a.1):decide (x.1=k)=O9.eqv a.1 k.1:=by
 rw[<-h]
 haveI:Decidable (x.1.1=k.1):=Classical.propDecidable _
 rw[CB (dA x.1.2).1 (dA k.2).1];by_cases e:x.1=k
 .rw[decide_eq_true e,decide_eq_true (congrArg Subtype.val e)]
 .rw[decide_eq_false e,decide_eq_false fun z=>e (Subtype.ext z)]
theorem iA:∀{xs:List (KD×Pc×V)} {kvs:List (D×D)},PrD O K H xs kvs->(∀d,bS kvs k.1=lD d->∃v,kr xs k=lD v/\L3.DV O K H v d)/\(bS kvs k.1=Ld->kr xs k=Ld)
 |_,_,.nil=>⟨fun x e=>(by cases e),fun _=>rfl⟩
 |x::xs,kv::kvs,.cons h t=>by
  unfold bS kr;rw[PL,PL,oN h.1];cases O9.eqv kv.1 k.1 with
  |true=>exact⟨fun d e=>⟨x.2.2,rfl,by cases e;exact h.2.2⟩,fun e=>by cases e⟩
  |false=>exact iA t
theorem yK (h:PrD O K H xs kvs):(kr xs k).isSome=(bS kvs k.1).isSome:=by
 obtain⟨h1,a⟩:=iA h;cases q:bS kvs k.1 with
 |none=>rw[a q];rfl
 |some x=>obtain⟨u,e,_⟩:=h1 x q;rw[e];rfl
theorem Dg:∀{xs:List (KD×Pc×V)} {kvs:List (D×D)},PrD O K H xs kvs->(xs.find? fun x=>decide (x.1=k)).isSome=(kvs.find? fun kv=>O9.eqv kv.1 k.1).isSome
 |_,_,.nil=>rfl
 |x::xs,kv::kvs,.cons h t=>by
  rw[PL,PL,oN h.1];cases O9.eqv kv.1 k.1 with
  |true=>rfl
  |false=>exact Dg t
theorem IM (a:L3.DV O K H v d):∀{xs:List (KD×Pc×V)} {kvs:List (D×D)},PrD O K H xs kvs->PrD O K H (xs.map fun x=>if x.1=k then(x.1,x.2.1,v) else x) (kvs.map fun kv=>if O9.eqv kv.1 k.1=Pb then(kv.1,d) else kv)
 |_,_,.nil=> .nil
 |x::xs,kv::kvs,.cons h t=>by
  rw[Pd,Pd];refine .cons ?_ (IM a t);have e:=oN (k:=k) h.1;by_cases z:x.1=k
  .rw[if_pos z,if_pos (by rw[<-e];exact decide_eq_true z)];exact⟨h.1,h.2.1,a⟩
  .rw[if_neg z,if_neg (by rw[<-e,decide_eq_false z];simp)];exact h
theorem v4 (r:x.1.1=kv.1/\L3.DV O K H (.ref x.2.1) kv.1/\L3.DV O K H x.2.2 kv.2):∀{xs:List (KD×Pc×V)} {kvs:List (D×D)},PrD O K H xs kvs->PrD O K H (xs++[x]) (kvs++[kv])
 |_,_,.nil=> .cons r .nil
 |_,_,.cons g t=> .cons g (v4 r t)
theorem wL (hb:L3.DV O K H (.ref b) k.1) (a:L3.DV O K H v d) (h:PrD O K H xs kvs):PrD O K H (k6 xs k b v) (jP kvs k.1 d):=by
 unfold k6 jP;rw[Dg h];split
 .exact IM a h
 .exact v4 ⟨rfl,hb,a⟩ h
theorem nj:∀{xs:List (KD×Pc×V)} {kvs:List (D×D)},PrD O K H xs kvs->PrD O K H (nk xs k) (kI kvs k.1)
 |_,_,.nil=> .nil
 |x::xs,kv::kvs,.cons h t=>by
  unfold nk kI;rw[QG,QG];have e:=oN (k:=k) h.1;by_cases z:x.1=k
  .rw[decide_eq_true z] at e;rw[if_neg (by simpa using z),if_neg (by rw[<-e];simp)];exact nj t
  .rw[decide_eq_false z] at e;rw[if_pos (by simpa using z),if_pos (by rw[<-e];rfl)];exact .cons h (nj t)
theorem yR (e:Ev O H O' H') (h:PrD O K H xs kvs):PrD O' K H' xs kvs:=Paired.TR h fun _ _ q=>⟨q.1,q.2.1.ev e,q.2.2.ev e⟩
theorem vW:∀{xs:List (KD×Pc×V)} {kvs:List (D×D)},PrD O K H xs kvs->L3.QV O K H (xs.map (·.2.2)) (kvs.map (·.2))
 |_,_,.nil=> .nil
 |_,_,.cons h t=> .cons h.2.2 (vW t)
def pA (neg:Bool) (fk fd:cE):cE:=fun ρ ω=>(fk ρ ω).bind fun x ω1=>(fd ρ ω1).bind fun o ω2=>(RS.Qi ω2 (ik x)).bind fun k ω2=>(RS.Qi ω2 (gZ ω2 o)).bind fun p ω2=> .ok (.fz (.bool ((bS p.2 k).isSome !=neg))) ω2
theorem qk (q:cZ K E tk fk) (r:cZ K E td fd):cZ K E (Io K neg tk td) (pA neg fk fd):=by intro B X H U ω ρ Q s e w;refine q B X H U ω ρ _ s e (w.bind.imp fun x Z ω1 T C j h v n=> ?_);refine r B X T Z ω1 ρ _ j (e.Sr C) (h.bind.imp fun o Y ω2 S A f c u p=> ?_);obtain⟨d,m,c⟩:=WS.Qi c;obtain⟨⟨i,kvs⟩,l,c⟩:=WS.Qi c;obtain⟨_,a,xs,ha,rfl,z,g⟩:=ku f p l;obtain⟨k,b,rfl,rfl,t⟩:=jE m (n.Sr A);refine⟨a,b,xs,k,rfl,rfl,z,pf g,t.plain,?_⟩;rw[yK g];exact WS.now f c _ (.bl _)
def iR (fd fk:cE):cE:=fun ρ ω=>(fd ρ ω).bind fun o ω1=>(fk ρ ω1).bind fun x ω2=>(RS.Qi ω2 (ik x)).bind fun k ω2=>(RS.Qi ω2 (gZ ω2 o)).bind fun p ω2=>(RS.Qi ω2 (bS p.2 k)).bind fun d ω2=> .ok (.fz d) ω2
theorem mH (C:cZ K E td fd) (A:cZ K E tk fk):cZ K E (D0 K td tk) (iR fd fk):=by intro B X H U ω ρ Q s e w;refine C B X H U ω ρ _ s e (w.bind.imp fun o Z ω1 T J l h u t=> ?_);refine A B X T Z ω1 ρ _ l (e.Sr J) (h.bind.imp fun x Y ω2 S I f c v r=> ?_);obtain⟨d,p,c⟩:=WS.Qi c;obtain⟨⟨i,kvs⟩,n,c⟩:=WS.Qi c;obtain⟨_,a,xs,ha,rfl,G,g⟩:=ku f (t.Sr I) n;obtain⟨k,b,rfl,rfl,F⟩:=jE p r;obtain⟨y,m,c⟩:=WS.Qi c;obtain⟨z,q,j⟩:=(iA g).1 y m;exact⟨a,b,xs,k,z,rfl,rfl,G,pf g,F.plain,q,WS.now f c z j⟩
def pF (fd fk b:cE):gF:=fun ρ ω=>(b ρ ω).bind fun y ω1=>(fd ρ ω1).bind fun o ω2=>(fk ρ ω2).bind fun x a=>(RS.Qi a (ik x)).bind fun k a=>(RS.Qi a (gZ a o)).bind fun p a=>(RS.Qi a (G9 y)).bind fun d a=>if p.2.length<1000000 then .ok (.nx ρ) (a.set p.1 (.dd (jP p.2 k d))) else .bad
theorem CP (e:G9 x=lD d) (h:Tf O K H U v x):L3.DV O K H v d:=by
 cases x with
 |fz z=>cases e;exact h
 |rf i=>cases e
 |tp l=>cases e
theorem rQ (hd:cZ K E td fd) (hk:cZ K E tk fk) (hv:cZ K E tv fv):p0 K E (Ei K td tk tv) (pF fd fk fv):=by
 intro B X H U ω ρ D s g w;refine hv B X H U ω ρ _ s g (WS.imp (WS.bind w) fun y Z ω1 T q J G r l=> ?_);refine hd B X T Z ω1 ρ _ J (g.Sr q) (WS.imp (WS.bind G) fun o Y ω2 S p I F u hu=> ?_);refine hk B X S Y ω2 ρ _ I (g.Sr (q.trans p)) (WS.imp (WS.bind F) fun x c f h n t e z P=> ?_);obtain⟨kd,N,e⟩:=WS.Qi e;obtain⟨⟨i,kvs⟩,M,e⟩:=WS.Qi e;obtain⟨d,L,e⟩:=WS.Qi e;obtain⟨j,a,xs,ha,rfl,g1,m⟩:=ku t (hu.Sr n) M;obtain⟨k,b,rfl,rfl,A⟩:=jE N P;have Q:=CP L (l.Sr (p.trans n));dsimp only at e;by_cases hn:kvs.length<1000000
 .rw[if_pos hn] at e;have ev:Ev (ow B c f) h (ow B c f) (upd h a (DkO a (k6 xs k b r))):=tY ha j (by intro z;cases z);have C:Ru c f h c (f.set i (.dd (jP kvs k.1 d))) (upd h a (DkO a (k6 xs k b r))):=Ru.put ha j (by intro z;cases z) (by intro z;cases z);have hl:=Paired.length m;refine⟨a,b,xs,k,rfl,rfl,g1,pf m,A.plain,rR (by omega),?_⟩;exact e c _ C (t.put ha j (by intro z;cases z) (by intro z;cases z) ⟨_,aD,wL (A.ev ev) (Q.ev ev) (yR ev m)⟩) X ((g.Sr (q.trans (p.trans n))).Sr C)
 .rw[if_neg hn] at e;exact e.elim
def ox (fd fk fx:cE):cE:=fun ρ ω=>(fd ρ ω).bind fun o ω1=>(RS.Qi ω1 (gZ ω1 o)).bind fun _ ω1=>(fk ρ ω1).bind fun x ω2=>(fx ρ ω2).bind fun z a=>(RS.Qi a (ik x)).bind fun k a=>(RS.Qi a (gZ a o)).bind fun p a=> .ok (match bS p.2 k with|some d=> .fz d|none=>z) a
theorem yo (hd:cZ K E td fd) (hk:cZ K E tk fk) (N:cZ K E tx fx):cZ K E (z5 K td tk tx) (ox fd fk fx):=by
 intro B X H U ω ρ Q s g w;refine hd B X H U ω ρ _ s g (w.bind.imp fun o Z ω1 T t l f u m=> ?_);obtain⟨⟨i0,YZ⟩,L,f⟩:=WS.Qi f;obtain⟨_,a,Zh,_,rfl,g0,_⟩:=ku l m L;refine⟨a,Zh,rfl,g0,?_⟩;refine hk B X T Z ω1 ρ _ l (g.Sr t) (f.bind.imp fun x Y ω2 S r G F v P=> ?_);refine N B X S Y ω2 ρ _ G (g.Sr (t.trans r)) (F.bind.imp fun z C A H3 p j c vz M=> ?_);obtain⟨d,J,c⟩:=WS.Qi c;obtain⟨⟨i,kvs⟩,I,c⟩:=WS.Qi c;obtain⟨_,a',xs,ha,ea,g1,n⟩:=ku j (m.Sr (r.trans p)) I;cases ea;obtain⟨k,b,rfl,rfl,hb⟩:=jE J (P.Sr p);refine⟨b,xs,k,rfl,g1,pf n,hb.plain,WS.now j c _ ?_⟩;obtain⟨h1,h2⟩:=iA n;dsimp only;cases q:bS kvs k.1 with
 |none=>rw[h2 q];exact M
 |some y=>obtain⟨u,e,h⟩:=h1 y q;rw[e];exact h
def u5 (fd fk:cE):cE:=fun ρ ω=>(fd ρ ω).bind fun o ω1=>(RS.Qi ω1 (gZ ω1 o)).bind fun _ ω1=>(fk ρ ω1).bind fun x ω2=>(RS.Qi ω2 (ik x)).bind fun k ω2=>(RS.Qi ω2 (gZ ω2 o)).bind fun p ω2=>(RS.Qi ω2 (bS p.2 k)).bind fun d ω2=> .ok (.fz d) (ω2.set p.1 (.dd (kI p.2 k)))
theorem Bf (I:cZ K E td fd) (G:cZ K E tk fk):cZ K E (Ey K td tk) (u5 fd fk):=by intro B X H U ω ρ Q s h w;refine I B X H U ω ρ _ s h (w.bind.imp fun o Z ω1 T e1 l e u m=> ?_);obtain⟨⟨i0,YZ⟩,A,e⟩:=WS.Qi e;obtain⟨_,a,Zh,_,rfl,M,_⟩:=ku l m A;refine⟨a,Zh,rfl,M,?_⟩;refine G B X T Z ω1 ρ _ l (h.Sr e1) (e.bind.imp fun x Y ω2 S P j c v F=> ?_);obtain⟨d,t,c⟩:=WS.Qi c;obtain⟨⟨i,kvs⟩,r,c⟩:=WS.Qi c;obtain⟨f,a',xs,ha,N,L,g⟩:=ku j (m.Sr P) r;cases N;obtain⟨k,b,rfl,rfl,J⟩:=jE t F;obtain⟨y,q,c⟩:=WS.Qi c;obtain⟨z,C,p⟩:=(iA g).1 y q;have ev:Ev (ow B Y ω2) S (ow B Y ω2) (upd S a (DkO a (nk xs k))):=tY ha f (by intro z;cases z);have n:Ru Y ω2 S Y (ω2.set i (.dd (kI kvs k.1))) (upd S a (DkO a (nk xs k))):=Ru.put ha f (by intro z;cases z) (by intro z;cases z);refine⟨b,xs,k,z,rfl,L,pf g,J.plain,C,?_⟩;exact c Y _ n (j.put ha f (by intro z;cases z) (by intro z;cases z) ⟨_,aD,nj (yR ev g)⟩) z (Tf.Sr n p)
def ua:cE:=fun _ ω=> .ok (.rf ω.length) (ω++[.dd []])
theorem sf:cZ K E Dz ua:=by intro B X H U ω ρ Q s b w;exact fun p a=>pN s a w fun _=>⟨[],aD,.nil⟩
def AC (fd:cE):cE:=fun ρ ω=>(fd ρ ω).bind fun o ω1=>(RS.Qi ω1 (gZ ω1 o)).bind fun p ω1=> .ok (.fz (.bool (!p.2.isEmpty))) ω1
theorem Ez (j:cZ K E td fd):cZ K E (Ir td) (AC fd):=by
 intro B X H U ω ρ Q s e w;refine j B X H U ω ρ _ s e (w.bind.imp fun o Z ω1 T q d b u g=> ?_);obtain⟨⟨i,kvs⟩,f,b⟩:=WS.Qi b;obtain⟨_,a,xs,ha,rfl,m,l⟩:=ku d g f;refine⟨a,xs,rfl,m,fun p h=> ?_⟩;have c:Rg T (upd T p (DkO p [])):=bU h _;have n:xs.isEmpty=kvs.isEmpty:=by cases l<;>rfl
 rw[n];exact b Z _ (Ru.same c) (d.grow c) _ (.bl _)
def uB (fd:cE):cE:=fun ρ ω=>(fd ρ ω).bind fun o ω1=>(RS.Qi ω1 (gZ ω1 o)).bind fun p ω1=>if V9 (p.2.map (·.2))=Pb then(RS.Qi ω1 (p.2.map (·.2))[WM (p.2.map (·.2))]?).bind fun d ω1=> .ok (.fz d) ω1 else .bad
theorem Bs (C:cZ K E td fd):cZ K E (G8 (IG K) (gQ (zY td) qw)) (uB fd):=by
 intro B X H U ω ρ Q s m w;refine C B X H U ω ρ _ s m (w.bind.imp fun o Z ω1 T J g b u t=> ?_);obtain⟨⟨i,kvs⟩,q,b⟩:=WS.Qi b;obtain⟨_,a,xs,ha,rfl,l,G⟩:=ku g t q;refine⟨a,xs,rfl,rfl,l,fun p z=> ?_⟩;have c:Rg T (upd T p (Ly p a)):=bU z _;have n:=g.grow c;dsimp only at b;by_cases e:V9 (kvs.map (·.2))=Pb
 .rw[if_pos e] at b
  obtain⟨d,h,b⟩:=WS.Qi b;have j:=(vW G).ev (Ev.grow c);have A:0<(kvs.map (·.2)).length:=by
   cases kvs with
   |nil=>cases h
   |cons x r=>rw[Pd,Pf];omega
  refine⟨p,a,xs,kvs.map (·.2),rfl,aD,c _ _ l,j.plain,A,e,fun v L ev f _=> ?_⟩;obtain⟨I,h1,F⟩:=j.get f;rw[ev] at h1;cases h1;rw[h] at f;cases f;exact b Z _ (Ru.same c) n _ F
 .rw[if_neg e] at b;exact b.elim
end
end L10
namespace PySem
open Sem (wp)
namespace F
theorem Wn:typeLookup (.type "list") "keys"=pure Ld:=by rw[Sd,Q8];kernel_rfl
theorem Wu:typeLookup (.type "list") "__getattr__"=pure Ld:=by rw[Sd,Q8];kernel_rfl
end F
section
variable {prog:PF} {w:Qc} {A:PX} {E:OW->Pa->Prop} {h:Heap} {g:Array VT} {d:aaS} {t:Nat} {Z:aaU} {a:Pc} {o:Obj}
theorem nM {c:Tok} {Q:Fin->Pa->Prop} {E:OW->Pa->Prop} {m:Array OW} {n:Nat} {f:Array (Option OW)} (i:h.get? a=lD ⟨.type "list",Ld,.seq m n,f⟩) (l:A.handled=Ld) (j:∀e h' t',(∀b o,h.get? b=lD o->h'.get? b=lD o)->(⟨h',g,d,t',Z⟩:Pa).TypeIs e "AttributeError"->E e ⟨h',g,d,t',Z⟩):
  wpAny (model prog w) A (Builtin.«object.__getattribute__» ⟨[.ref a,.str "keys" c],[]⟩) Q E ⟨h,g,d,t,Z⟩:=by
 have p:(⟨h,g,d,t,Z⟩:Pa).TypeIs (.ref a) "list":=⟨_,i,rfl⟩;have q:=F.Wn
 repeat (any_goals (first|assumption|wp_step))
 exact pL (by decide+kernel) l j
theorem ud {c:Tok} {Q:OW->Pa->Prop} {E:OW->Pa->Prop} {r:Array OW} {n:Nat} {j:Array (Option OW)} (f:h.get? a=lD ⟨.type "list",Ld,.seq r n,j⟩) (p:A.handled=Ld) (l:∀e h' t',(∀b o,h.get? b=lD o->h'.get? b=lD o)->(⟨h',g,d,t',Z⟩:Pa).TypeIs e "AttributeError"->E e ⟨h',g,d,t',Z⟩):
  wpAny (model prog w) A (getAttrBy (.ref a) (.str "keys" c) Ph) Q E ⟨h,g,d,t,Z⟩:=by
 have q:(⟨h,g,d,t,Z⟩:Pa).TypeIs (.ref a) "list":=⟨_,f,rfl⟩;have z:=F.slot_list_getattribute.lookup;have v:=F.slot_list_getattribute.bind (.ref a);have u:=F.Wu
 repeat (any_goals (first|assumption|wp_step))
 refine Zo F.slot_list_getattribute.plain F.entry_list_ga (F.slot_list_getattribute.check _ _ _ _ _ _ _ _ q (F.args_list_getattribute_2 _ _) (nM f p fun e h' t' m i=> ?_));have fs:=F.sub_ae;show wpAny (model prog w) A (getattributeRaised (OW.ref a) (OW.str (Str.ofString "keys") c) (OW.type "list") e Ld Ph Ph) Q E _;unfold getattributeRaised;refine Bn (Rz i fs ?_)
 repeat (any_goals (first|assumption|wp_step))
 exact l e h' t' m i
theorem qu {Q:Option OW->Pa->Prop} {m:Array OW} {n:Nat} {c:Array (Option OW)} (f:h.get? a=lD ⟨.type "list",Ld,.seq m n,c⟩) (l:A.handled=Ld) (i:∀h' t',(∀b o,h.get? b=lD o->h'.get? b=lD o)->Q Ld ⟨h',g,d,t',Z⟩):
  wpAny (model prog w) A (getAttr? (.ref a) "keys") Q E ⟨h,g,d,t,Z⟩:=by
 unfold getAttr? getAttrBy?;have fs:=F.sub_ae;refine Bn ?_
 repeat (any_goals (first|assumption|(with_reducible refine ud f l fun e h' t' j p=> ?_)|wp_step))
 exact i h' t' j
end
end PySem
namespace PySem
open Sem (wp)
open PyProof.Rows
end PySem
namespace L10
open PySem PySem.Spec PyProof.Rows L2 L3
end L10
namespace PySem
open Sem (wp)
open PyProof.Rows
end PySem
namespace L10
open PySem PySem.Spec PyProof.Rows L2 L3 LD
def zi:List D->Option RV
 |[d,e]=>if V9 [d,e]=Pb then lD (.fz (if SD e d=lD Pb then e else d)) else Ld
 |_=>Ld
theorem Ct {a b:D} {l:List D} (h:a= .list l\/b= .list l):SD a b=Ld:=by rcases h with h|h<;>subst h<;>cases ‹D›<;>simp[SD]
theorem IW {O:bF} {K:OK} {H:Hp} {v:V} {d:D} (h:DX O K H v d) (n:∀l,d≠ .list l):L3.DV O K H v d:=by
 cases d with
 |list l=>exact absurd rfl (n l)
 |_=>exact h
theorem FK {K:OK}:Jd K (IP K) zi:=by
 intro O H xs ds rv Q n o e q;unfold zi at e;split at e
 .rename_i d t
  split at e
  .rename_i a
   cases e;have l1:=sX a (i:=0) (j:=0) rfl rfl;have m:=sX a (i:=1) (j:=1) rfl rfl;have g:∀z:D,(∃r,SD z z=lD r)->∀l,z≠ .list l:=fun z ⟨r,h⟩ l e=>by rw[Ct (.inl e)] at h;cases h
   cases o with
   |cons h1 b=>cases b with
    |cons b p=>
     cases p;have f:=IW h1 (g _ ⟨_,l1⟩);have c:=IW b (g _ ⟨_,m⟩);refine⟨_,_,d,t,rfl,f.plain,c.plain,a,?_⟩;split
     .rename_i z;rw[if_pos z] at q;exact q.at c
     .rename_i z;rw[if_neg z] at q;exact q.at f
  .cases e
 .cases e
end L10
namespace L10
open PySem PyProof.Rows L2 L3 LD
section
variable {B O O':bF} {K:OK} {E:XK} {H H' H1 H2:Hp} {α α' α1 α2:List Pc} {ω ω' ω1 ω2:aW} {σ:L2.St} {ρ:aX} {v:V}
theorem Ab:∀{vs:List V} {xs:List SV} {ds:List D},S6 O K H α vs xs->ar G9 xs=lD ds->L3.QV O K H vs ds
 |_,_,_,.nil,e=>by cases e;exact .nil
 |_,_,_,.cons (a:=v) (b:=x) (l₂:=xs) h t,e=>by
  unfold ar at e;cases q:G9 x with
  |none=>rw[q] at e;cases e
  |some d=>
   rw[q] at e;dsimp only at e;cases q2:ar G9 xs with
   |none=>rw[q2] at e;cases e
   |some ds=>rw[q2] at e;cases e;exact .cons (CP q h) (Ab t q2)
end
end L10
namespace L10
open PySem PyProof.Rows L2 L3
end L10
namespace L3
open PySem PyProof.Rows L2
structure adE (K:OK) (x qual:Str) (st:Sl) (f:Pc) (fd:QR) (T:Pc) (Qh:Array OW):Prop where
 ex:∃(oc:OW) (od:Option Pc) (kV doc pm:OW) (an:Option Pc) (Rr ct:OW) (Yj:Array (Option OW)),
  fd=Sb x qual (j3 st) (cI st) (aK st) (.ref T) kV doc pm an Rr ct/\K.lookup f=lD ⟨oc,od,.func fd,Yj⟩/\Uo K Rr qual=Pb
 kp:RF K (.ref f)=Pb
 tp:∃o n,K.lookup T=lD o/\o.data= .seq Qh n
end L3
namespace L10
open PySem PyProof.Rows L2 L3
end L10
namespace L4
open PySem PyProof.Rows L2 L3
end L4
namespace L2
open PySem PySem.Spec PyProof.Rows
end L2
namespace L4
open PySem PyProof.Rows L2 L3
end L4
namespace L2
open PySem PySem.Spec PyProof.Rows
end L2
namespace L10
open PySem PyProof.Rows L2 L3
end L10
namespace L3
open PySem L2
end L3
namespace L10
open PySem PySem.Spec PyProof.Rows L2 L3
end L10
namespace L10
open PySem L2 L3
end L10
namespace LD
open PySem PySem.Spec PyProof.Rows L2
end LD
namespace L10
open PySem PyProof.Rows L2 L3 LD
end L10
namespace L3
open PySem L2
end L3
namespace L10
open PySem PyProof.Rows L2 L3
end L10
namespace L4
open PySem PySem.Spec PySem.W PyProof.Rows L2 L3
end L4
namespace L10
open PySem L2 L3
def NH (T:A->aW->Prop) (X:Xc->Prop):RS A->Prop
 | .ok a ω=>T a ω
 | .er x _=>X x
 | .bad=>False
structure Out {A:Type} (r:RS A) (T:A->aW->Prop) (X:Xc->Prop):Prop where
 out:NH T X r
end L10
namespace L3
open PySem PyProof.Rows L2
section
variable {P:PF} {w:Qc} {K:OK} {mg:Str->Option OW} {base h:Heap} {f T:Pc} {n:Str} {t:Sl} {ps:List Str} {lv:Nat} {sp:Sp} {CX:xF} {Qh:Array OW}
structure DI (K:OK) (f T:Pc) (n:Str) (t:Sl) (Qh:Array OW):Prop where
 a:Qv K P7 n=lD (lD (.ref f))
 F:∃fd,adE K n n t f fd T Qh
end
structure Tp (P:PF) (w:Qc) (K:OK) (mg:Str->Option OW) (base h:Heap):Prop where
 X:K.In h
 G:h.Ns P7 mg
end L3
namespace LD
open PySem PySem.Spec PyProof.Rows L2 L3
end LD
namespace L10
open PySem PyProof.Rows L2 L3 LD
end L10
namespace LD
open PySem PySem.Spec PyProof.Rows L2 L3
end LD
namespace L10
open PySem PyProof.Rows L2 L3 LD
end L10
namespace L4
open PySem PySem.Spec PyProof.Rows L2 L3
end L4
namespace LD
open PySem PyProof.Rows L2 L3 L10
section
variable {prog:PF} {w:Qc} {A:PX} {E:OW->Pa->Prop} {s:Pa}
theorem Ha {d:Pc} {o:Obj} {a:Array QT} {b:Nat} {Q:OW->Pa->Prop} (nd:(d==QO)=Ph) (g:s.heap.get? d=lD o) (c:o.ExactDict) (e:o.data= .dict a b)
  (q:Q (.ref s.heap.objs.size) {s with heap:=s.heap.push {cls:= .type "dict_keyiterator",data:= .fields #[.ref d,.int 0 0,.int a.size 0,.int b 0]}}):wpAny (model prog w) A (pyIter (.ref d)) Q E s:=by
 have ty:s.TypeIs (.ref d) "dict":=⟨o,g,c.1⟩;refine aaX ty F.slot_dict_iter (QM F.slot_dict_iter ty F.entry_dict_iter ?_ (F.args_dict_iter_1 _));unfold Builtin.«dict.__iter__» Builtin.Dict.dictSlotNone;refine Bn (Bn (RB ty (OY ?_)));show wpAny _ _ (Builtin.Dict.showsAll d>>=_) _ _ s;unfold Builtin.Dict.showsAll;rw[if_neg (by rw[nd];exact Pt)];refine Bn (OY (Bn (QP g e (Bn (Sf g e ?_)))));refine Bn (P8 (OY ⟨_,rfl,"dict_keyiterator",_,⟨_,Heap.get?_push_size _ rfl,rfl⟩,F.slot_dict_keyiterator_next.lookup,?_⟩))
 simpa [rawInt] using q
theorem GP {it d:Pc} {o:Obj} {b:Array QT} {i f:Nat} {x:QT} {Q:Option OW->Pa->Prop} (a:s.heap.IsKeyIter it d i b.size f) (g:s.heap.get? d=lD o) (e:o.data= .dict b f) (l:b[i]? =lD x)
  (q:∀h',h'.IsKeyIter it d (i+1) b.size f->Heap.SameBut it s.heap h'->Q (lD x.key) {s with heap:=h'}):wpAny (model prog w) A (pyNext (.ref it)) Q E s:=by
 obtain⟨t,h1,m,c⟩:=id a;unfold pyNext;refine Bn (Ut (QS (name:=Str.ofString "__next__") a.typeIs F.slot_dict_keyiterator_next (QM F.slot_dict_keyiterator_next a.typeIs F.entry_dict_keyiterator_next ?_ (F.args_dict_keyiterator_next_1 _))));refine Bn (OY (Bn (Bn ?_)));refine Bn (RY a.typeIs (OY (Bn (Vc h1 c ?_))));have j:Builtin.Dict_items.ownsTuple "dict_keyiterator"=Ph:=by decide
 simp only[j,Pj,if_false];show wpAny _ _ (if(OW.ref d==OW.none)=Pb then _ else _) _ _ s;rw[if_neg (show¬((OW.ref d==OW.none)=Pb) from Pt)];refine Bn (OY (Bn (QP g e ?_)));rw[if_neg (by simp)];refine Bn (OY (Bn (Sf g e ?_)));rw[if_neg (by simp)];refine OY ?_;simp only[show¬((i:Int)<0) from by omega,if_false,QK,l];refine Bn (Bn (RY a.typeIs (OY ?_)));refine Bn (Y6 a.typeIs ?_);show wpAny _ _ (setField (.ref it) 1 (rawInt ((i:Int)+1))>>=_) _ _ s;refine Bn (Vd h1 c (by simp) ?_)
 have h:(s.heap.update it (Obj.mapFields (·.setIfInBounds 1 (rawInt ((i:Int)+1))))).IsKeyIter it d (i+1) b.size f:=
  ⟨_,Heap.get?_update_self _ h1 (Obj.isFreed_of_fields (Obj.data_mapFields c _)),(Obj.cls_mapFields ..).trans m,by rw[Obj.data_mapFields c];simp[rawInt]⟩
 refine Bn (QL (Bn (Y6 (s:={s with heap:=s.heap.update it (Obj.mapFields (·.setIfInBounds 1 (rawInt ((i:Int)+1))))}) h.typeIs ?_)));show wpAny _ _ (pure x.key) _ _ _;exact OY (OY ⟨_,rfl,OY (q _ h (Heap.SameBut.update ..))⟩)
theorem J4 {it d:Pc} {o:Obj} {f:Array QT} {i j:Nat} {Q:Option OW->Pa->Prop} (p:A.handled=Ld) (c:s.heap.IsKeyIter it d i f.size j) (g:s.heap.get? d=lD o) (e:o.data= .dict f j) (n:f.size<=i)
  (q:∀h',Heap.ExtBut it s.heap h'->Q Ld {s with heap:=h'}):wpAny (model prog w) A (pyNext (.ref it)) Q E s:=by
 obtain⟨t,h1,r,h⟩:=id c;unfold pyNext;refine Bn (Ut (QS (name:=Str.ofString "__next__") c.typeIs F.slot_dict_keyiterator_next (QM F.slot_dict_keyiterator_next c.typeIs F.entry_dict_keyiterator_next ?_ (F.args_dict_keyiterator_next_1 _))));refine Bn (OY (Bn (Bn ?_)));refine Bn (RY c.typeIs (OY (Bn (Vc h1 h ?_))));have l:Builtin.Dict_items.ownsTuple "dict_keyiterator"=Ph:=by decide
 simp only[l,Pj,if_false];show wpAny _ _ (if(OW.ref d==OW.none)=Pb then _ else _) _ _ s;rw[if_neg (show¬((OW.ref d==OW.none)=Pb) from Pt)];refine Bn (OY (Bn (QP g e ?_)));rw[if_neg (by simp)];refine Bn (OY (Bn (Sf g e ?_)));rw[if_neg (by simp)];refine OY ?_;simp only[show¬((i:Int)<0) from by omega,if_false,QK,WI n];refine Bn (Bn (RY c.typeIs (OY ?_)));show wpAny _ _ (setField (.ref it) 0 .none>>=_) _ _ s;refine Bn (Vd h1 h (by simp) ?_);show wpAny _ _ (newExc (.type "StopIteration") []>>=_) _ _ _;simp only[newExc,newTuple];refine Bn (Bn (P8 ?_ (by size_fits)));refine Bn (m:=firstArgMember _ _) (Uk (a:=OW.none) (by first|rfl|(simp only[firstArgMember];rfl)) ?_);refine P8 ?_ (by size_fits);simp only[raiseNew];refine Bn (ae5 ?_);rw[show A.in1.handled=Ld from p];refine Bn (OY (wpAny_throw ?_));refine Bn (Rz (T:= "StopIteration") (b:=Pb) ⟨_,Heap.get?_push_size _ rfl,rfl⟩ adx ?_);exact OY (q _ (((Heap.SameBut.update ..).extBut.push _).push _))
end
def zE (b:Obj) (a:Pc) (xs:List (KD×Pc×V)):HO:= .exw fun w h=>OB a xs w h/\h.get? a=lD b
theorem LN {P:PF} {w:Qc} {H H':Hp} {h:Heap} {a:Pc} {b:Obj} {xs:List (KD×Pc×V)} (g:h.get? a=lD b) (o:ObjOk P w H' h a (DkO a xs)):ObjOk P w H h a (zE b a xs):=by obtain⟨p,_,_⟩:=o;refine⟨⟨p,g⟩,⟨b,g⟩,?_⟩;rintro l j ⟨⟨q,o,c,d,i,f⟩,e⟩ st;exact⟨⟨q,o,c,d,st o i,f⟩,st _ e⟩
theorem IV {P:PF} {w:Qc} {H H':Hp} {h:Heap} {a:Pc} {b:Obj} {xs:List (KD×Pc×V)} (o:ObjOk P w H h a (zE b a xs)):ObjOk P w H' h a (DkO a xs):=by obtain⟨⟨p,g⟩,_,_⟩:=o;refine⟨p,⟨b,g⟩,?_⟩;rintro j i ⟨q,o,c,d,f,e⟩ st;exact⟨q,o,c,d,st o f,e⟩
theorem Ak {P:PF} {w:Qc} {H:Hp} {h:Heap} {a:Pc} {b:Obj} {xs:List (KD×Pc×V)} (o:ObjOk P w H h a (zE b a xs)):(a==QO)=Ph/\b.ExactDict/\h.get? a=lD b/\∃es ep,b.data= .dict es ep/\Paired (fun(x:KD×Pc×V) (e:QT)=>e.hash=ny w x.1.1/\e.key= .ref x.2.1/\RelV x.2.2 e.val) xs es.toList:=by obtain⟨⟨⟨⟨_,n,_⟩,o,es,ep,c,i,f,d⟩,g⟩,_,_⟩:=o;rw[g] at c;cases c;exact⟨n,i,g,es,ep,f,d⟩
theorem gy {α a:Type} {R:α->a->Prop}:∀{xs:List α} {ys:List a} {i:Nat} {x:α},Paired R xs ys->xs[i]? =lD x->∃y,ys[i]? =lD y/\R x y
 |_,_,_,_,.nil,e=>by simp at e
 |_,_,0,_,.cons h _,e=>by simp at e;subst e;exact⟨_,rfl,h⟩
 |_,_,i+1,_,.cons _ t,e=>by obtain⟨y,h1,b⟩:=gy (i:=i) t (by simpa using e);exact⟨y,by simpa using h1,b⟩
def Oj (c:Obj) (a:Pc) (xs:List (KD×Pc×V)):It:=
 ⟨fun i H=>H a=lD (zE c a xs)/\i<xs.length,fun i H x d=>d=H/\∃k b v,xs[i]? =lD (k,b,v)/\x= .ref b,fun i H=>H a=lD (zE c a xs)/\xs.length<=i⟩
theorem Bj {P:PF} {w:Qc} {K:OK} {Z:Qn} (a it:Pc) (m:Obj) (M:Array QT) (U:Nat) (f:m.data= .dict M U) (xs:List (KD×Pc×V)) (hl:M.size=xs.length):Turn P w K Z (Oj m a xs) [it] it (fun i h=>h.IsKeyIter it a i M.size U) where
 mem:=by simp
 obj:=fun i h st b l=>by
  have e:b=it:=by simpa using l
  subst e;obtain⟨o,e,c,d⟩:=st;exact⟨o,e,fun v z=>by rw[d] at z;cases z⟩
 keep:=fun i h q st k=>st.at fun o e=>k it (by simp) o e
 item:=by intro X A r B T i j s O H E I n st t;subst A r B;obtain⟨u,hi⟩:=t;obtain⟨_,_,g,Z1,N,e,Q⟩:=Ak (show ObjOk X.prog X.w H s.heap a (zE m a xs) from I.Ro a _ u);rw[f] at e;cases e;obtain⟨⟨k,b,v⟩,S⟩:∃p,xs[i]? =lD p:=⟨xs[i],Pq hi⟩;obtain⟨y,hy,_,ky,_⟩:=gy Q S;obtain⟨L,J,f2,G,F,C⟩:=n it (by simp);refine GP st g f (by rw[<-Ql];exact hy) fun q Y sb=> ?_;have I1:Inv X j O H {s with heap:=q}:=I.turned (t':=s.toks) (fun b o l e=>(sb.2 b l).trans e) L J G F C;obtain⟨o',e',c',d'⟩:=id Y;exact⟨_,rfl,AE (s:={s with heap:=q}) e' c' d' (by decide) ⟨.ref b,H,I1,ky,⟨rfl,k,b,v,S,rfl⟩,Y,fun b l=>(n b l).1⟩⟩
 done:=by intro X A r B T i j s O H E I n st t;subst A r B;obtain⟨u,hi⟩:=t;obtain⟨_,_,g,Z1,N,e,Q⟩:=Ak (show ObjOk X.prog X.w H s.heap a (zE m a xs) from I.Ro a _ u);rw[f] at e;cases e;obtain⟨L,J,f2,G,F,C⟩:=n it (by simp);exact J4 (I.ok.hd T) st g f (by omega) fun q eb=>⟨rfl,I.turned (t':=s.toks) (fun b o l e=>eb b o l e) L J G F C⟩
 self:=fun _ _ _ _ _ st h=>wpAny_pyIter_keyiter st h
def FR (d:TE):TI:=fun c H R=>d c H fun x b=>∃a xs,x= .ref a/\b a=lD (DkO a xs)/\∀ob,R (Oj ob a xs) (upd b a (zE ob a xs))
def Im (t:TE):TE:=fun c H Q=>t c H fun x b=>∃a ob xs,b a=lD (zE ob a xs)/\Q x (upd b a (DkO a xs))
def EK (K:OK) (e ty:TE):TE:=fun d H Q=>e d H fun x f=>ty d f fun y c=>∃a b ob xs k v,x= .ref a/\y= .ref b/\c a=lD (zE ob a xs)/\mZ K (upd c a (DkO a xs)) xs/\L2.DV K (upd c a (DkO a xs)) (.ref b) k.1/\kr xs k=lD v/\Q v c
section
variable {X:Cx} {tg:Qn}
theorem YD {l:Qn} {p:TE} (G:PE X l p):PI X tg l (FR p):=by
 intro d s B H R I h;refine cg (G d s B H _ I h) fun v c ⟨x,A,j,C,E⟩=> ?_;obtain⟨a,xs,e,g,q⟩:=E;subst e;cases C;have F:ObjOk X.prog X.w A c.heap a (DkO a xs):=j.Ro a _ g;obtain⟨⟨⟨z,y,nd⟩,f,i,n,e,L,r,K⟩,_⟩:=id F;have m:i.size=xs.length:=by rw[Paired.length K,PJ]
 refine Ha y e L r ?_;have k:∀b o,c.heap.get? b=lD o->(c.heap.push {cls:= .type "dict_keyiterator",data:= .fields #[.ref a,.int 0 0,.int i.size 0,.int n 0]}).get? b=lD o:=fun b o e=>Heap.get?_push_of_some _ e;have t:=j.kept (t':=c.toks) k;have M:=t.write (x:=a) (e:=a) (o:=zE f a xs) (t':=c.toks) (h':=c.heap.push {cls:= .type "dict_keyiterator",data:= .fields #[.ref a,.int 0 0,.int i.size 0,.int n 0]}) (by rw[g];trivial) (.inl rfl) (fun b u _ e=>e) ⟨f,k _ _ e⟩ (LN (k _ _ e) (show ObjOk X.prog X.w A _ a (DkO a xs) from t.Ro a _ g));refine⟨c.heap.objs.size,[c.heap.objs.size],_,_,_,rfl,M,Bj a _ f i n r xs m,⟨_,Heap.get?_push_size _ rfl,rfl,rfl⟩,fun b J=> ?_,q f⟩;have e:b=c.heap.objs.size:=by simpa using J
 subst e;have hn:=j.Ro.fresh (O8 c.heap.objs.size);refine j.W8 (O8 _) ?_;rw[aA (fun z=>by rw[z,g] at hn;cases hn)];exact hn
theorem ZG {l:Qn} {f:TE} (p:PE X l f):PE X l (Im f):=by intro c s m H Q I h;refine cg (p c s m H _ I h) fun v d ⟨x,r,j,n,a,g,xs,i,q⟩=> ?_;have o:=(show ObjOk X.prog X.w r d.heap a (zE g a xs) from j.Ro a _ i);exact⟨x,_,j.write (x:=a) (e:=a) (o:=DkO a xs) (t':=d.toks) (h':=d.heap) (by rw[i];trivial) (.inl rfl) (fun b u _ e=>e) ⟨g,(Ak o).2.2.1⟩ (IV o),n,q⟩
theorem Yw {o i:Qn} {pos:Pos} {n ty:TE} (O:X.A.units+64<cLine) (S:PE X o n) (hi:PE X i ty) (hs:Gh i):PE X (.Subscript o i pos) (EK X.K n ty):=by intro c s m H Q I h;refine sN Tt.lookup hs (cg (S c s m H _ I h) fun u B ⟨x,H1,I1,E,G⟩=>cg (hi c B m H1 _ I1 G) fun M d ⟨y,t,l,C,a,b,r,xs,k,v,U,T,e,J,L,g,F⟩=> ?_);subst U T;obtain rfl:u=OW.ref a:=E;obtain rfl:M=OW.ref b:=C;have q:=(show ObjOk X.prog X.w t d.heap a (zE r a xs) from l.Ro a _ e);have j:=l.write (x:=a) (e:=a) (o:=DkO a xs) (t':=d.toks) (h':=d.heap) (by rw[e];trivial) (.inl rfl) (fun b u _ e=>e) ⟨r,(Ak q).2.2.1⟩ (IV q);refine⟨(j4 j aD).1,?_⟩;obtain⟨z,hd,ys,f,dd⟩:=sC j aD J;obtain⟨w',N,Z⟩:=UE.some_of (v:=v) (o:=(atKey ys k).map (·.2)) (by rw[<-g];exact mG f);obtain⟨p,P,Y⟩:=Qz.mp N;refine VA (km O) (kJ j L) dd P ?_;rw[Y];exact⟨v,t,l.tok _,Z,F⟩
end
def restOf (kvs:List (D×D)) (k:D):Option D:=match bS kvs k with
 |some (.tuple (x::_))=>lD (.tuple [k,x])
 |_=>Ld
def Uz (kvs:List (D×D)):Option (List D):=if kvs.length<1000000 then ar (restOf kvs) (kvs.map (·.1)) else Ld
def U5 (j:Nat):cE:=fun ρ ω=>(bw j ρ ω).bind fun o a=>(RS.Qi a (gZ a o)).bind fun p a=>(RS.Qi a (Uz p.2)).bind fun ds a=> .ok (.rf a.length) (a++[.lst (ds.map SV.fz)])
theorem oS {α b:Type} {f:α->Option b}:∀{l:List α} {m:List b} {i:Nat} {x:α},ar f l=lD m->l[i]? =lD x->∃y,m[i]? =lD y/\f x=lD y
 |[],_,_,_,_,e=>by simp at e
 |a::l,m,i,x,h,e=>by
  unfold ar at h;cases q:f a with
  |none=>rw[q] at h;cases h
  |some y=>
   rw[q] at h;dsimp only at h;cases q2:ar f l with
   |none=>rw[q2] at h;cases h
   |some ys=>
    rw[q2] at h;cases h;cases i with
    |zero=>simp at e;subst e;exact⟨y,rfl,q⟩
    |succ i=>obtain⟨z,h1,c⟩:=oS q2 (by simpa using e);exact⟨z,by simpa using h1,c⟩
theorem pW {α b:Type} {f:α->Option b}:∀{l:List α} {m:List b},ar f l=lD m->m.length=l.length
 |[],_,h=>by cases h;rfl
 |a::l,m,h=>by
  unfold ar at h;cases q:f a with
  |none=>rw[q] at h;cases h
  |some y=>
   rw[q] at h;dsimp only at h;cases q2:ar f l with
   |none=>rw[q2] at h;cases h
   |some ys=>rw[q2] at h;cases h;rw[Pf,Pf,pW q2]
theorem vR {O:bF} {K:OK} {H:Hp} {v:V} {d:D} (h:L3.DV O K H v d):∀{vs:List V} {ds:List D},L3.QV O K H vs ds->L3.QV O K H (vs++[v]) (ds++[d])
 |_,_,.nil=> .cons h .nil
 |_,_,.cons a t=> .cons a (vR h t)
theorem yS {O:bF} {K:OK} {H:Hp} {α:List Pc}:∀{vs:List V} {ds:List D},L3.QV O K H vs ds->S6 O K H α vs (ds.map SV.fz)
 |_,_,.nil=> .nil
 |_,_,.cons a t=> .cons a (yS t)
section
variable {K:OK} {E:XK}
theorem X2 {x y:Str} {j:Nat}:cZ K E (Im (vZ [x] [(y,j)] (FR (qU j)) (rL 0) zZ (Gx (gQ (qU 0) (gQ (Il (KI K) (EK K (qU 1) (qU 0)) (tC (.int 0))) qw))))) (U5 j):=by
 intro B σ H α ω ρ Q s sl w;unfold U5 bw at w;cases q:ρ[j]? with
 |none=>rw[q] at w;exact w.elim
 |some o=>
  cases o with
  |none=>rw[q] at w;exact w.elim
  |some z=>
   rw[q] at w;obtain⟨v,h1,h2⟩:=sl.2 j z q;obtain⟨⟨i0,kvs⟩,q2,w⟩:=WS.Qi w;obtain⟨ds,C,w⟩:=WS.Qi w;obtain⟨qi,a,xs,ha,rfl,g1,P⟩:=ku s h2 q2;unfold Uz at C;dsimp only at C;by_cases hm:kvs.length<1000000
   case neg=>rw[if_neg hm] at C;cases C
   rw[if_pos hm] at C;have hl:xs.length=kvs.length:=Paired.length P;have hdl:ds.length=xs.length:=by rw[pW C,OX,hl]
   have oa:ow B α ω a:= .inr ⟨i0,_,ha,qi,by intro z;cases z⟩;refine⟨_,h1,a,xs,rfl,g1,fun Y D O=> ?_⟩;have T:D≠a:=fun e=>by rw[e,aD] at O;cases O
   have g:H D=Ld:=by rw[aA T] at O;exact O
   have big:(1000000:Nat)<=Po:=by decide
   have ev:∀{H':Hp},(∀b o,b≠a->H b=lD o->H' b=lD o)->Ev (ow B α ω) H (ow (bx B D) α ω) H':=fun k b o h n=>
    ⟨k b o (fun e=>n (by rw[e];exact oa)) h,fun z=>by
     rcases z with(z|z)|z
     .exact n (.inl z)
     .rw[z,g] at h;cases h
     .exact n (.inr z)⟩
   have fresh:∀{H':Hp} {p:Pc},(∀b o,b≠a->H b=lD o->H' b=lD o)->H' a≠Ld->H' D≠Ld->H' p=Ld->¬ow (bx B D) α ω p:=fun{H' p} k ka kD hp z=>by
    have np:p≠a:=fun e=>ka (by rw[<-e];exact hp);have hn:∀{b:Pc},H b≠Ld->b≠a->H' b≠Ld:=fun{b} h n e=>by
     cases q:H b with
     |none=>exact h q
     |some o=>rw[k b o n q] at e;cases e
    rcases z with(z|z)|⟨i,c,z,_⟩
    .exact hn (s.bn p z) np hp
    .exact kD (by rw[<-z];exact hp)
    .exact hn (s.al i p z) np hp
   refine HN xs.length (fun n f H'=>(∃u,f=[u,lD (.ref a)])/\H' a=lD (zE Y a xs)/\(∀b o,b≠a->H b=lD o->H' b=lD o)/\∃ys,H' D=lD (.lst ys)/\ys.length=n/\L3.QV (ow (bx B D) α ω) K H' ys (ds.take n)) ?_ ?_ ?_ ?_ ?_
   .refine⟨⟨Ld,?_⟩,by rw[aA T.symm,aD],fun b o nb h=> ?_,[],aD,rfl,.nil⟩
    .show fR [x] [(y,j)] σ=_;unfold fR;simp[h1]
    .rw[aA (fun e=>by rw[e,g] at h;cases h),aA nb];exact h
   .rintro i f H' hi ⟨_,h,_⟩;exact⟨h,hi⟩
   .rintro f H' ⟨_,h,_⟩;exact⟨h,O8 _⟩
   .rintro i f H' x' M hi ⟨⟨u,rfl⟩,I,A,ys,J,e4,S⟩ ⟨rfl,k,b,v,hx,rfl⟩
    unfold rL zZ;dsimp only;rw[if_pos rfl];obtain⟨⟨kd,vd⟩,Z,N,X,p3⟩:=gy P hx;dsimp only at N X p3;obtain⟨r,hr,m⟩:=oS C (by rw[Pg,Z];rfl);dsimp only at m;have U:PrD (ow (bx B D) α ω) K (upd M a (DkO a xs)) xs kvs:=Paired.TR P fun _ _ t=>⟨t.1,t.2.1.ev (ev fun b o nb h=>by rw[aA nb];exact A b o nb h),t.2.2.ev (ev fun b o nb h=>by rw[aA nb];exact A b o nb h)⟩;unfold restOf at m;rw[<-N] at m;cases gd:bS kvs k.1 with
    |none=>rw[gd] at m;cases m
    |some d=>
     rw[gd] at m;obtain⟨vv,gx,L⟩:=(iA (k:=k) P).1 d gd;cases d with
     |tuple l=>
      cases l with
      |nil=>cases m
      |cons x0 l=>
       cases m;have L:=L.ev (ev A);cases L with
       | @tup p us _ sq hs=>
        cases hs with
        | @cons u0 _ Z4 _ d0 ht=>
         have db:L3.DV (ow (bx B D) α ω) K M (.ref b) k.1:=by rw[N];exact X.ev (ev A)
         refine⟨.ref b,rfl,.ref a,rfl,.ref b,rfl,a,b,Y,xs,k,_,rfl,rfl,I,pf U,?_,gx,p,_,0,u0,rfl,rfl,sq.1,Dx (acE 0) rfl,?_⟩
         .have:=(X.ev (ev (H':=upd M a (DkO a xs)) fun b o nb h=>by rw[aA nb];exact A b o nb h)).plain;rw[<-N] at this;exact this
         .refine⟨by show 2<=_;omega,fun t G=> ?_⟩
          have ta:t≠a:=fun e=>by rw[e,I] at G;cases G
          have tD:t≠D:=fun e=>by rw[e,J] at G;cases G
          have nt:=fresh A (by rw[I];simp) (by rw[J];simp) G;refine⟨ys,by rw[aA tD.symm];exact J,by omega,⟨_,rfl⟩,by rw[aA T.symm,aA ta.symm];exact I,fun c o nc h=> ?_,ys++[.ref t],aD,by simp[e4],?_⟩
          .have:=A c o nc h;rw[aA (fun e=>by rw[e,g] at h;cases h),aA (fun e=>by rw[e,G] at this;cases this)];exact this
          .have F:Ev (ow (bx B D) α ω) M (ow (bx B D) α ω) (upd (upd M t (.tup [.ref b,u0])) D (.lst (ys++[.ref t]))):=fun c o h n=>
            ⟨by rw[aA (fun e=>n (.inl (.inr e))),aA (fun e=>by rw[e,G] at h;cases h)];exact h,n⟩
           have et:ds.take (i+1)=ds.take i++[.tuple [k.1,x0]]:=by rw[Vi,hr];rfl
           rw[et];refine vR (.tup ⟨.inl (.inl ?_),fun z=>absurd z nt⟩ (.cons (db.ev F) (.cons (d0.ev F) .nil))) (S.ev F);rw[aA tD,aD]
     |_=>cases m
   .rintro f H' ⟨_,I,A,ys,J,e4,S⟩
    refine⟨a,Y,xs,I,?_⟩;have sm:Rg H (upd H' a (DkO a xs)):=fun b o h=>by
     by_cases nb:b=a
     .subst nb;rw[aD];rw[g1] at h;exact h
     .rw[aA nb];exact A b o nb h
    have eD:(upd H' a (DkO a xs)) D=lD (.lst ys):=by rw[aA T];exact J
    have eo:ow (bx B D) α ω=ow B (α++[D]) (ω++[.lst (ds.map SV.fz)]):=qv s.len (by intro z;cases z);have L:L3.QV (ow B (α++[D]) (ω++[.lst (ds.map SV.fz)])) K (upd H' a (DkO a xs)) ys ds:=by rw[<-eo];have t:ds.take xs.length=ds:=QC (by omega);rw[t] at S;exact S.ev fun b o h n=>⟨by rw[aA (fun e=>n (by rw[e];rcases oa with z|z;exact .inl (.inl z);exact .inr z))];exact h,n⟩
    exact w (α++[D]) _ (Ru.Vs s.len sm g) (s.Vs sm g (by rw[eD];simp) ⟨ys,eD,yS L⟩) (.ref D) ⟨D,by rw[<-s.len];exact aU,rfl⟩
end
end LD
namespace TS
open PySem PyProof.Rows
set_option autoImplicit true
def gP (M:Model) (A:PX) (E:OW->Pa->Prop) (J:Pa->Prop) {a α:Type} (m:StateT a Sem α) (Q:α->a->Prop) (st:a):Prop:=
 ∀s,J s->wpAny M A (m.run st) (fun r z=>J z/\Q r.1 r.2) E s
section
variable {M:Model} {A:PX} {E:OW->Pa->Prop} {J:Pa->Prop} {Z:Type}
theorem am {α:Type} {a:α} {Q:α->Z->Prop} {st:Z} (h:Q a st):gP M A E J (pure a:StateT Z Sem α) Q st:=by intro s j;rw[StateT.run_pure];exact OY ⟨j,h⟩
theorem ah {α b:Type} {m:StateT Z Sem α} {f:α->StateT Z Sem b} {Q:b->Z->Prop} {st:Z}
  (h:gP M A E J m (fun a W0=>gP M A E J (f a) Q W0) st):gP M A E J (m>>=f) Q st:=by
 intro s j;rw[StateT.run_bind];exact Bn (wpAny_mono (h s j) (fun r z q=>q.2 z q.1) fun _ _ e=>e)
theorem bJ {α:Type} {m:StateT Z Sem α} {Q R:α->Z->Prop} {st:Z} (h:gP M A E J m Q st) (q:∀a W0,Q a W0->R a W0):gP M A E J m R st:=
 fun s j=>wpAny_mono (h s j) (fun r _ z=>⟨z.1,q _ _ z.2⟩) fun _ _ e=>e
theorem fN {Q:Z->Z->Prop} {st:Z} (h:Q st st):gP M A E J (get:StateT Z Sem Z) Q st:=by intro s j;rw[StateT.run_get];exact OY ⟨j,h⟩
theorem J8 {Q:PUnit->Z->Prop} {st x:Z} (h:Q ⟨⟩ x):gP M A E J (set x:StateT Z Sem PUnit) Q st:=by intro s j;rw[StateT.run_set];exact OY ⟨j,h⟩
theorem ie {f:Z->Z} {Q:PUnit->Z->Prop} {st:Z} (h:Q ⟨⟩ (f st)):gP M A E J (modify f:StateT Z Sem PUnit) Q st:=by intro s j;rw[StateT.run_modify];exact OY ⟨j,h⟩
theorem j5 {n:String} {Q:PUnit->Z->Prop} {st:Z} (h:Q ⟨⟩ st):gP M A E J (liftM (rule n):StateT Z Sem PUnit) Q st:=by intro s j;show wpAny M A ((StateT.lift (rule n):StateT Z Sem PUnit).run st) _ E s;rw[StateT.run_lift];exact Bn (UJ (OY ⟨j,h⟩))
theorem cW {g:Type} {a b:Nat} {f:Nat->g->StateT Z Sem (ForInStep g)} (I:Nat->g->Z->Prop) {Q:g->Z->Prop}
  (hs:∀i c st,a<=i->i<b->I i c st->gP M A E J (f i c) (fun r z=>match r with| .done d=>Q d z| .yield d=>I (i+1) d z) st)
  (l:∀c st,I (max a b) c st->Q c st) {c:g} {st:Z} (h:I a c st):gP M A E J (forIn [a:b] c f) Q st:=by
 rw[Std.Legacy.Range.forIn_eq_forIn_range'];have sz:([a:b]:Std.Legacy.Range).size=b - a:=by simp[Std.Legacy.Range.size]
 show gP M A E J (forIn (abA a ([a:b]:Std.Legacy.Range).size 1) c f) Q st;rw[sz];have m:∀(n i:Nat) (c:g) (st:Z),a<=i->i+n=max a b->I i c st->gP M A E J (forIn (abA i n 1) c f) Q st:=by
  intro n
  induction n with
  |zero=>intro i c st _ e h;rw[List.range'_zero,ZU];exact am (l _ _ (by rw[<-e];exact h))
  |succ n j=>
   intro i c st o e h;rw[List.range'_succ,VQ];refine ah (bJ (hs i c st o (by omega) h) fun r z q=> ?_);cases r with
   |done d=>exact am q
   |yield d=>exact j (i+1) d z (by omega) (by omega) q
 exact m _ a c st (O8 _) (by omega) h
end
structure Ask (prog:PF) (w:Qc) (A:PX) (E:OW->Pa->Prop) (J:Pa->Prop) (κ:SortKind) (S:Keyed->Prop) (f:Keyed->Nat):Prop where
 ask:∀x y s,S x->S y->J s->wpAny (model prog w) A (keyLt' κ x.1 y.1) (fun b z=>b=decide (f x<f y)/\J z) (fun _ _=>False) s
def R (f:Keyed->Nat) (xs:Array Keyed) (i:Nat):Nat:=match xs[i]? with
 |some p=>f p
 |none=>0
theorem dD {f:Keyed->Nat} {xs ys:Array Keyed} {i j:Nat} (h:xs[i]? =ys[j]?):R f xs i=R f ys j:=by unfold R;rw[h]
theorem V2 {f:Keyed->Nat} {xs:Array Keyed} {i:Nat} (h:i<xs.size):R f xs i=f xs[i]:=by unfold R;rw[getElem?_pos xs i h]
structure Gd (κ:SortKind) (a₀:Array Keyed) (st:SortSt):Prop where
 kind:kindOf st=κ
 failed:failedOf st=Ld
 perm:(arrOf st).Perm a₀
theorem Gd.size {κ:SortKind} {a:Array Keyed} {st:SortSt} (g:Gd κ a st):(arrOf st).size=a.size:=g.perm.size_eq
theorem Gd.mem {κ:SortKind} {a:Array Keyed} {st:SortSt} (g:Gd κ a st) {i:Nat} (h:i<(arrOf st).size):(arrOf st)[i]∈a.toList:=
 (Sg.mp g.perm).mem_iff.mp (by simp)
theorem Gd.arr {κ:SortKind} {a:Array Keyed} {st:SortSt} (g:Gd κ a st) {xs:Array Keyed} (h:xs.Perm (arrOf st)):Gd κ a (setArr st xs):=
 ⟨g.kind,g.failed,h.trans g.perm⟩
def So (f:Keyed->Nat) (xs:Array Keyed) (a b:Nat):Prop:=∀i j,a<=i->i<=j->j<b->R f xs i<=R f xs j
section
variable {prog:PF} {w:Qc} {A:PX} {E:OW->Pa->Prop} {J:Pa->Prop} {κ:SortKind} {Z:Array Keyed} {f:Keyed->Nat}
theorem w9 (C:Ask prog w A E J κ (·∈Z.toList) f) {x y:Keyed} (c:x∈Z.toList) (a:y∈Z.toList) {st:SortSt} (k:kindOf st=κ) {Q:Option Bool->SortSt->Prop}
  (h:Q (lD (decide (f x<f y))) st):gP (model prog w) A E J (lt' x y) Q st:=by
 rw[lt'_eq];refine ah (fN (ah ?_));intro s j;rw[k];show wpAny _ A ((StateT.lift ((keyLt' κ x.1 y.1).attempt):StateT SortSt Sem _).run st) _ E s;rw[StateT.run_lift];refine Bn (Ut (wpAny_mono (C.ask x y s c a j) ?_ fun _ _ e=>e.elim));rintro b z ⟨rfl,j'⟩;exact OY ⟨j',am h⟩
theorem bD {xs:Array Keyed} {i:Nat} {x:Keyed} (e:xs[i]? =lD x) {st:SortSt} {Q:Keyed->SortSt->Prop} (h:Q x st):gP (model prog w) A E J (elem' xs i) Q st:=by rw[elem'_eq,e];exact am h
theorem lM (C:Ask prog w A E J κ (·∈Z.toList) f) {st:SortSt} (g:Gd κ Z st) {i j:Nat} (hi:i<Z.size) (a:j<Z.size) {Q:Option Bool->SortSt->Prop}
  (h:Q (lD (decide (R f (arrOf st) i<R f (arrOf st) j))) st):gP (model prog w) A E J (ltAt' i j) Q st:=by
 rw[ltAt'_eq];rw[<-g.size] at hi a;rw[V2 hi,V2 a] at h;refine ah (fN ?_);dsimp only;refine ah (bD (getElem?_pos (arrOf st) i hi) (ah (bD (getElem?_pos (arrOf st) j a) ?_)));exact w9 C (g.mem hi) (g.mem a) g.kind h
theorem ur {st:SortSt} {i j:Nat} {Q:Unit->SortSt->Prop} (h:Q () (setArr st (mirror (arrOf st) i j ((j - i)/2)))):
  gP (model prog w) A E J (reverseSlice' i j) Q st:=by
 rw[reverseSlice'_eq];exact ie h
theorem oV {xs:Array Keyed} {i j:Nat} (a:j<=xs.size) (k:Nat):
  R f (mirror xs i j ((j - i)/2)) k=if i<=k/\k<j then R f xs (i+j - 1 - k) else R f xs k:=by
 have e:=getElem?_mirror_all (i:=i) a k;split<;>rename_i h<;>simp only[h,if_true,if_false,not_false_eq_true] at e<;>exact dD (by simpa [h] using e)
theorem xg {xs:Array Keyed} {a d:Nat} (hs:a<xs.size) (b:d<=a) (k:Nat):
  R f (bubble xs a d) k=if k=a - d then R f xs a else if a - d<k/\k<=a then R f xs (k - 1) else R f xs k:=by
 have e:=getElem?_bubble hs d b k;split
 .rw[if_pos (by assumption)] at e;exact dD e
 .rw[if_neg (by assumption)] at e
  split
  .rw[if_pos (by assumption)] at e;exact dD e
  .rw[if_neg (by assumption)] at e;exact dD e
end
end TS
namespace TS
open PySem PyProof.Rows
set_option autoImplicit true
section
variable {prog:PF} {w:Qc} {A:PX} {E:OW->Pa->Prop} {J:Pa->Prop} {κ:SortKind} {Z:Array Keyed} {f:Keyed->Nat}
structure Up (κ:SortKind) (Z:Array Keyed) (f:Keyed->Nat) (lo:Nat) (st z:SortSt):Prop where
 gd:Gd κ Z z
 pend:pendingOf z=pendingOf st
 low:∀k,k<lo->(arrOf z)[k]? =(arrOf st)[k]?
theorem Up.rfl {lo:Nat} {st:SortSt} (g:Gd κ Z st):Up κ Z f lo st st:=⟨g,Eq.refl _,fun _ _=>Eq.refl _⟩
theorem Up.mir {lo i j:Nat} {st z:SortSt} (u:Up κ Z f lo st z) (hi:lo<=i) (b:j<=Z.size):Up κ Z f lo st (setArr z (mirror (arrOf z) i j ((j - i)/2))):=
 ⟨u.gd.arr (mirror_perm _ _ _ _),u.pend,fun k a=>by show(mirror (arrOf z) i j ((j - i)/2))[k]? =_;rw[getElem?_mirror_all (by rw[u.gd.size];exact b),if_neg (by omega)];exact u.low k a⟩
theorem Hq (C:Ask prog w A E J κ (·∈Z.toList) f) {st:SortSt} {lo n ok:Nat} {Q:Bool->SortSt->Prop} (hn:lo+n<=Z.size) (O:ok<=n) (g:Gd κ Z st) (hs:So f (arrOf st) lo (lo+ok))
  (h:∀z,Up κ Z f lo st z->So f (arrOf z) lo (lo+n)->Q Pb z):gP (model prog w) A E J (binarySort' lo n ok) Q st:=by
 rw[binarySort'_eq];refine ah (bJ (cW (I:=fun k c z=>c=(Ld,())/\Up κ Z f lo st z/\So f (arrOf z) lo (lo+min k n))
  (Q:=fun c z=>c=(Ld,())/\Up κ Z f lo st z/\So f (arrOf z) lo (lo+n)) ?step ?fin ?init) ?post)
 case post=>rintro c z ⟨rfl,u,k⟩;exact am (h z u k)
 case init=>
  refine⟨rfl,.rfl g,fun i j h1 b K=> ?_⟩;by_cases o:ok=0
  .have:i=j:=by omega
   subst this;exact O8 _
  .exact hs i j h1 b (by omega)
 case fin=>
  rintro c z ⟨t,u,k⟩;refine⟨t,u,?_⟩;rwa [show min (max (max ok 1) n) n=n by omega] at k
 case step=>
  rintro k c z v p ⟨rfl,u,q⟩;rw[show min k n=k by omega] at q;have H:k<n:=by omega
  clear v p;refine ah (bJ (cW (I:=fun x c y=>y=z/\∃l r,c=(Ld,l,r)/\l<=r/\r<=k/\r - l<=k - x/\
    (∀i,i<l->R f (arrOf z) (lo+i)<=R f (arrOf z) (lo+k))/\(∀i,r<=i->i<k->R f (arrOf z) (lo+k)<R f (arrOf z) (lo+i)))
   (Q:=fun c y=>y=z/\∃l r,c=(Ld,l,r)/\l<=k/\
    (∀i,i<l->R f (arrOf z) (lo+i)<=R f (arrOf z) (lo+k))/\(∀i,l<=i->i<k->R f (arrOf z) (lo+k)<R f (arrOf z) (lo+i))) ?is ?ifn ?ii) ?ip)
  case ii=>exact⟨rfl,0,k,rfl,by omega,by omega,by omega,fun i hi=>by omega,fun i h1 b=>by omega⟩
  case ifn=>
   rintro c y ⟨rfl,l,r,rfl,lr,rk,m,p1,p2⟩;have:l=r:=by omega
   subst this;exact⟨rfl,l,l,rfl,rk,p1,p2⟩
  case is=>
   rintro x c y _ G ⟨rfl,l,r,rfl,lr,rk,m,p1,p2⟩;dsimp only;by_cases e:l≥r
   .rw[if_pos e]
    have:l=r:=by omega
    subst this;exact am ⟨rfl,l,l,rfl,rk,p1,p2⟩
   .rw[if_neg e]
    refine ah (lM C u.gd (by omega) (by omega) ?_);by_cases a:R f (arrOf y) (lo+k)<R f (arrOf y) (lo+(l+r)/2)
    .simp only[a,decide_true,if_true];refine am ⟨rfl,l,(l+r)/2,rfl,by omega,by omega,by omega,p1,fun i h1 b=> ?_⟩;exact PD a (q _ _ (by omega) (by omega) (by omega))
    .simp only[a,decide_false,Pj,if_false];refine am ⟨rfl,(l+r)/2+1,r,rfl,by omega,by omega,by omega,fun i h1=> ?_,p2⟩;exact Pp (q (lo+i) (lo+(l+r)/2) (by omega) (by omega) (by omega)) (RL a)
  case ip=>
   rintro c y ⟨rfl,l,r,rfl,lk,p1,p2⟩;show gP _ _ _ _ (do moveDown' (lo+k) (lo+l);pure (ForInStep.yield (Ld,()))) _ _;rw[moveDown'_eq];have d:lo+k<(arrOf y).size:=by rw[u.gd.size];omega
   refine ah (ie (am ⟨rfl,⟨u.gd.arr (bubble_perm _ _ _),u.pend,fun i hi=> ?_⟩,?_⟩))
   .show(bubble (arrOf y) (lo+k) (lo+k - (lo+l)))[i]? =_;rw[getElem?_bubble d _ (by omega),if_neg (by omega),if_neg (by omega)];exact u.low i hi
   rw[show min (k+1) n=k+1 by omega];intro i j N M L;show R f (bubble (arrOf y) (lo+k) (lo+k - (lo+l))) i<=R f (bubble (arrOf y) (lo+k) (lo+k - (lo+l))) j;rw[xg d (by omega),xg d (by omega),show lo+k - (lo+k - (lo+l))=lo+l by omega];have F:∀i,lo<=i->i<lo+l->R f (arrOf y) i<=R f (arrOf y) (lo+k):=fun i h1 b=>by have:=p1 (i - lo) (by omega);rwa [show lo+(i - lo)=i by omega] at this
   have B:∀i,lo+l<=i->i<lo+k->R f (arrOf y) (lo+k)<=R f (arrOf y) i:=fun i h1 b=>by have:=p2 (i - lo) (by omega) (by omega);rw[show lo+(i - lo)=i by omega] at this;omega
   repeat' split
   all_goals first
    |(exfalso;omega)
    |exact O8 _
    |exact F _ (by omega) (by omega)
    |exact B _ (by omega) (by omega)
    |exact q _ _ (by omega) (by omega) (by omega)
end
end TS
namespace TS
open PySem PyProof.Rows
set_option autoImplicit true
def Iz:Bool->Keyed->Array Keyed->Nat->Nat->Nat->StateT SortSt Sem (Option Nat):=sortPriv% PySem.Builtin.gallop
def NW (left:Bool) (a:Keyed) (arr:Array Keyed) (base i:Nat):StateT SortSt Sem (Option Bool):=do
 let x<-elem' arr (base+i)
 if left then lt' x a else return(<-lt' a x).map (!·)
section
variable {prog:PF} {w:Qc} {A:PX} {E:OW->Pa->Prop} {J:Pa->Prop} {κ:SortKind} {Z:Array Keyed} {f:Keyed->Nat}
def Bt (f:Keyed->Nat) (left:Bool) (a:Keyed) (x:Keyed):Bool:=if left then decide (f x<f a) else decide (f x<=f a)
theorem KJ (C:Ask prog w A E J κ (·∈Z.toList) f) {left:Bool} {a x:Keyed} {arr:Array Keyed} {base i:Nat} {st:SortSt} (k:kindOf st=κ) (c:a∈Z.toList) (b:x∈Z.toList) (e:arr[base+i]? =lD x) {Q:Option Bool->SortSt->Prop}
  (h:Q (lD (Bt f left a x)) st):gP (model prog w) A E J (NW left a arr base i) Q st:=by
 unfold NW;refine ah (bD e ?_);cases left with
 |true=>simp only[if_true];exact w9 C b c k h
 |false=>
  simp only[Pj,if_false];refine ah (w9 C c b k (am ?_));have:Xp (fun x=> !x) (lD (decide (f a<f x)))=lD (Bt f Ph a x):=by
   unfold Bt;simp only[Pj,if_false,Xp];congr 1;by_cases q:f a<f x
   .rw[decide_eq_true q,decide_eq_false (by omega)];rfl
   .rw[decide_eq_false q,decide_eq_true (by omega)];rfl
  rw[this];exact h
theorem my (C:Ask prog w A E J κ (·∈Z.toList) f) {left:Bool} {d:Keyed} {arr:Array Keyed} {base n a:Nat} {st:SortSt} (k:kindOf st=κ) (K:d∈Z.toList)
  (B:Nat->Bool) (hb:∀i,i<n->∃x,x∈Z.toList/\arr[base+i]? =lD x/\B i=Bt f left d x) (hm:∀i j,i<=j->j<n->B j=Pb->B i=Pb) (L:a<n)
  {Q:Option Nat->SortSt->Prop} (h:∀m,m<=n->(∀i,i<m->B i=Pb)->(∀i,m<=i->i<n->B i=Ph)->Q (lD m) st):
  gP (model prog w) A E J (Iz left d arr base n a) Q st:=by
 have g:∀{i:Nat} {Q:Option Bool->SortSt->Prop},i<n->Q (lD (B i)) st->gP (model prog w) A E J (NW left d arr base i) Q st:=by intro i Q hi q;obtain⟨x,G,F,v⟩:=hb i hi;rw[v] at q;exact KJ C k K G F q
 have l:∀i j,i<=j->j<n->B i=Ph->B j=Ph:=fun i j h1 e u=>by
  cases q:B j with
  |false=>rfl
  |true=>rw[hm i j h1 e q] at u;cases u
 show gP _ _ _ _ (bind _ _:StateT SortSt Sem (Option Nat)) _ _;refine ah (g L ?_);cases q:B a with
 |true=>
  dsimp only;simp only[if_true];refine ah (bJ (cW (I:=fun x c z=>z=st/\∃la o,c=(Ld,la,o)/\la<o/\x+1<=o/\a+la<n/\B (a+la)=Pb)
   (Q:=fun c z=>z=st/\∃la o,c=(Ld,la,o)/\la<o/\a+la<n/\B (a+la)=Pb/\(a+o<n->B (a+o)=Ph)) ?s2 ?f2 ⟨rfl,0,1,rfl,by omega,by omega,by omega,q⟩) ?p2)
  case p2=>
   rintro c z ⟨rfl,la,o,rfl,a1,a2,a3,a4⟩;dsimp only;have t:(a+la+1)<=(a+min o (n - a)):=by omega
   have hn:(a+min o (n - a))<=n:=by omega
   have r:∀i,i<(a+la+1)->B i=Pb:=fun i hi=>by exact hm i _ (by omega) a2 a3
   have p2:∀i,(a+min o (n - a))<=i->i<n->B i=Ph:=fun i h1 e=>by exact l (a+o) i (by omega) e (a4 (by omega))
   refine ah (bJ (cW (I:=fun x c y=>y=z/\∃lo hi,c=(Ld,lo,hi)/\lo<=hi/\hi<=n/\hi - lo<=n - x/\(∀i,i<lo->B i=Pb)/\(∀i,hi<=i->i<n->B i=Ph))
    (Q:=fun c y=>y=z/\∃m,c=(Ld,m,m)/\m<=n/\(∀i,i<m->B i=Pb)/\(∀i,m<=i->i<n->B i=Ph)) ?s11 ?f11 ⟨rfl,(a+la+1),(a+min o (n - a)),rfl,t,hn,by omega,r,p2⟩) ?p11)
   case p11=>
    rintro c z ⟨rfl,m,rfl,a1,a2,a3⟩;exact am (h m a1 a2 a3)
   case f11=>
    rintro c z ⟨rfl,lo,hi,rfl,a0,a1,a2,a3,a4⟩;have:lo=hi:=by omega
    subst this;exact⟨rfl,lo,rfl,a1,a3,a4⟩
   case s11=>
    rintro x c z _ p ⟨rfl,lo,hi,rfl,a0,a1,a2,a3,a4⟩;dsimp only;by_cases b:lo≥hi
    .rw[if_pos b]
     have:lo=hi:=by omega
     subst this;exact am ⟨rfl,lo,rfl,a1,a3,a4⟩
    .rw[if_neg b]
     refine ah (g (by omega) ?_);cases q:B (lo+(hi - lo)/2) with
     |true=>simp only[if_true];refine am ⟨rfl,_,_,rfl,by omega,by omega,by omega,fun i hi=> ?_,a4⟩;exact hm i _ (by omega) (by omega) q
     |false=>simp only[Pj,if_false];refine am ⟨rfl,_,_,rfl,by omega,by omega,by omega,a3,fun i h1 e=> ?_⟩;exact l _ i h1 e q
  case f2=>
   rintro c z ⟨rfl,la,o,rfl,a1,a2,a3,a4⟩;exact⟨rfl,la,o,rfl,a1,a3,a4,fun h=>by omega⟩
  case s2=>
   rintro x c z _ p ⟨rfl,la,o,rfl,a1,a2,a3,a4⟩;dsimp only;by_cases b:o≥n - a
   .rw[if_pos b];exact am ⟨rfl,la,o,rfl,a1,a3,a4,fun h=>by omega⟩
   .rw[if_neg b]
    refine ah (g (by omega) ?_);cases q2:B (a+o) with
    |true=>simp only[Q7,Pj,if_false];exact am ⟨rfl,_,_,rfl,by omega,by omega,by omega,q2⟩
    |false=>simp only[V7,if_true];exact am ⟨rfl,la,o,rfl,a1,a3,a4,fun _=>q2⟩
 |false=>
  dsimp only;simp only[Pj,if_false];refine ah (bJ (cW (I:=fun x c z=>z=st/\∃la o,c=(Ld,la,o)/\la<o/\x+1<=o/\la<=a/\B (a - la)=Ph)
   (Q:=fun c z=>z=st/\∃la o,c=(Ld,la,o)/\la<o/\la<=a/\B (a - la)=Ph/\(o<a+1->B (a - o)=Pb)) ?s3 ?f3 ⟨rfl,0,1,rfl,by omega,by omega,by omega,q⟩) ?p3)
  case p3=>
   rintro c z ⟨rfl,la,o,rfl,a1,a2,a3,a4⟩;dsimp only;have t:(a+1 - min o (a+1))<=(a - la):=by omega
   have hn:(a - la)<=n:=by omega
   have r:∀i,i<(a+1 - min o (a+1))->B i=Pb:=fun i hi=>by
    have H:o<a+1:=by omega
    exact hm i (a - o) (by omega) (by omega) (a4 H)
   have p2:∀i,(a - la)<=i->i<n->B i=Ph:=fun i h1 e=>by exact l (a - la) i (by omega) e a3
   refine ah (bJ (cW (I:=fun x c y=>y=z/\∃lo hi,c=(Ld,lo,hi)/\lo<=hi/\hi<=n/\hi - lo<=n - x/\(∀i,i<lo->B i=Pb)/\(∀i,hi<=i->i<n->B i=Ph))
    (Q:=fun c y=>y=z/\∃m,c=(Ld,m,m)/\m<=n/\(∀i,i<m->B i=Pb)/\(∀i,m<=i->i<n->B i=Ph)) ?s12 ?f12 ⟨rfl,(a+1 - min o (a+1)),(a - la),rfl,t,hn,by omega,r,p2⟩) ?p12)
   case p12=>
    rintro c z ⟨rfl,m,rfl,a1,a2,a3⟩;exact am (h m a1 a2 a3)
   case f12=>
    rintro c z ⟨rfl,lo,hi,rfl,a0,a1,a2,a3,a4⟩;have:lo=hi:=by omega
    subst this;exact⟨rfl,lo,rfl,a1,a3,a4⟩
   case s12=>
    rintro x c z _ p ⟨rfl,lo,hi,rfl,a0,a1,a2,a3,a4⟩;dsimp only;by_cases b:lo≥hi
    .rw[if_pos b]
     have:lo=hi:=by omega
     subst this;exact am ⟨rfl,lo,rfl,a1,a3,a4⟩
    .rw[if_neg b]
     refine ah (g (by omega) ?_);cases q:B (lo+(hi - lo)/2) with
     |true=>simp only[if_true];refine am ⟨rfl,_,_,rfl,by omega,by omega,by omega,fun i hi=> ?_,a4⟩;exact hm i _ (by omega) (by omega) q
     |false=>simp only[Pj,if_false];refine am ⟨rfl,_,_,rfl,by omega,by omega,by omega,a3,fun i h1 e=> ?_⟩;exact l _ i h1 e q
  case f3=>
   rintro c z ⟨rfl,la,o,rfl,a1,a2,a3,a4⟩;exact⟨rfl,la,o,rfl,a1,a3,a4,fun h=>by omega⟩
  case s3=>
   rintro x c z _ p ⟨rfl,la,o,rfl,a1,a2,a3,a4⟩;dsimp only;by_cases b:o≥a+1
   .rw[if_pos b];exact am ⟨rfl,la,o,rfl,a1,a3,a4,fun h=>by omega⟩
   .rw[if_neg b]
    refine ah (g (by omega) ?_);cases q2:B (a - o) with
    |true=>simp only[if_true];exact am ⟨rfl,la,o,rfl,a1,a3,a4,fun _=>q2⟩
    |false=>simp only[Pj,if_false];exact am ⟨rfl,_,_,rfl,by omega,by omega,by omega,q2⟩
end
end TS
namespace TS
open PySem PyProof.Rows
set_option autoImplicit true
abbrev KL:=Array Keyed
abbrev SM:=StateT SortSt Sem
def Ob:KL->KL->SM KL:=sortPriv% PySem.Builtin.mergeLo
def B7 (g:Nat):SM Unit:=(sortPriv% PySem.Builtin.setMinGallop) g
abbrev LS:=Option KL×KL×Nat×Nat×Nat
abbrev Nx:=Option KL×KL×Nat×Nat×Nat×Nat
abbrev JQ:=Option KL×KL×Nat×Nat×Nat×Nat×Nat
def dn (a b c:KL) (e d:Nat):KL:=c++a.extract e a.size++b.extract d b.size
def la (a b c:KL) (e d:Nat):KL:=c++b.extract d b.size++a.extract e a.size
def NB (a b c:KL) (d e g ac bc:Nat):SM (ForInStep JQ):=do
 let x<-elem' a d
 if d+1+1==a.size then pure (.done (lD (la a b (c.push x) (d+1) e),c.push x,d+1,e,g,ac,bc))
 else if ac<7&&bc<7 then pure (.done (Ld,c.push x,d+1,e,g,ac,bc)) else pure (.yield (Ld,c.push x,d+1,e,g,ac,bc))
def F1 (a b d:KL) (e c g ac bc:Nat):SM (ForInStep JQ):=do
 let y<-elem' b c
 if c+1==b.size then pure (.done (lD (dn a b (d.push y) e (c+1)),d.push y,e,c+1,g,ac,bc))
 else do
  let x<-elem' a e
  match<-Iz Pb x b (c+1) (b.size - (c+1)) 0 with
  |some k=>
   if k>0 then
    if c+1+k==b.size then pure (.done (lD (dn a b (d.push y++b.extract (c+1) (c+1+k)) e (c+1+k)),d.push y++b.extract (c+1) (c+1+k),e,c+1+k,g,ac,k))
    else NB a b (d.push y++b.extract (c+1) (c+1+k)) e (c+1+k) g ac k
   else NB a b (d.push y) e (c+1) g ac k
  |none=>pure (.done (lD (dn a b (d.push y) e (c+1)),d.push y,e,c+1,g,ac,bc))
def MG (a b d:KL) (c e g ac bc:Nat):SM (ForInStep JQ):=do
 B7 g
 let y<-elem' b e
 match<-Iz Ph y a c (a.size - c) 0 with
 |some k=>
  if k>0 then
   if c+k+1==a.size then pure (.done (lD (la a b (d++a.extract c (c+k)) (c+k) e),d++a.extract c (c+k),c+k,e,g,k,bc))
   else if c+k==a.size then pure (.done (lD (dn a b (d++a.extract c (c+k)) (c+k) e),d++a.extract c (c+k),c+k,e,g,k,bc))
   else F1 a b (d++a.extract c (c+k)) (c+k) e g k bc
  else F1 a b d c e g k bc
 |none=>pure (.done (lD (dn a b d c e),d,c,e,g,ac,bc))
def l1 (a b:KL) (g:Nat) (c:Nx):SM (ForInStep Nx):=do
 let y<-elem' b c.2.2.2.1
 let x<-elem' a c.2.2.1
 match<-lt' y x with
 |some w=>
  if w=Pb then do
   let y<-elem' b c.2.2.2.1
   if c.2.2.2.1+1==b.size then pure (.done (lD (dn a b (c.2.1.push y) c.2.2.1 (c.2.2.2.1+1)),c.2.1.push y,c.2.2.1,c.2.2.2.1+1,0,c.2.2.2.2.2+1))
   else if c.2.2.2.2.2+1≥g then pure (.done (Ld,c.2.1.push y,c.2.2.1,c.2.2.2.1+1,0,c.2.2.2.2.2+1)) else pure (.yield (Ld,c.2.1.push y,c.2.2.1,c.2.2.2.1+1,0,c.2.2.2.2.2+1))
  else do
   let x<-elem' a c.2.2.1
   if c.2.2.1+1+1==a.size then pure (.done (lD (la a b (c.2.1.push x) (c.2.2.1+1) c.2.2.2.1),c.2.1.push x,c.2.2.1+1,c.2.2.2.1,c.2.2.2.2.1+1,0))
   else if c.2.2.2.2.1+1≥g then pure (.done (Ld,c.2.1.push x,c.2.2.1+1,c.2.2.2.1,c.2.2.2.2.1+1,0)) else pure (.yield (Ld,c.2.1.push x,c.2.2.1+1,c.2.2.2.1,c.2.2.2.2.1+1,0))
 |none=>pure (.done (lD (dn a b c.2.1 c.2.2.1 c.2.2.2.1),c.2.1,c.2.2.1,c.2.2.2.1,c.2.2.2.2.1,c.2.2.2.2.2))
def l0 (a b:KL) (s:LS):SM (ForInStep LS):=do
 let c<-forIn [0:a.size+b.size] ((Ld,s.2.1,s.2.2.1,s.2.2.2.1,0,0):Nx) fun _ c=>l1 a b s.2.2.2.2 c
 match c.1 with
 |some r=>pure (.done (lD r,c.2.1,c.2.2.1,c.2.2.2.1,s.2.2.2.2))
 |none=>do
  rule "list.sort.gallop"
  let d<-forIn [0:a.size+b.size] ((Ld,c.2.1,c.2.2.1,c.2.2.2.1,s.2.2.2.2+1,c.2.2.2.2.1,c.2.2.2.2.2):JQ) fun _ d=>
   if d.2.2.2.2.1>1 then MG a b d.2.1 d.2.2.1 d.2.2.2.1 (d.2.2.2.2.1 - 1) d.2.2.2.2.2.1 d.2.2.2.2.2.2 else MG a b d.2.1 d.2.2.1 d.2.2.2.1 d.2.2.2.2.1 d.2.2.2.2.2.1 d.2.2.2.2.2.2
  match d.1 with
  |some r=>pure (.done (lD r,d.2.1,d.2.2.1,d.2.2.2.1,d.2.2.2.2.1))
  |none=>do
   B7 (d.2.2.2.2.1+1)
   pure (.yield (Ld,d.2.1,d.2.2.1,d.2.2.2.1,d.2.2.2.2.1+1))
theorem KB (a b:KL):Ob a b=(do
 rule "list.sort.merge-lo"
 let y<-elem' b 0
 if(1==b.size)=Pb then pure (dn a b #[y] 0 1)
 else if(0+1==a.size)=Pb then pure (la a b #[y] 0 1)
 else do
  let g<-get
  let s<-forIn [0:a.size+b.size] ((Ld,#[y],0,1,gallopOf g):LS) fun _ s=>l0 a b s
  match s.1 with
  |some r=>pure r
  |none=>unsupported "internal:list.sort.merge-bound"):=by
 show(bind _ _:SM KL)=bind _ _;dsimp only;congr 1;funext _u;congr 1;funext y;refine ite_congr rfl (fun _=>rfl) fun _=> ?_;refine ite_congr rfl (fun _=>rfl) fun _=> ?_;congr 1;funext g;congr 1
 .congr 1;funext _x s
  unfold l0;congr 1
  .congr 1;funext _x c
   unfold l1;congr 1;funext y;congr 1;funext x;congr 1;funext v;cases v with
   |none=>rfl
   |some v=>rfl
  .funext c
   obtain⟨r,c⟩:=c;cases r with
   |some r=>rfl
   |none=>
    dsimp only;congr 1;funext _v;congr 1
    .congr 1;funext _x d
     have f:∀g',(do
       B7 g'
       let y<-elem' b d.2.2.2.1
       match<-Iz Ph y a d.2.2.1 (a.size - d.2.2.1) 0 with
       |some k=>
        if k>0 then
         if d.2.2.1+k+1==a.size then pure (.done (lD (la a b (d.2.1++a.extract d.2.2.1 (d.2.2.1+k)) (d.2.2.1+k) d.2.2.2.1),d.2.1++a.extract d.2.2.1 (d.2.2.1+k),d.2.2.1+k,d.2.2.2.1,g',k,d.2.2.2.2.2.2))
         else if d.2.2.1+k==a.size then pure (.done (lD (dn a b (d.2.1++a.extract d.2.2.1 (d.2.2.1+k)) (d.2.2.1+k) d.2.2.2.1),d.2.1++a.extract d.2.2.1 (d.2.2.1+k),d.2.2.1+k,d.2.2.2.1,g',k,d.2.2.2.2.2.2))
         else F1 a b (d.2.1++a.extract d.2.2.1 (d.2.2.1+k)) (d.2.2.1+k) d.2.2.2.1 g' k d.2.2.2.2.2.2
        else F1 a b d.2.1 d.2.2.1 d.2.2.2.1 g' k d.2.2.2.2.2.2
       |none=>pure (.done (lD (dn a b d.2.1 d.2.2.1 d.2.2.2.1),d.2.1,d.2.2.1,d.2.2.2.1,g',d.2.2.2.2.2.1,d.2.2.2.2.2.2)):SM (ForInStep JQ))=MG a b d.2.1 d.2.2.1 d.2.2.2.1 g' d.2.2.2.2.2.1 d.2.2.2.2.2.2:=fun _=>rfl
     refine ite_congr rfl (fun _=> ?_) fun _=> ?_
     .rw[<-f]
      congr 1;funext _z;congr 1;funext y;congr 1;funext k;cases k with
      |none=>rfl
      |some k=>
       dsimp only;refine ite_congr rfl (fun _=> ?_) fun _=> ?_
       .refine ite_congr rfl (fun _=>rfl) fun _=> ?_
        refine ite_congr rfl (fun _=>rfl) fun _=> ?_;unfold F1;congr 1;funext y;refine ite_congr rfl (fun _=>rfl) fun _=> ?_;congr 1;funext x;congr 1;funext e;cases e with
        |none=>rfl
        |some e=>rfl
       .unfold F1;congr 1;funext y
        refine ite_congr rfl (fun _=>rfl) fun _=> ?_;congr 1;funext x;congr 1;funext e;cases e with
        |none=>rfl
        |some e=>rfl
     .rw[<-f]
      congr 1;funext _z;congr 1;funext y;congr 1;funext k;cases k with
      |none=>rfl
      |some k=>
       dsimp only;refine ite_congr rfl (fun _=> ?_) fun _=> ?_
       .refine ite_congr rfl (fun _=>rfl) fun _=> ?_
        refine ite_congr rfl (fun _=>rfl) fun _=> ?_;unfold F1;congr 1;funext y;refine ite_congr rfl (fun _=>rfl) fun _=> ?_;congr 1;funext x;congr 1;funext e;cases e with
        |none=>rfl
        |some e=>rfl
       .unfold F1;congr 1;funext y
        refine ite_congr rfl (fun _=>rfl) fun _=> ?_;congr 1;funext x;congr 1;funext e;cases e with
        |none=>rfl
        |some e=>rfl
    .funext d
     obtain⟨r,d⟩:=d;cases r with
     |some r=>rfl
     |none=>rfl
 .funext s
  obtain⟨r,s⟩:=s;cases r with
  |some r=>rfl
  |none=>rfl
end TS
namespace TS
open PySem PyProof.Rows
set_option autoImplicit true
abbrev Le (f:Keyed->Nat) (x y:Keyed):Prop:=f x<=f y
structure Ok (f:Keyed->Nat) (T o:List Keyed):Prop where
 perm:o.Perm T
 so:o.Pairwise (Le f)
structure Mi (f:Keyed->Nat) (T o X Y:List Keyed):Prop where
 perm:(o++(X++Y)).Perm T
 so:o.Pairwise (Le f)
 bd:∀p∈o,∀z,z∈X\/z∈Y->f p<=f z
 sx:X.Pairwise (Le f)
 sy:Y.Pairwise (Le f)
section
variable {f:Keyed->Nat} {T o X Y P:List Keyed}
theorem Mi.x (m:Mi f T o (P++X) Y) (h:∀p∈P,∀y∈Y,f p<=f y):Mi f T (o++P) X Y where
 perm:=by have:=m.perm;rwa [PR] at this⊢
 so:=Qg.mpr ⟨m.so,(Qg.mp m.sx).1,fun p b z a=>m.bd p b z (.inl (Qs _ a))⟩
 bd:=fun p b z a=>by
  rcases Pw.mp b with q|q
  .exact m.bd p q z (a.imp (PM _) id)
  .rcases a with a|a
   .exact(Qg.mp m.sx).2.2 p q z a
   .exact h p q z a
 sx:=(Qg.mp m.sx).2.1
 sy:=m.sy
theorem Mi.swap (m:Mi f T o X Y):Mi f T o Y X where
 perm:=(agj o UC).trans m.perm
 so:=m.so
 bd:=fun p b z a=>m.bd p b z a.symm
 sx:=m.sy
 sy:=m.sx
theorem Mi.y (m:Mi f T o X (P++Y)) (h:∀p∈P,∀x∈X,f p<=f x):Mi f T (o++P) X Y:=(m.swap.x h).swap
theorem Mi.dn (m:Mi f T o X Y) (h:∀x∈X,∀y∈Y,f x<=f y):Ok f T (o++X++Y) where
 perm:=by rw[PR];exact m.perm
 so:=by rw[PR];refine Qg.mpr ⟨m.so,Qg.mpr ⟨m.sx,m.sy,h⟩,fun p b z a=>m.bd p b z (Pw.mp a)⟩
theorem Mi.la (m:Mi f T o X Y) (h:∀y∈Y,∀x∈X,f y<=f x):Ok f T (o++Y++X):=m.swap.dn h
end
section
variable {prog:PF} {w:Qc} {A:PX} {E:OW->Pa->Prop} {J:Pa->Prop} {κ:SortKind} {Z:Array Keyed} {f:Keyed->Nat}
structure Ge (st z:SortSt):Prop where
 kind:kindOf z=kindOf st
 failed:failedOf z=failedOf st
 arr:arrOf z=arrOf st
 pend:pendingOf z=pendingOf st
theorem Ge.rfl {st:SortSt}:Ge st st:=⟨Eq.refl _,Eq.refl _,Eq.refl _,Eq.refl _⟩
theorem oj {st z:SortSt} (e:Ge st z) {g:Nat} {Q:Unit->SortSt->Prop} (h:∀y,Ge st y->Q () y):gP (model prog w) A E J (B7 g) Q z:=
 ie (h _ ⟨e.kind,e.failed,e.arr,e.pend⟩)
variable {a b:KL}
theorem qQ (i j:Nat):(a.extract i j).toList=(a.toList.drop i).take (j - i):=by rw[Array.toList_extract]
theorem F9 (i:Nat):(a.extract i a.size).toList=a.toList.drop i:=by rw[qQ,QC];simp
theorem NJ (c:KL) (e d:Nat):(dn a b c e d).toList=c.toList++a.toList.drop e++b.toList.drop d:=by unfold dn;rw[Qo,Qo,F9,F9]
theorem NK (c:KL) (e d:Nat):(la a b c e d).toList=c.toList++b.toList.drop d++a.toList.drop e:=by unfold la;rw[Qo,Qo,F9,F9]
theorem FY {i:Nat} (h:i<a.size):a.toList.drop i=[a[i]]++a.toList.drop (i+1):=by rw[QA (by simpa using h)];simp
theorem Fc (i k:Nat):a.toList.drop i=(a.toList.drop i).take k++a.toList.drop (i+k):=by rw[<-ZX];exact(QH k _).symm
structure V1 (f:Keyed->Nat) (Z:Array Keyed) (a b:KL):Prop where
 sa:a.toList.Pairwise (Le f)
 sb:b.toList.Pairwise (Le f)
 ma:∀x∈a.toList,x∈Z.toList
 mb:∀x∈b.toList,x∈Z.toList
 na:0<a.size
 nb:0<b.size
 last:∀y∈b.toList,f y<=f a[a.size - 1]
 first:∀x∈a.toList,f b[0]<=f x
theorem V1.xs (t:V1 f Z a b) {i j:Nat} (h:i<=j) (c:j<a.size):f a[i]<=f a[j]:=by
 by_cases e:i=j
 .subst e;exact O8 _
 .have:=Q1.mp t.sa i j (by simp;omega) (by simp;omega) (by omega)
  simpa using this
theorem V1.ys (t:V1 f Z a b) {i j:Nat} (h:i<=j) (c:j<b.size):f b[i]<=f b[j]:=by
 by_cases e:i=j
 .subst e;exact O8 _
 .have:=Q1.mp t.sb i j (by simp;omega) (by simp;omega) (by omega)
  simpa using this
theorem iS {i:Nat} {x:Keyed} (h:x∈a.toList.drop i):∃j,∃hj:j<a.size,i<=j/\x=a[j]:=by obtain⟨j,hj,e⟩:=RI h;rw[Yq] at e;exact⟨i+j,by simp at hj;omega,by omega,by simpa using e.symm⟩
theorem jc {i:Nat} {x:Keyed} (h:x∈a.toList.take i):∃j,∃hj:j<a.size,j<i/\x=a[j]:=by obtain⟨j,hj,e⟩:=RI h;rw[Vj] at e;simp at hj;exact⟨j,by omega,by omega,by simpa using e.symm⟩
theorem sg {i k:Nat} {x:Keyed} (h:x∈(a.toList.drop i).take k):∃j,∃hj:j<a.size,i<=j/\j<i+k/\x=a[j]:=by obtain⟨j,hj,e⟩:=RI h;rw[Vj,Yq] at e;simp at hj;exact⟨i+j,by omega,by omega,by omega,by simpa using e.symm⟩
structure Hd (f:Keyed->Nat) (a b out:KL) (ia ib:Nat):Prop where
 mi:Mi f (a.toList++b.toList) out.toList (a.toList.drop ia) (b.toList.drop ib)
 ia:ia<a.size
 ib:ib<b.size
theorem Mi.px {c:KL} {d e:Nat} (m:Mi f (a.toList++b.toList) c.toList (a.toList.drop d) (b.toList.drop e)) (h:d<a.size) (q:∀j (g:j<b.size),e<=j->f a[d]<=f b[j]):
  Mi f (a.toList++b.toList) (c.push a[d]).toList (a.toList.drop (d+1)) (b.toList.drop e):=by
 rw[FY h] at m;rw[SQ];refine m.x fun p l y i=> ?_;rw[Pk.mp l];obtain⟨j,g,h1,rfl⟩:=iS i;exact q j g h1
theorem Mi.py {c:KL} {e d:Nat} (m:Mi f (a.toList++b.toList) c.toList (a.toList.drop e) (b.toList.drop d)) (h:d<b.size) (q:∀j (g:j<a.size),e<=j->f b[d]<=f a[j]):
  Mi f (a.toList++b.toList) (c.push b[d]).toList (a.toList.drop e) (b.toList.drop (d+1)):=by
 rw[FY h] at m;rw[SQ];refine m.y fun p l y i=> ?_;rw[Pk.mp l];obtain⟨j,g,h1,rfl⟩:=iS i;exact q j g h1
theorem Mi.kx {d:KL} {c e k:Nat} (m:Mi f (a.toList++b.toList) d.toList (a.toList.drop c) (b.toList.drop e)) (q:∀i (hi:i<a.size),c<=i->i<c+k->∀j (g:j<b.size),e<=j->f a[i]<=f b[j]):
  Mi f (a.toList++b.toList) (d++a.extract c (c+k)).toList (a.toList.drop (c+k)) (b.toList.drop e):=by
 rw[Fc c k] at m;rw[Qo,qQ,SK];refine m.x fun p l y h=> ?_;obtain⟨i,hi,h1,o,rfl⟩:=sg l;obtain⟨j,g,n,rfl⟩:=iS h;exact q i hi h1 o j g n
theorem Mi.ky {d:KL} {e c k:Nat} (m:Mi f (a.toList++b.toList) d.toList (a.toList.drop e) (b.toList.drop c)) (q:∀i (hi:i<b.size),c<=i->i<c+k->∀j (g:j<a.size),e<=j->f b[i]<=f a[j]):
  Mi f (a.toList++b.toList) (d++b.extract c (c+k)).toList (a.toList.drop e) (b.toList.drop (c+k)):=by
 rw[Fc c k] at m;rw[Qo,qQ,SK];refine m.y fun p l y h=> ?_;obtain⟨i,hi,h1,o,rfl⟩:=sg l;obtain⟨j,g,n,rfl⟩:=iS h;exact q i hi h1 o j g n
theorem Mi.nb {c:KL} {e d:Nat} (m:Mi f (a.toList++b.toList) c.toList (a.toList.drop e) (b.toList.drop d)) (h:b.size<=d\/a.size<=e):Ok f (a.toList++b.toList) (TS.dn a b c e d).toList:=by rw[NJ];refine m.dn fun x i y g=> ?_;obtain⟨j,l,h1,rfl⟩:=iS i;obtain⟨j,l,h1,rfl⟩:=iS g;omega
theorem Mi.l1 (t:V1 f Z a b) {c:KL} {d e:Nat} (m:Mi f (a.toList++b.toList) c.toList (a.toList.drop d) (b.toList.drop e)) (h:d+1=a.size):Ok f (a.toList++b.toList) (TS.la a b c d e).toList:=by
 rw[NK];refine m.la fun y g x i=> ?_;obtain⟨j,l,h1,rfl⟩:=iS i;have:j=a.size - 1:=by omega
 subst this;exact t.last y (Xq g)
end
end TS
namespace TS
open PySem PyProof.Rows
set_option autoImplicit true
section
variable {prog:PF} {w:Qc} {A:PX} {E:OW->Pa->Prop} {J:Pa->Prop} {κ:SortKind} {Z:Array Keyed} {f:Keyed->Nat} {a b:KL}
theorem V1.ina (t:V1 f Z a b) {i:Nat} (h:i<a.size):a[i]∈Z.toList:=t.ma _ (by simp)
theorem V1.inb (t:V1 f Z a b) {i:Nat} (h:i<b.size):b[i]∈Z.toList:=t.mb _ (by simp)
def T2 (f:Keyed->Nat) (a b:KL) (st:SortSt) (n:Nat) (d:JQ) (z:SortSt):Prop:=Ge st z/\((∃r,d.1=lD r/\Ok f (a.toList++b.toList) r.toList)\/(d.1=Ld/\Hd f a b d.2.1 d.2.2.1 d.2.2.2.1/\d.2.2.1+1<a.size/\n<=d.2.2.1+d.2.2.2.1))
abbrev F2 (f:Keyed->Nat) (a b:KL) (st:SortSt) (n:Nat) (r:ForInStep JQ) (z:SortSt):Prop:=match r with
 | .done d=>T2 f a b st n d z
 | .yield d=>d.1=Ld/\T2 f a b st n d z
theorem EJ (t:V1 f Z a b) {l:KL} {h i g ac bc n:Nat} {st z:SortSt} (e:Ge st z) (m:Mi f (a.toList++b.toList) l.toList (a.toList.drop h) (b.toList.drop i)) (h1:h+1<a.size) (o:i<b.size) (hn:n<=h+i)
  (q:∀j (p:j<b.size),i<=j->f a[h]<=f b[j]):gP (model prog w) A E J (NB a b l h i g ac bc) (F2 f a b st n) z:=by
 unfold NB;refine ah (bD (getElem?_pos a h (by omega)) ?_);have m:=m.px (by omega) q;by_cases c:h+1+1=a.size
 .rw[if_pos (by simpa using c)];exact am ⟨e,.inl ⟨_,rfl,m.l1 t c⟩⟩
 .rw[if_neg (by simpa using c)]
  by_cases d:(decide (ac<7)&&decide (bc<7))=Pb
  .rw[if_pos d];exact am ⟨e,.inr ⟨rfl,⟨m,by omega,o⟩,by show h+1+1<_;omega,by show n<=h+1+i;omega⟩⟩
  .rw[if_neg d];exact am ⟨rfl,e,.inr ⟨rfl,⟨m,by omega,o⟩,by show h+1+1<_;omega,by show n<=h+1+i;omega⟩⟩
theorem Ej (C:Ask prog w A E J κ (·∈Z.toList) f) (t:V1 f Z a b) {p:KL} {l d g ac bc n:Nat} {st z:SortSt} (k:kindOf st=κ) (e:Ge st z) (m:Mi f (a.toList++b.toList) p.toList (a.toList.drop l) (b.toList.drop d)) (h1:l+1<a.size) (F:d<b.size) (hn:n<=l+d)
  (q:∀j (r:j<a.size),l<=j->f b[d]<=f a[j]):gP (model prog w) A E J (F1 a b p l d g ac bc) (F2 f a b st n) z:=by
 unfold F1;refine ah (bD (getElem?_pos b d F) ?_);have m:=m.py F q;by_cases c:d+1=b.size
 .rw[if_pos (by simpa using c)];exact am ⟨e,.inl ⟨_,rfl,m.nb (.inl (by omega))⟩⟩
 .rw[if_neg (by simpa using c)]
  refine ah (bD (getElem?_pos a l (by omega)) ?_);refine ah (my C (e.kind.trans k) (t.ina (by omega)) (fun i=>decide (if h:d+1+i<b.size then f b[d+1+i]<f a[l] else False)) (fun i hi=>⟨b[d+1+i],t.inb _,getElem?_pos b _ (by omega),?_⟩) (fun i j O r q=> ?_) (by omega) fun o N K I=> ?_)
  .unfold Bt;simp only[if_true];exact decide_eq_decide.mpr (by rw[dif_pos (by omega)])
  .have q:=of_decide_eq_true q;rw[dif_pos (by omega)] at q;refine decide_eq_true ?_;rw[dif_pos (by omega)];exact TC (t.ys (by omega) (by omega)) q
  have M:∀i (hi:i<b.size),d+1<=i->i<d+1+o->f b[i]<f a[l]:=fun i hi u B=>by
   have:=of_decide_eq_true (K (i - (d+1)) (by omega));rw[dif_pos (by omega)] at this;have e:d+1+(i - (d+1))=i:=by omega
   simp only[e] at this;exact this
  have H:∀i (hi:i<b.size),d+1+o<=i->f a[l]<=f b[i]:=fun i hi u=>by
   have:=of_decide_eq_false (I (i - (d+1)) (by omega) (by omega));rw[dif_pos (by omega)] at this;have e:d+1+(i - (d+1))=i:=by omega
   simp only[e] at this;exact RL this
  dsimp only;by_cases v:o>0
  .rw[if_pos v]
   have m:=m.ky (k:=o) fun i hi u B j r L=>Pp (QJ (M i hi u B)) (t.xs L r);by_cases G:d+1+o=b.size
   .rw[if_pos (by simpa using G)];exact am ⟨e,.inl ⟨_,rfl,m.nb (.inl (by omega))⟩⟩
   .rw[if_neg (by simpa using G)];exact EJ t e m h1 (by omega) (by omega) H
  .rw[if_neg v]
   have:o=0:=by omega
   subst this;exact EJ t e m h1 (by omega) (by omega) H
theorem JX (C:Ask prog w A E J κ (·∈Z.toList) f) (t:V1 f Z a b) {p:KL} {d l g ac bc n:Nat} {st z:SortSt} (k:kindOf st=κ) (e:Ge st z) (m:Mi f (a.toList++b.toList) p.toList (a.toList.drop d) (b.toList.drop l)) (h1:d+1<a.size) (r:l<b.size) (hn:n<=d+l):
  gP (model prog w) A E J (MG a b p d l g ac bc) (F2 f a b st n) z:=by
 unfold MG;refine ah (oj e fun y e=> ?_);refine ah (bD (getElem?_pos b l r) ?_);refine ah (my C (e.kind.trans k) (t.inb r) (fun i=>decide (if h:d+i<a.size then f a[d+i]<=f b[l] else False)) (fun i hi=>⟨a[d+i],t.ina _,getElem?_pos a _ (by omega),?_⟩) (fun i j O B q=> ?_) (by omega) fun o N K I=> ?_)
 .unfold Bt;simp only[Pj,if_false];exact decide_eq_decide.mpr (by rw[dif_pos (by omega)])
 .have q:=of_decide_eq_true q;rw[dif_pos (by omega)] at q;refine decide_eq_true ?_;rw[dif_pos (by omega)];exact Pp (t.xs (by omega) (by omega)) q
 have M:∀i (hi:i<a.size),d<=i->i<d+o->f a[i]<=f b[l]:=fun i hi u F=>by
  have:=of_decide_eq_true (K (i - d) (by omega));rw[dif_pos (by omega)] at this;have e:d+(i - d)=i:=by omega
  simp only[e] at this;exact this
 have H:∀i (hi:i<a.size),d+o<=i->f b[l]<=f a[i]:=fun i hi u=>by
  have:=of_decide_eq_false (I (i - d) (by omega) (by omega));rw[dif_pos (by omega)] at this;have e:d+(i - d)=i:=by omega
  simp only[e] at this;omega
 dsimp only;by_cases v:o>0
 .rw[if_pos v]
  have m:=m.kx (k:=o) fun i hi u F j B L=>Pp (M i hi u F) (t.ys L B);by_cases c:d+o+1=a.size
  .rw[if_pos (by simpa using c)];exact am ⟨e,.inl ⟨_,rfl,m.l1 t c⟩⟩
  .rw[if_neg (by simpa using c)]
   by_cases G:d+o=a.size
   .rw[if_pos (by simpa using G)];exact am ⟨e,.inl ⟨_,rfl,m.nb (.inr (by omega))⟩⟩
   .rw[if_neg (by simpa using G)];exact Ej C t k e m (by omega) r (by omega) H
 .rw[if_neg v]
  have:o=0:=by omega
  subst this;exact Ej C t k e m h1 r hn H
theorem LJ (C:Ask prog w A E J κ (·∈Z.toList) f) (t:V1 f Z a b) {p:KL} {d n g ac bc:Nat} {st z:SortSt} (k:kindOf st=κ) (e:Ge st z) (m:Mi f (a.toList++b.toList) p.toList (a.toList.drop d) (b.toList.drop n)) (h1:d+1<a.size) (q:n<b.size)
  {Q:ForInStep Nx->SortSt->Prop} (F:∀r c,Ok f (a.toList++b.toList) r.toList->Q (.done (lD r,c)) z)
  (h:∀o i j x y,Hd f a b o i j->i+1<a.size->i+j=d+n+1->Q (.done (Ld,o,i,j,x,y)) z/\Q (.yield (Ld,o,i,j,x,y)) z):
  gP (model prog w) A E J (l1 a b g (Ld,p,d,n,ac,bc)) Q z:=by
 unfold l1;dsimp only;have u:d<a.size:=by omega
 refine ah (bD (getElem?_pos b n q) ?_);refine ah (bD (getElem?_pos a d u) ?_);refine ah (w9 C (t.inb q) (t.ina u) (e.kind.trans k) ?_);dsimp only;by_cases l:f b[n]<f a[d]
 .rw[if_pos (decide_eq_true l)]
  refine ah (bD (getElem?_pos b n q) ?_);have m:=m.py q fun j v B=>Pp (QJ l) (t.xs B v);by_cases c:n+1=b.size
  .rw[if_pos (by simpa using c)];exact am (F _ _ (m.nb (.inl (by omega))))
  .rw[if_neg (by simpa using c)]
   have h:=fun x y=>h _ _ _ x y ⟨m,u,by omega⟩ h1 (by omega);split
   .exact am (h _ _).1
   .exact am (h _ _).2
 .rw[if_neg (by simpa using l)]
  refine ah (bD (getElem?_pos a d u) ?_);have m:=m.px u fun j v B=>Pp (RL l) (t.ys B v);by_cases c:d+1+1=a.size
  .rw[if_pos (by simpa using c)];exact am (F _ _ (m.l1 t c))
  .rw[if_neg (by simpa using c)]
   have h:=fun x y=>h _ _ _ x y ⟨m,by omega,q⟩ (by omega) (by omega);split
   .exact am (h _ _).1
   .exact am (h _ _).2
theorem KP (C:Ask prog w A E J κ (·∈Z.toList) f) (t:V1 f Z a b) {st:SortSt} (k:kindOf st=κ) {Q:KL->SortSt->Prop} (h:∀r z,Ge st z->Ok f (a.toList++b.toList) r.toList->Q r z):
  gP (model prog w) A E J (Ob a b) Q st:=by
 rw[KB];refine ah (j5 ?_);refine ah (bD (getElem?_pos b 0 t.nb) ?_);have G:Mi f (a.toList++b.toList) (#[]:KL).toList (a.toList.drop 0) (b.toList.drop 0):=⟨by simp,.nil,fun p H=>by simp at H,t.sa,t.sb⟩;have m:=G.py t.nb fun j N _=>t.first _ (by simp);have nb:=t.nb;have K:(#[]:KL).push (b[0])= #[b[0]]:=rfl;rw[K] at m;by_cases c:1=b.size
 .rw[if_pos (by simpa using c)];exact am (h _ _ .rfl (m.nb (.inl (by omega))))
 rw[if_neg (by simpa using c)];by_cases c:0+1=a.size
 .rw[if_pos (by simpa using c)];exact am (h _ _ .rfl (m.l1 t c))
 rw[if_neg (by simpa using c)];have nb:=t.nb;have M:=t.na;refine ah (fN (ah (bJ (cW (I:=fun x c z=>Ge st z/\c.1=Ld/\Hd f a b c.2.1 c.2.2.1 c.2.2.2.1/\c.2.2.1+1<a.size/\x+1<=c.2.2.1+c.2.2.2.1)
  (Q:=fun c z=>Ge st z/\∃r,c.1=lD r/\Ok f (a.toList++b.toList) r.toList) ?zs ?zf ⟨.rfl,rfl,⟨m,by show 0<_;omega,by show 1<_;omega⟩,by show 0+1<_;omega,O8 _⟩) ?zp)))
 case zp=>
  rintro⟨_,c⟩ z ⟨e,r,rfl,o⟩;exact am (h r z e o)
 case zf=>
  rintro c z ⟨e,_,d,h1,l⟩;have:=d.ib;omega
 case zs=>
  rintro x ⟨_,n,v,u,g⟩ z _ B ⟨e,rfl,d,h1,l⟩;dsimp only at d h1 l⊢;unfold l0;dsimp only;refine ah (bJ (cW (I:=fun y c z=>Ge st z/\c.1=Ld/\Hd f a b c.2.1 c.2.2.1 c.2.2.2.1/\c.2.2.1+1<a.size/\y+(x+1)<=c.2.2.1+c.2.2.2.1)
   (Q:=fun c z=>Ge st z/\((∃r,c.1=lD r/\Ok f (a.toList++b.toList) r.toList)\/(c.1=Ld/\Hd f a b c.2.1 c.2.2.1 c.2.2.2.1/\c.2.2.1+1<a.size/\x+1+1<=c.2.2.1+c.2.2.2.1))) ?s1 ?f1 ⟨e,rfl,d,h1,by show 0+(x+1)<=v+u;omega⟩) ?p1)
  case f1=>
   rintro c z ⟨e,_,d,h1,l⟩;have:=d.ib;omega
  case s1=>
   rintro y ⟨_,n,v,u,ac,bc⟩ z _ B ⟨e,rfl,d,h1,l⟩;dsimp only at d h1 l;exact LJ C t k e d.mi h1 d.ib (fun r c o=>⟨e,.inl ⟨r,rfl,o⟩⟩) fun o i j x y d F O=>⟨⟨e,.inr ⟨rfl,d,F,by dsimp only;omega⟩⟩,⟨e,rfl,d,F,by dsimp only;omega⟩⟩
  case p1=>
   rintro⟨_,n,v,u,ac,bc⟩ z ⟨e,⟨r,rfl,o⟩|⟨rfl,d,h1,l⟩⟩
   .exact am ⟨e,r,rfl,o⟩
   dsimp only at d h1 l⊢;refine ah (j5 ?_);refine ah (bJ (cW (I:=fun y c z=>c.1=Ld/\T2 f a b st (x+1+1) c z) (Q:=fun c z=>T2 f a b st (x+1+1) c z) ?s2 (fun c z q=>q.2) ⟨rfl,e,.inr ⟨rfl,d,h1,l⟩⟩) ?p2)
   case s2=>
    rintro y ⟨_,n,v,u,g,ac,bc⟩ z _ B ⟨rfl,e,⟨r,c,_⟩|⟨_,d,h1,l⟩⟩
    .cases c
    dsimp only at d h1 l⊢;have L:=fun g=>JX C t (g:=g) (ac:=ac) (bc:=bc) k e d.mi h1 d.ib l;split
    .refine bJ (L _) fun r z q=> ?_;cases r<;>exact q
    .refine bJ (L _) fun r z q=> ?_;cases r<;>exact q
   case p2=>
    rintro⟨_,n,v,u,g,ac,bc⟩ z ⟨e,⟨r,rfl,o⟩|⟨rfl,d,h1,l⟩⟩
    .exact am ⟨e,r,rfl,o⟩
    refine ah (oj e fun y e=>am ⟨e,rfl,d,h1,l⟩)
end
end TS
namespace TS
open PySem PyProof.Rows
set_option autoImplicit true
def NY:KL->KL->SM KL:=sortPriv% PySem.Builtin.mergeHi
abbrev HS:=Option KL×Nat×Nat×KL×Nat
abbrev NC:=Option KL×Nat×Nat×KL×Nat×Nat
abbrev Lp:=Option KL×Nat×Nat×KL×Nat×Nat×Nat
def dh (a b c:KL) (na nb:Nat):KL:=a.extract 0 na++b.extract 0 nb++c.reverse
def fb (a b c:KL) (na nb:Nat):KL:=b.extract 0 nb++a.extract 0 na++c.reverse
def Nq (a b c:KL) (na nb g ac bc:Nat):SM (ForInStep Lp):=do
 let x<-elem' a (na - 1)
 if na - 1==0 then pure (.done (lD (dh a b (c.push x) (na - 1) nb),na - 1,nb,c.push x,g,ac,bc))
 else if ac<7&&bc<7 then pure (.done (Ld,na - 1,nb,c.push x,g,ac,bc)) else pure (.yield (Ld,na - 1,nb,c.push x,g,ac,bc))
def Lx (a b c:KL) (na nb g ac bc:Nat):SM (ForInStep Lp):=do
 let y<-elem' b (nb - 1)
 if nb - 1==1 then pure (.done (lD (fb a b (c.push y) na (nb - 1)),na,nb - 1,c.push y,g,ac,bc))
 else do
  let x<-elem' a (na - 1)
  match<-Iz Pb x b 0 (nb - 1) (nb - 1 - 1) with
  |some k=>
   if nb - 1 - k>0 then
    if k==1 then pure (.done (lD (fb a b (c.push y++(b.extract k (nb - 1)).reverse) na k),na,k,c.push y++(b.extract k (nb - 1)).reverse,g,ac,nb - 1 - k))
    else if k==0 then pure (.done (lD (dh a b (c.push y++(b.extract k (nb - 1)).reverse) na k),na,k,c.push y++(b.extract k (nb - 1)).reverse,g,ac,nb - 1 - k))
    else Nq a b (c.push y++(b.extract k (nb - 1)).reverse) na k g ac (nb - 1 - k)
   else Nq a b (c.push y) na (nb - 1) g ac (nb - 1 - k)
  |none=>pure (.done (lD (dh a b (c.push y) na (nb - 1)),na,nb - 1,c.push y,g,ac,bc))
def MA (a b c:KL) (na nb g ac bc:Nat):SM (ForInStep Lp):=do
 B7 g
 let y<-elem' b (nb - 1)
 match<-Iz Ph y a 0 na (na - 1) with
 |some k=>
  if na - k>0 then
   if k==0 then pure (.done (lD (dh a b (c++(a.extract k na).reverse) k nb),k,nb,c++(a.extract k na).reverse,g,na - k,bc))
   else Lx a b (c++(a.extract k na).reverse) k nb g (na - k) bc
  else Lx a b c na nb g (na - k) bc
 |none=>pure (.done (lD (dh a b c na nb),na,nb,c,g,ac,bc))
def h1 (a b:KL) (g:Nat) (c:NC):SM (ForInStep NC):=do
 let y<-elem' b (c.2.2.1 - 1)
 let x<-elem' a (c.2.1 - 1)
 match<-lt' y x with
 |some w=>
  if w=Pb then do
   let x<-elem' a (c.2.1 - 1)
   if c.2.1 - 1==0 then pure (.done (lD (dh a b (c.2.2.2.1.push x) (c.2.1 - 1) c.2.2.1),c.2.1 - 1,c.2.2.1,c.2.2.2.1.push x,c.2.2.2.2.1+1,0))
   else if c.2.2.2.2.1+1≥g then pure (.done (Ld,c.2.1 - 1,c.2.2.1,c.2.2.2.1.push x,c.2.2.2.2.1+1,0)) else pure (.yield (Ld,c.2.1 - 1,c.2.2.1,c.2.2.2.1.push x,c.2.2.2.2.1+1,0))
  else do
   let y<-elem' b (c.2.2.1 - 1)
   if c.2.2.1 - 1==1 then pure (.done (lD (fb a b (c.2.2.2.1.push y) c.2.1 (c.2.2.1 - 1)),c.2.1,c.2.2.1 - 1,c.2.2.2.1.push y,0,c.2.2.2.2.2+1))
   else if c.2.2.2.2.2+1≥g then pure (.done (Ld,c.2.1,c.2.2.1 - 1,c.2.2.2.1.push y,0,c.2.2.2.2.2+1)) else pure (.yield (Ld,c.2.1,c.2.2.1 - 1,c.2.2.2.1.push y,0,c.2.2.2.2.2+1))
 |none=>pure (.done (lD (dh a b c.2.2.2.1 c.2.1 c.2.2.1),c.2.1,c.2.2.1,c.2.2.2.1,c.2.2.2.2.1,c.2.2.2.2.2))
def h0 (a b:KL) (s:HS):SM (ForInStep HS):=do
 let c<-forIn [0:a.size+b.size] ((Ld,s.2.1,s.2.2.1,s.2.2.2.1,0,0):NC) fun _ c=>h1 a b s.2.2.2.2 c
 match c.1 with
 |some r=>pure (.done (lD r,c.2.1,c.2.2.1,c.2.2.2.1,s.2.2.2.2))
 |none=>do
  rule "list.sort.gallop"
  let d<-forIn [0:a.size+b.size] ((Ld,c.2.1,c.2.2.1,c.2.2.2.1,s.2.2.2.2+1,c.2.2.2.2.1,c.2.2.2.2.2):Lp) fun _ d=>
   if d.2.2.2.2.1>1 then MA a b d.2.2.2.1 d.2.1 d.2.2.1 (d.2.2.2.2.1 - 1) d.2.2.2.2.2.1 d.2.2.2.2.2.2 else MA a b d.2.2.2.1 d.2.1 d.2.2.1 d.2.2.2.2.1 d.2.2.2.2.2.1 d.2.2.2.2.2.2
  match d.1 with
  |some r=>pure (.done (lD r,d.2.1,d.2.2.1,d.2.2.2.1,d.2.2.2.2.1))
  |none=>do
   B7 (d.2.2.2.2.1+1)
   pure (.yield (Ld,d.2.1,d.2.2.1,d.2.2.2.1,d.2.2.2.2.1+1))
theorem Jy (a b:KL):NY a b=(do
 rule "list.sort.merge-hi"
 let x<-elem' a (a.size - 1)
 if(a.size - 1==0)=Pb then pure (dh a b #[x] (a.size - 1) b.size)
 else if(b.size==1)=Pb then pure (fb a b #[x] (a.size - 1) b.size)
 else do
  let g<-get
  let s<-forIn [0:a.size+b.size] ((Ld,a.size - 1,b.size,#[x],gallopOf g):HS) fun _ s=>h0 a b s
  match s.1 with
  |some r=>pure r
  |none=>unsupported "internal:list.sort.merge-bound"):=by
 show(bind _ _:SM KL)=bind _ _;dsimp only;congr 1;funext _u;congr 1;funext y;refine ite_congr rfl (fun _=>rfl) fun _=> ?_;refine ite_congr rfl (fun _=>rfl) fun _=> ?_;congr 1;funext g;congr 1
 .congr 1;funext _x s
  unfold h0;congr 1
  .congr 1;funext _x c
   unfold h1;congr 1;funext y;congr 1;funext x;congr 1;funext v;cases v with
   |none=>rfl
   |some v=>rfl
  .funext c
   obtain⟨r,c⟩:=c;cases r with
   |some r=>rfl
   |none=>
    dsimp only;congr 1;funext _v;congr 1
    .congr 1;funext _x d
     refine ite_congr rfl (fun _=> ?_) fun _=> ?_
     all_goals
      unfold MA;congr 1;funext _z;congr 1;funext y;congr 1;funext k;cases k with
      |none=>rfl
      |some k=>
       dsimp only;refine ite_congr rfl (fun _=> ?_) fun _=> ?_
       .refine ite_congr rfl (fun _=>rfl) fun _=> ?_
        unfold Lx;congr 1;funext y;refine ite_congr rfl (fun _=>rfl) fun _=> ?_;congr 1;funext x;congr 1;funext e;cases e with
        |none=>rfl
        |some e=>rfl
       .unfold Lx;congr 1;funext y
        refine ite_congr rfl (fun _=>rfl) fun _=> ?_;congr 1;funext x;congr 1;funext e;cases e with
        |none=>rfl
        |some e=>rfl
    .funext d
     obtain⟨r,d⟩:=d;cases r with
     |some r=>rfl
     |none=>rfl
 .funext s
  obtain⟨r,s⟩:=s;cases r with
  |some r=>rfl
  |none=>rfl
end TS
namespace TS
open PySem PyProof.Rows
set_option autoImplicit true
structure Mh (f:Keyed->Nat) (T o X Y:List Keyed):Prop where
 perm:(X++Y++o).Perm T
 so:o.Pairwise (Le f)
 bd:∀z,z∈X\/z∈Y->∀p∈o,f z<=f p
 sx:X.Pairwise (Le f)
 sy:Y.Pairwise (Le f)
section
variable {f:Keyed->Nat} {T o X Y P:List Keyed}
theorem Mh.swap (m:Mh f T o X Y):Mh f T o Y X where
 perm:=(agk o UC).trans m.perm
 so:=m.so
 bd:=fun z a=>m.bd z a.symm
 sx:=m.sy
 sy:=m.sx
theorem Mh.y (m:Mh f T o X (Y++P)) (h:∀x∈X,∀p∈P,f x<=f p):Mh f T (P++o) X Y where
 perm:=by have:=m.perm;simpa only[PR] using this
 so:=Qg.mpr ⟨(Qg.mp m.sy).2.1,m.so,fun p b z a=>m.bd p (.inr (PM _ b)) z a⟩
 bd:=fun z a p b=>by
  rcases Pw.mp b with q|q
  .rcases a with a|a
   .exact h z a p q
   .exact(Qg.mp m.sy).2.2 z a p q
  .exact m.bd z (a.imp id (Qs _)) p q
 sx:=m.sx
 sy:=(Qg.mp m.sy).1
theorem Mh.x (m:Mh f T o (X++P) Y) (h:∀y∈Y,∀p∈P,f y<=f p):Mh f T (P++o) X Y:=(m.swap.y h).swap
theorem Mh.dn (m:Mh f T o X Y) (h:∀x∈X,∀y∈Y,f x<=f y):Ok f T (X++Y++o) where
 perm:=m.perm
 so:=Qg.mpr ⟨Qg.mpr ⟨m.sx,m.sy,h⟩,m.so,fun p b z a=>m.bd p (Pw.mp b) z a⟩
end
section
variable {prog:PF} {w:Qc} {A:PX} {E:OW->Pa->Prop} {J:Pa->Prop} {κ:SortKind} {Z:Array Keyed} {f:Keyed->Nat} {a b:KL}
abbrev MH (f:Keyed->Nat) (a b c:KL) (na nb:Nat):Prop:=Mh f (a.toList++b.toList) c.toList.reverse (a.toList.take na) (b.toList.take nb)
theorem Gi (i:Nat):(a.extract 0 i).toList=a.toList.take i:=by rw[qQ];simp
theorem Oc (c:KL) (na nb:Nat):(dh a b c na nb).toList=a.toList.take na++b.toList.take nb++c.toList.reverse:=by unfold dh;rw[Qo,Qo,Gi,Gi,Tb]
theorem N2 (c:KL) (na nb:Nat):(fb a b c na nb).toList=b.toList.take nb++a.toList.take na++c.toList.reverse:=by unfold fb;rw[Qo,Qo,Gi,Gi,Tb]
theorem C2 {i:Nat} (h0:0<i) (h:i<=a.size):a.toList.take i=a.toList.take (i - 1)++[a[i - 1]]:=by have:=QU (l:=a.toList) (i:=i - 1) (by simp;omega);rw[show i - 1+1=i by omega] at this;rw[this];simp
theorem E8 {i k:Nat} (h:k<=i):a.toList.take i=a.toList.take k++(a.toList.drop k).take (i - k):=by
 have:i=k+(i - k):=by omega
 conv=>lhs;rw[this]
 exact List.take_add
theorem Mh.px {c:KL} {na nb:Nat} (m:MH f a b c na nb) (h0:0<na) (h:na<=a.size) (q:∀j (d:j<b.size),j<nb->f b[j]<=f a[na - 1]):MH f a b (c.push a[na - 1]) (na - 1) nb:=by unfold MH at m⊢;rw[C2 h0 h] at m;rw[SQ,Sw];refine Mh.x m fun y e p g=> ?_;rw[Pk.mp g];obtain⟨j,d,h1,rfl⟩:=jc e;exact q j d h1
theorem Mh.py {c:KL} {na nb:Nat} (m:MH f a b c na nb) (h0:0<nb) (h:nb<=b.size) (q:∀j (d:j<a.size),j<na->f a[j]<=f b[nb - 1]):MH f a b (c.push b[nb - 1]) na (nb - 1):=by unfold MH at m⊢;rw[C2 h0 h] at m;rw[SQ,Sw];refine Mh.y m fun y e p g=> ?_;rw[Pk.mp g];obtain⟨j,d,h1,rfl⟩:=jc e;exact q j d h1
theorem Mh.kx {c:KL} {na nb k:Nat} (m:MH f a b c na nb) (h:k<=na) (q:∀i (hi:i<a.size),k<=i->i<na->∀j (d:j<b.size),j<nb->f b[j]<=f a[i]):MH f a b (c++(a.extract k na).reverse) k nb:=by unfold MH at m⊢;rw[E8 h] at m;rw[Qo,Tb,Sw,Xr,qQ];refine Mh.x m fun y e p g=> ?_;obtain⟨i,hi,h1,n,rfl⟩:=sg g;obtain⟨j,d,l,rfl⟩:=jc e;exact q i hi h1 (by omega) j d l
theorem Mh.ky {c:KL} {na nb k:Nat} (m:MH f a b c na nb) (h:k<=nb) (q:∀i (hi:i<b.size),k<=i->i<nb->∀j (d:j<a.size),j<na->f a[j]<=f b[i]):MH f a b (c++(b.extract k nb).reverse) na k:=by unfold MH at m⊢;rw[E8 h] at m;rw[Qo,Tb,Sw,Xr,qQ];refine Mh.y m fun y e p g=> ?_;obtain⟨i,hi,h1,n,rfl⟩:=sg g;obtain⟨j,d,l,rfl⟩:=jc e;exact q i hi h1 (by omega) j d l
theorem Mh.nb {c:KL} {na nb:Nat} (m:MH f a b c na nb) (h:na=0\/nb=0):Ok f (a.toList++b.toList) (dh a b c na nb).toList:=by rw[Oc];refine Mh.dn m fun x e y d=> ?_;obtain⟨j,g,h1,rfl⟩:=jc e;obtain⟨i,hi,l,rfl⟩:=jc d;omega
theorem Mh.l1 (t:V1 f Z a b) {c:KL} {na nb:Nat} (m:MH f a b c na nb) (h:nb=1):Ok f (a.toList++b.toList) (fb a b c na nb).toList:=by
 rw[N2];refine m.swap.dn fun y d x e=> ?_;obtain⟨j,g,h1,rfl⟩:=jc d;have:j=0:=by omega
 subst this;exact t.first x (Te e)
structure Hh (f:Keyed->Nat) (a b out:KL) (na nb:Nat):Prop where
 mi:MH f a b out na nb
 a0:0<na
 a1:na<=a.size
 b0:1<nb
 b1:nb<=b.size
def U2 (f:Keyed->Nat) (a b:KL) (st:SortSt) (n:Nat) (d:Lp) (z:SortSt):Prop:=Ge st z/\((∃r,d.1=lD r/\Ok f (a.toList++b.toList) r.toList)\/(d.1=Ld/\Hh f a b d.2.2.2.1 d.2.1 d.2.2.1/\d.2.1+d.2.2.1<=n))
abbrev G2 (f:Keyed->Nat) (a b:KL) (st:SortSt) (n:Nat) (r:ForInStep Lp) (z:SortSt):Prop:=match r with
 | .done d=>U2 f a b st n d z
 | .yield d=>d.1=Ld/\U2 f a b st n d z
theorem DN (t:V1 f Z a b) {h:KL} {na nb g ac bc n:Nat} {st z:SortSt} (e:Ge st z) (m:Hh f a b h na nb) (hn:na+nb<=n) (r:na - 1<a.size)
  (q:∀j (u:j<b.size),j<nb->f b[j]<=f a[na - 1]):gP (model prog w) A E J (Nq a b h na nb g ac bc) (G2 f a b st n) z:=by
 obtain⟨m,p,o,l,i⟩:=m;unfold Nq;refine ah (bD (getElem?_pos a (na - 1) (by omega)) ?_);have m:=m.px p o q;by_cases c:na - 1=0
 .rw[if_pos (by simpa using c)];exact am ⟨e,.inl ⟨_,rfl,m.nb (.inl c)⟩⟩
 .rw[if_neg (by simpa using c)]
  by_cases d:(decide (ac<7)&&decide (bc<7))=Pb
  .rw[if_pos d];exact am ⟨e,.inr ⟨rfl,⟨m,by dsimp only;omega,by dsimp only;omega,l,i⟩,by dsimp only;omega⟩⟩
  .rw[if_neg d];exact am ⟨rfl,e,.inr ⟨rfl,⟨m,by dsimp only;omega,by dsimp only;omega,l,i⟩,by dsimp only;omega⟩⟩
theorem DK (C:Ask prog w A E J κ (·∈Z.toList) f) (t:V1 f Z a b) {l:KL} {na nb g ac bc n:Nat} {st z:SortSt} (k:kindOf st=κ) (e:Ge st z) (m:Hh f a b l na nb) (hn:na+nb<=n) (P:nb - 1<b.size)
  (q:∀j (B:j<a.size),j<na->f a[j]<=f b[nb - 1]):gP (model prog w) A E J (Lx a b l na nb g ac bc) (G2 f a b st n) z:=by
 obtain⟨m,G,F,S,M⟩:=m;unfold Lx;refine ah (bD (getElem?_pos b (nb - 1) (by omega)) ?_);have m:=m.py (by omega) M q;by_cases c:nb - 1=1
 .rw[if_pos (by simpa using c)];exact am ⟨e,.inl ⟨_,rfl,m.l1 t c⟩⟩
 .rw[if_neg (by simpa using c)]
  refine ah (bD (getElem?_pos a (na - 1) (by omega)) ?_);refine ah (my C (e.kind.trans k) (t.ina (by omega)) (fun i=>decide (if h:i<b.size then f b[i]<f a[na - 1] else False)) (fun i hi=>⟨b[i],t.inb _,by rw[Ts];exact getElem?_pos b _ (by omega),?_⟩) (fun i j O B q=> ?_) (by omega) fun d L K I=> ?_)
  .unfold Bt;simp only[if_true];exact decide_eq_decide.mpr (by rw[dif_pos (by omega)])
  .have q:=of_decide_eq_true q;rw[dif_pos (by omega)] at q;refine decide_eq_true ?_;rw[dif_pos (by omega)];exact TC (t.ys (by omega) (by omega)) q
  have H:∀i (hi:i<b.size),i<d->f b[i]<=f a[na - 1]:=fun i hi o=>by have:=of_decide_eq_true (K i o);rw[dif_pos (by omega)] at this;exact QJ this
  have N:∀i (hi:i<b.size),d<=i->i<nb - 1->f a[na - 1]<=f b[i]:=fun i hi p o=>by have:=of_decide_eq_false (I i p o);rw[dif_pos (by omega)] at this;exact RL this
  dsimp only;by_cases v:nb - 1 - d>0
  .rw[if_pos v]
   have m:=m.ky (k:=d) L fun i hi p o j B Q=>Pp (t.xs (j:=na - 1) (by omega) (by omega)) (N i hi p o);by_cases u:d=1
   .rw[if_pos (by simpa using u)];exact am ⟨e,.inl ⟨_,rfl,m.l1 t u⟩⟩
   .rw[if_neg (by simpa using u)]
    by_cases r:d=0
    .rw[if_pos (by simpa using r)];exact am ⟨e,.inl ⟨_,rfl,m.nb (.inr r)⟩⟩
    .rw[if_neg (by simpa using r)];exact DN t e ⟨m,G,F,by omega,by omega⟩ (by omega) (by omega) H
  .rw[if_neg v]
   have:d=nb - 1:=by omega
   subst this;exact DN t e ⟨m,G,F,by omega,by omega⟩ (by omega) (by omega) H
theorem KU (C:Ask prog w A E J κ (·∈Z.toList) f) (t:V1 f Z a b) {l:KL} {na nb g ac bc n:Nat} {st z:SortSt} (k:kindOf st=κ) (e:Ge st z) (m:Hh f a b l na nb) (hn:na+nb<=n):
  gP (model prog w) A E J (MA a b l na nb g ac bc) (G2 f a b st n) z:=by
 obtain⟨m,L,K,v,u⟩:=m;unfold MA;refine ah (oj e fun y e=> ?_);refine ah (bD (getElem?_pos b (nb - 1) (by omega)) ?_);refine ah (my C (e.kind.trans k) (t.inb (by omega)) (fun i=>decide (if h:i<a.size then f a[i]<=f b[nb - 1] else False)) (fun i hi=>⟨a[i],t.ina _,by rw[Ts];exact getElem?_pos a _ (by omega),?_⟩) (fun i j N I q=> ?_) (by omega) fun d H G F=> ?_)
 .unfold Bt;simp only[Pj,if_false];exact decide_eq_decide.mpr (by rw[dif_pos (by omega)])
 .have q:=of_decide_eq_true q;rw[dif_pos (by omega)] at q;refine decide_eq_true ?_;rw[dif_pos (by omega)];exact Pp (t.xs (by omega) (by omega)) q
 have B:∀i (hi:i<a.size),i<d->f a[i]<=f b[nb - 1]:=fun i hi o=>by have:=of_decide_eq_true (G i o);rw[dif_pos (by omega)] at this;exact this
 have M:∀i (hi:i<a.size),d<=i->i<na->f b[nb - 1]<=f a[i]:=fun i hi p o=>by have:=of_decide_eq_false (F i p o);rw[dif_pos (by omega)] at this;omega
 dsimp only;by_cases r:na - d>0
 .rw[if_pos r]
  have m:=m.kx (k:=d) H fun i hi p o j I O=>Pp (t.ys (j:=nb - 1) (by omega) (by omega)) (M i hi p o);by_cases c:d=0
  .rw[if_pos (by simpa using c)];exact am ⟨e,.inl ⟨_,rfl,m.nb (.inl c)⟩⟩
  .rw[if_neg (by simpa using c)];exact DK C t k e ⟨m,by omega,by omega,v,u⟩ (by omega) (by omega) B
 .rw[if_neg r]
  have:d=na:=by omega
  subst this;exact DK C t k e ⟨m,L,K,v,u⟩ hn (by omega) B
theorem MO (C:Ask prog w A E J κ (·∈Z.toList) f) (t:V1 f Z a b) {n:KL} {na nb g ac bc:Nat} {st z:SortSt} (k:kindOf st=κ) (e:Ge st z) (m:Hh f a b n na nb)
  {Q:ForInStep NC->SortSt->Prop} (q:∀r c,Ok f (a.toList++b.toList) r.toList->Q (.done (lD r,c)) z)
  (h:∀o i j x y,Hh f a b o i j->i+j+1=na+nb->Q (.done (Ld,i,j,o,x,y)) z/\Q (.yield (Ld,i,j,o,x,y)) z):
  gP (model prog w) A E J (h1 a b g (Ld,na,nb,n,ac,bc)) Q z:=by
 obtain⟨m,B,v,H,u⟩:=m;unfold h1;dsimp only;have p:na - 1<a.size:=by omega
 have d:nb - 1<b.size:=by omega
 refine ah (bD (getElem?_pos b (nb - 1) d) ?_);refine ah (bD (getElem?_pos a (na - 1) p) ?_);refine ah (w9 C (t.inb d) (t.ina p) (e.kind.trans k) ?_);dsimp only;by_cases l:f b[nb - 1]<f a[na - 1]
 .rw[if_pos (decide_eq_true l)]
  refine ah (bD (getElem?_pos a (na - 1) p) ?_);have m:=m.px B v fun j F G=>Pp (t.ys (by omega) d) (QJ l);by_cases c:na - 1=0
  .rw[if_pos (by simpa using c)];exact am (q _ _ (m.nb (.inl c)))
  .rw[if_neg (by simpa using c)]
   have h:=fun x y=>h _ _ _ x y ⟨m,by omega,by omega,H,u⟩ (by omega);split
   .exact am (h _ _).1
   .exact am (h _ _).2
 .rw[if_neg (by simpa using l)]
  refine ah (bD (getElem?_pos b (nb - 1) d) ?_);have m:=m.py (by omega) u fun j F G=>Pp (t.xs (by omega) p) (RL l);by_cases c:nb - 1=1
  .rw[if_pos (by simpa using c)];exact am (q _ _ (m.l1 t c))
  .rw[if_neg (by simpa using c)]
   have h:=fun x y=>h _ _ _ x y ⟨m,B,v,by omega,by omega⟩ (by omega);split
   .exact am (h _ _).1
   .exact am (h _ _).2
theorem J3 (C:Ask prog w A E J κ (·∈Z.toList) f) (t:V1 f Z a b) {st:SortSt} (k:kindOf st=κ) {Q:KL->SortSt->Prop} (h:∀r z,Ge st z->Ok f (a.toList++b.toList) r.toList->Q r z):
  gP (model prog w) A E J (NY a b) Q st:=by
 rw[Jy];have nb:=t.nb;have u:=t.na;refine ah (j5 ?_);refine ah (bD (getElem?_pos a (a.size - 1) (by omega)) ?_);have F:a.toList.take a.size=a.toList:=QC (by simp);have B:b.toList.take b.size=b.toList:=QC (by simp);have G:MH f a b (#[]:KL) a.size b.size:=⟨by rw[F,B];simp,.nil,fun z _ p H=>by simp at H,by rw[F];exact t.sa,by rw[B];exact t.sb⟩;have m:=G.px u (O8 _) fun j M _=>t.last _ (by simp);have K:(#[]:KL).push (a[a.size - 1])= #[a[a.size - 1]]:=rfl;rw[K] at m;by_cases c:a.size - 1=0
 .rw[if_pos (by simpa using c)];exact am (h _ _ .rfl (m.nb (.inl c)))
 rw[if_neg (by simpa using c)];by_cases c:b.size=1
 .rw[if_pos (by simpa using c)];exact am (h _ _ .rfl (m.l1 t c))
 rw[if_neg (by simpa using c)];refine ah (fN (ah (bJ (cW (I:=fun x c z=>Ge st z/\c.1=Ld/\Hh f a b c.2.2.2.1 c.2.1 c.2.2.1/\c.2.1+c.2.2.1+x+1<=a.size+b.size)
  (Q:=fun c z=>Ge st z/\∃r,c.1=lD r/\Ok f (a.toList++b.toList) r.toList) ?zs ?zf ⟨.rfl,rfl,⟨m,by dsimp only;omega,by dsimp only;omega,by dsimp only;omega,O8 _⟩,by dsimp only;omega⟩) ?zp)))
 case zp=>
  rintro⟨_,c⟩ z ⟨e,r,rfl,o⟩;exact am (h r z e o)
 case zf=>
  rintro c z ⟨e,_,d,l⟩;have:=d.b0;omega
 case zs=>
  rintro x ⟨_,u,nb,n,g⟩ z _ v ⟨e,rfl,d,l⟩;dsimp only at d l⊢;unfold h0;dsimp only;refine ah (bJ (cW (I:=fun y c z=>Ge st z/\c.1=Ld/\Hh f a b c.2.2.2.1 c.2.1 c.2.2.1/\c.2.1+c.2.2.1+y+(x+1)<=a.size+b.size)
   (Q:=fun c z=>Ge st z/\((∃r,c.1=lD r/\Ok f (a.toList++b.toList) r.toList)\/(c.1=Ld/\Hh f a b c.2.2.2.1 c.2.1 c.2.2.1/\c.2.1+c.2.2.1<=a.size+b.size - (x+1+1)))) ?s1 ?f1 ⟨e,rfl,d,by dsimp only;omega⟩) ?p1)
  case f1=>
   rintro c z ⟨e,_,d,l⟩;have:=d.b0;omega
  case s1=>
   rintro y ⟨_,u,nb,n,ac,bc⟩ z _ v ⟨e,rfl,d,l⟩;dsimp only at d l;exact MO C t k e d (fun r c o=>⟨e,.inl ⟨r,rfl,o⟩⟩) fun o i j x y d N=>⟨⟨e,.inr ⟨rfl,d,by dsimp only;omega⟩⟩,⟨e,rfl,d,by dsimp only;omega⟩⟩
  case p1=>
   rintro⟨_,u,nb,n,ac,bc⟩ z ⟨e,⟨r,rfl,o⟩|⟨rfl,d,l⟩⟩
   .exact am ⟨e,r,rfl,o⟩
   dsimp only at d l⊢;refine ah (j5 ?_);refine ah (bJ (cW (I:=fun y c z=>c.1=Ld/\U2 f a b st (a.size+b.size - (x+1+1)) c z) (Q:=fun c z=>U2 f a b st (a.size+b.size - (x+1+1)) c z) ?s2 (fun c z q=>q.2) ⟨rfl,e,.inr ⟨rfl,d,l⟩⟩) ?p2)
   case s2=>
    rintro y ⟨_,u,nb,n,g,ac,bc⟩ z _ v ⟨rfl,e,⟨r,c,_⟩|⟨_,d,l⟩⟩
    .cases c
    dsimp only at d l⊢;have L:=fun g=>KU C t (g:=g) (ac:=ac) (bc:=bc) k e d l;split
    .refine bJ (L _) fun r z q=> ?_;cases r<;>exact q
    .refine bJ (L _) fun r z q=> ?_;cases r<;>exact q
   case p2=>
    rintro⟨_,u,nb,n,g,ac,bc⟩ z ⟨e,⟨r,rfl,o⟩|⟨rfl,d,l⟩⟩
    .exact am ⟨e,r,rfl,o⟩
    dsimp only at d l;have:=d.b0;refine ah (oj e fun y e=>am ⟨e,rfl,d,by dsimp only;omega⟩)
end
end TS
namespace TS
open PySem PyProof.Rows
set_option autoImplicit true
def cA (lo a n:Nat):SM (Option (Option Nat)×Nat):=
 forIn [a:n] ((Ld,a):Option (Option Nat)×Nat) fun _ c=>do
  match<-ltAt' (lo+c.2) (lo+c.2 - 1) with
  |some s=>if s=Pb then pure (.done (Ld,c.2)) else pure (.yield (Ld,c.2+1))
  |none=>pure (.done (lD Ld,c.2))
def cC (lo a n:Nat):SM (Option Nat):=do
 reverseSlice' lo (lo+a)
 let c<-cA lo a n
 match c.1 with
 |some r=>pure r
 |none=>pure (lD c.2)
def cD (lo a n:Nat):SM (Option (Option Nat)×Nat×Nat):=
 forIn [a:n] ((Ld,a,0):Option (Option Nat)×Nat×Nat) fun _ c=>do
  match<-ltAt' (lo+c.2.1) (lo+c.2.1 - 1) with
  |some s=>
   if s=Pb then
    if c.2.2>0 then do
     reverseSlice' (lo+c.2.1 - (c.2.2+1)) (lo+c.2.1)
     pure (.yield (Ld,c.2.1+1,0))
    else pure (.yield (Ld,c.2.1+1,0))
   else do
    match<-ltAt' (lo+c.2.1 - 1) (lo+c.2.1) with
    |some g=>if g=Pb then pure (.done (Ld,c.2.1,c.2.2)) else pure (.yield (Ld,c.2.1+1,c.2.2+1))
    |none=>pure (.done (lD Ld,c.2.1,c.2.2))
  |none=>pure (.done (lD Ld,c.2.1,c.2.2))
def cB (lo a n:Nat):SM (Option Nat):=do
 rule "list.sort.descending-run"
 let c<-cD lo (a+1) n
 match c.1 with
 |some r=>pure r
 |none=>
  if c.2.2>0 then do
   reverseSlice' (lo+c.2.1 - (c.2.2+1)) (lo+c.2.1)
   cC lo c.2.1 n
  else cC lo c.2.1 n
theorem bc {α c:Type} {m a:SM α} {k b:α->SM c} (h:m=a) (q:∀x,k x=b x):m>>=k=a>>=b:=by subst h;congr 1;funext x;exact q x
theorem MJ (lo n:Nat):countRun' lo n=(do
  let c<-cA lo 1 n
  match c.1 with
  |some r=>pure r
  |none=>
   if(c.2==n)=Pb then pure (lD c.2)
   else if c.2>1 then do
    match<-ltAt' lo (lo+c.2 - 1) with
    |some s=>if s=Pb then pure (lD c.2) else do
      reverseSlice' lo (lo+c.2)
      cB lo c.2 n
    |none=>pure Ld
   else cB lo c.2 n):=by
 rw[countRun'_eq];dsimp only;refine bc (by unfold cA;congr 1;funext _x c;refine bc rfl fun v=> ?_;cases v<;>rfl) fun c=> ?_;obtain⟨r,a⟩:=c;cases r with
 |some r=>rfl
 |none=>
  dsimp only;refine ite_congr rfl (fun _=>rfl) fun _=> ?_;refine ite_congr rfl (fun _=>bc rfl fun v=> ?_) fun _=> ?_
  .cases v with
   |none=>rfl
   |some v=>
    refine ite_congr rfl (fun _=>rfl) fun _=>bc rfl fun _=> ?_;unfold cB cC;refine bc rfl fun _=>bc (by unfold cD;congr 1;funext _x c;refine bc rfl fun v=> ?_;cases v with|none=>rfl|some v=>exact ite_congr rfl (fun _=>rfl) fun _=>bc rfl fun v=>by cases v<;>rfl) fun d=> ?_;obtain⟨r,d,q⟩:=d;cases r with
    |some r=>rfl
    |none=>
     dsimp only;refine ite_congr rfl (fun _=>bc rfl fun _=>bc rfl fun _=>bc (by unfold cA;congr 1;funext _x c;refine bc rfl fun v=> ?_;cases v<;>rfl) fun e=> ?_) fun _=>bc rfl fun _=>bc (by unfold cA;congr 1;funext _x c;refine bc rfl fun v=> ?_;cases v<;>rfl) fun e=> ?_
     .obtain⟨r,e⟩:=e;cases r<;>rfl
     .obtain⟨r,e⟩:=e;cases r<;>rfl
  .unfold cB cC
   refine bc rfl fun _=>bc (by unfold cD;congr 1;funext _x c;refine bc rfl fun v=> ?_;cases v with|none=>rfl|some v=>exact ite_congr rfl (fun _=>rfl) fun _=>bc rfl fun v=>by cases v<;>rfl) fun d=> ?_;obtain⟨r,d,q⟩:=d;cases r with
   |some r=>rfl
   |none=>
    dsimp only;refine ite_congr rfl (fun _=>bc rfl fun _=>bc rfl fun _=>bc (by unfold cA;congr 1;funext _x c;refine bc rfl fun v=> ?_;cases v<;>rfl) fun e=> ?_) fun _=>bc rfl fun _=>bc (by unfold cA;congr 1;funext _x c;refine bc rfl fun v=> ?_;cases v<;>rfl) fun e=> ?_
    .obtain⟨r,e⟩:=e;cases r<;>rfl
    .obtain⟨r,e⟩:=e;cases r<;>rfl
section
variable {prog:PF} {w:Qc} {A:PX} {E:OW->Pa->Prop} {J:Pa->Prop} {κ:SortKind} {Z:Array Keyed} {f:Keyed->Nat}
def Fa (f:Keyed->Nat) (xs:Array Keyed) (a b:Nat):Prop:=∀i j,a<=i->i<=j->j<b->R f xs j<=R f xs i
theorem lj {xs:Array Keyed} {i j:Nat} (a:j<=xs.size) (h:∀k,i<=k->k<j->R f xs k=R f xs (j - 1)) (k:Nat):
  R f (mirror xs i j ((j - i)/2)) k=R f xs k:=by
 rw[oV a];split
 .rw[h _ (by omega) (by omega),h k (by omega) (by omega)]
 .rfl
theorem IJ (C:Ask prog w A E J κ (·∈Z.toList) f) {st:SortSt} {lo a n:Nat} {Q:Option (Option Nat)×Nat->SortSt->Prop} (hn:lo+n<=Z.size) (h1:1<=a) (r:a<=n) (g:Gd κ Z st) (hs:So f (arrOf st) lo (lo+a))
  (h:∀m,a<=m->m<=n->So f (arrOf st) lo (lo+m)->(m=n\/R f (arrOf st) (lo+m)<R f (arrOf st) (lo+m - 1))->Q (Ld,m) st):
  gP (model prog w) A E J (cA lo a n) Q st:=by
 unfold cA;refine cW (I:=fun x c z=>z=st/\c=(Ld,x)/\So f (arrOf st) lo (lo+x)) ?s ?f ⟨rfl,rfl,hs⟩
 case f=>
  rintro c z ⟨rfl,rfl,k⟩;rw[show max a n=n by omega] at k⊢;exact h n r (O8 _) k (.inl rfl)
 case s=>
  rintro x c z p t ⟨rfl,rfl,k⟩;dsimp only;refine ah (lM C g (by omega) (by omega) ?_);by_cases l:R f (arrOf z) (lo+x)<R f (arrOf z) (lo+x - 1)
  .simp only[l,decide_true,if_true];exact am (h x p (by omega) k (.inr l))
  .simp only[l,decide_false,Pj,if_false]
   refine am ⟨rfl,rfl,fun i j b o u=> ?_⟩;by_cases q:j<lo+x
   .exact k i j b o q
   .have e:j=lo+x:=by omega
    subst e;by_cases d:i=lo+x
    .rw[d];exact O8 _
    .exact Pp (k i (lo+x - 1) b (by omega) (by omega)) (RL l)
theorem HY (C:Ask prog w A E J κ (·∈Z.toList) f) {st z:SortSt} {lo a n:Nat} {Q:Option Nat->SortSt->Prop} (hn:lo+n<=Z.size) (h1:1<=a) (d:a<=n) (u:Up κ Z f lo st z) (hs:Fa f (arrOf z) lo (lo+a))
  (h:∀m y,Up κ Z f lo st y->1<=m->m<=n->So f (arrOf y) lo (lo+m)->Q (lD m) y):gP (model prog w) A E J (cC lo a n) Q z:=by
 unfold cC;refine ah (ur ?_);have b:=u.mir (i:=lo) (j:=lo+a) (O8 _) (by omega);refine ah (IJ C hn h1 d b.gd (fun i j l g e=> ?_) fun m o c k _=>am (h m _ b (by omega) c k));show R f (mirror (arrOf z) lo (lo+a) _) i<=R f (mirror (arrOf z) lo (lo+a) _) j;have sz:lo+a<=(arrOf z).size:=by rw[u.gd.size];omega
 rw[oV sz,oV sz,if_pos (by omega),if_pos (by omega)];exact hs _ _ (by omega) (by omega) (by omega)
theorem Mw (C:Ask prog w A E J κ (·∈Z.toList) f) {st z:SortSt} {lo a n:Nat} {Q:Option (Option Nat)×Nat×Nat->SortSt->Prop} (hn:lo+n<=Z.size) (h1:1<=a) (v:a<=n) (u:Up κ Z f lo st z) (hs:Fa f (arrOf z) lo (lo+a))
  (h:∀m q y,Up κ Z f lo st y->a<=m->m<=n->Fa f (arrOf y) lo (lo+m)->q+1<=m->(∀i,lo+m - (q+1)<=i->i<lo+m->R f (arrOf y) i=R f (arrOf y) (lo+m - 1))->Q (Ld,m,q) y):
  gP (model prog w) A E J (cD lo a n) Q z:=by
 unfold cD;refine cW (I:=fun x c y=>∃q,c=(Ld,x,q)/\Up κ Z f lo st y/\Fa f (arrOf y) lo (lo+x)/\q+1<=x/\
   (∀i,lo+x - (q+1)<=i->i<lo+x->R f (arrOf y) i=R f (arrOf y) (lo+x - 1))) ?s ?f ⟨0,rfl,u,hs,by omega,fun i b d=>by congr 1;omega⟩
 case f=>
  rintro c y ⟨q,rfl,u,k,q1,q2⟩;rw[show max a n=n by omega] at k q1 q2⊢;exact h n q y u v (O8 _) k q1 q2
 case s=>
  rintro x c y t B ⟨q,rfl,u,k,q1,q2⟩;dsimp only;have sz:lo+x<=(arrOf y).size:=by rw[u.gd.size];omega
  refine ah (lM C u.gd (by omega) (by omega) ?_);by_cases l:R f (arrOf y) (lo+x)<R f (arrOf y) (lo+x - 1)
  .simp only[l,decide_true,if_true]
   have one:∀xs:Array Keyed,(∀k,R f xs k=R f (arrOf y) k)->Fa f xs lo (lo+(x+1)):=by
    intro xs e i j b d r;rw[e,e];by_cases c:j<lo+x
    .exact k i j b d c
    .have e:j=lo+x:=by omega
     subst e;by_cases g:i=lo+x
     .rw[g];exact O8 _
     .exact Pp (QJ l) (k i (lo+x - 1) b (by omega) (by omega))
   by_cases c:q>0
   .rw[if_pos c];refine ah (ur (am ⟨0,rfl,u.mir (by omega) (by omega),one _ (lj sz q2),by omega,fun i b d=>by congr 1;omega⟩))
   .rw[if_neg c];exact am ⟨0,rfl,u,one _ (fun _=>rfl),by omega,fun i b d=>by congr 1;omega⟩
  .simp only[l,decide_false,Pj,if_false]
   refine ah (lM C u.gd (by omega) (by omega) ?_);by_cases o:R f (arrOf y) (lo+x - 1)<R f (arrOf y) (lo+x)
   .simp only[o,decide_true,if_true];exact am (h x q y u t (by omega) k q1 q2)
   .simp only[o,decide_false,Pj,if_false]
    have p:R f (arrOf y) (lo+x)=R f (arrOf y) (lo+x - 1):=by omega
    refine am ⟨q+1,rfl,u,fun i j b d r=> ?_,by omega,fun i b d=> ?_⟩
    .by_cases c:j<lo+x
     .exact k i j b d c
     .have e:j=lo+x:=by omega
      subst e;by_cases g:i=lo+x
      .rw[g];exact O8 _
      .rw[p];exact k i _ b (by omega) (by omega)
    .rw[show lo+(x+1) - 1=lo+x by omega]
     by_cases c:i=lo+x
     .rw[c]
     .rw[p];exact q2 i (by omega) (by omega)
theorem IB (C:Ask prog w A E J κ (·∈Z.toList) f) {st z:SortSt} {lo a n:Nat} {Q:Option Nat->SortSt->Prop} (hn:lo+n<=Z.size) (o:a+1<=n) (u:Up κ Z f lo st z) (hs:Fa f (arrOf z) lo (lo+(a+1)))
  (h:∀m y,Up κ Z f lo st y->1<=m->m<=n->So f (arrOf y) lo (lo+m)->Q (lD m) y):gP (model prog w) A E J (cB lo a n) Q z:=by
 unfold cB;refine ah (j5 ?_);refine ah (Mw C hn (by omega) o u hs fun m q y u r d k p b=> ?_);dsimp only;have sz:lo+m<=(arrOf y).size:=by rw[u.gd.size];omega
 by_cases c:q>0
 .rw[if_pos c];refine ah (ur (HY C hn (by omega) d (u.mir (by omega) (by omega)) (fun i j l g e=> ?_) h));show R f (mirror (arrOf y) _ _ _) j<=R f (mirror (arrOf y) _ _ _) i;rw[lj sz b,lj sz b];exact k i j l g e
 .rw[if_neg c];exact HY C hn (by omega) d u k h
theorem MX (C:Ask prog w A E J κ (·∈Z.toList) f) {st:SortSt} {lo n:Nat} {Q:Option Nat->SortSt->Prop} (hn:lo+n<=Z.size) (h1:1<=n) (g:Gd κ Z st)
  (h:∀m y,Up κ Z f lo st y->1<=m->m<=n->So f (arrOf y) lo (lo+m)->Q (lD m) y):gP (model prog w) A E J (countRun' lo n) Q st:=by
 rw[MJ];have u:Up κ Z f lo st st:= .rfl g;refine ah (IJ C hn (O8 1) h1 g (fun i j a d q=>by rw[show i=j by omega];exact O8 _) fun m v t k o=> ?_);dsimp only;by_cases c:m=n
 .rw[if_pos (by simpa using c)];exact am (h m st u v t k)
 .rw[if_neg (by simpa using c)]
  have l:=o.resolve_left c;by_cases z:m>1
  .rw[if_pos z]
   refine ah (lM C g (by omega) (by omega) ?_);by_cases r:R f (arrOf st) lo<R f (arrOf st) (lo+m - 1)
   .simp only[r,decide_true,if_true];exact am (h m st u v t k)
   .simp only[r,decide_false,Pj,if_false]
    have sz:lo+m<=(arrOf st).size:=by rw[g.size];omega
    have b:∀i,lo<=i->i<lo+m->R f (arrOf st) i=R f (arrOf st) (lo+m - 1):=fun i a d=>by have I:=k lo i (O8 _) a d;have H:=k i (lo+m - 1) a (by omega) (by omega);omega
    refine ah (ur (IB C hn (by omega) (u.mir (O8 _) (by omega)) (fun i j a d q=> ?_) h));show R f (mirror (arrOf st) _ _ _) j<=R f (mirror (arrOf st) _ _ _) i;rw[lj sz b,lj sz b];by_cases G:j<lo+m
    .rw[b i (by omega) (by omega),b j (by omega) G];exact O8 _
    .have e:j=lo+m:=by omega
     subst e;by_cases p:i=lo+m
     .rw[p];exact O8 _
     .rw[b i a (by omega)];exact QJ l
  .rw[if_neg z]
   have e:m=1:=by omega
   subst e;refine IB C hn (by omega) u (fun i j a d q=> ?_) h;by_cases p:i=j
   .rw[p];exact O8 _
   .have F:i=lo:=by omega
    have B:j=lo+1:=by omega
    rw[F,B];exact QJ l
end
end TS
namespace TS
open PySem PyProof.Rows
set_option autoImplicit true
def yi (xs:Array Keyed) (s:Nat) (l:List Keyed):Array Keyed:=l.zipIdx.foldl (fun a (p,j)=>a.setIfInBounds (s+j) p) xs
theorem JO (i:Nat):mergeAt' i=(do
 let s<-get
 let(lD (sa,na,power),lD (sb,nb,_)):=((pendingOf s)[i]?,(pendingOf s)[i+1]?)|unsupported "internal:list.sort.pending"
 set (setPending s (((pendingOf s).setIfInBounds i (sa,na+nb,power)).eraseIdxIfInBounds (i+1)))
 let lD k<-Iz Ph (<-elem' (arrOf s) sb) (arrOf s) sa na 0|return Ph
 let(sa,na):=(sa+k,na - k)
 if na==0 then return Pb
 let lD nb<-Iz Pb (<-elem' (arrOf s) (sa+na - 1)) (arrOf s) sb nb (nb - 1)|return Ph
 if nb==0 then return Pb
 let x:=(arrOf s).extract sa sb
 let y:=(arrOf s).extract sb (sb+nb)
 let merged<-if na<=nb then Ob x y else NY x y
 modify fun s=>setArr s (yi (arrOf s) sa merged.toList)
 return(failedOf (<-get)).isNone):=rfl
theorem DH:∀(l:List Keyed) (xs:Array Keyed) (s n:Nat),s+n+l.length<=xs.size->∀k:Nat,
  ((l.zipIdx n).foldl (fun a (p,j)=>a.setIfInBounds (s+j) p) xs)[k]? =if s+n<=k/\k<s+n+l.length then l[k - (s+n)]? else xs[k]?
 |[],xs,s,n,h,k=>by rw[if_neg (by simp)];rfl
 |x::l,xs,s,n,h,k=>by
  rw[List.zipIdx_cons,Ur];have b:s+n+(l.length+1)<=xs.size:=h;rw[DH l _ s (n+1) (by rw[Array.size_setIfInBounds];omega) k];simp only[Pf];by_cases c:k=s+n
  .subst c;rw[if_neg (by omega),if_pos (by omega),Tu,T8];rw[Array.getElem?_setIfInBounds_self_of_lt (by omega)]
  .by_cases d:s+n<=k/\k<s+n+(l.length+1)
   .rw[if_pos (by omega),if_pos d,show k - (s+n)=k - (s+(n+1))+1 by omega,QQ]
   .rw[if_neg (by omega),if_neg d,Array.getElem?_setIfInBounds_ne (by omega)]
theorem oy {l:List Keyed} {xs:Array Keyed} {s:Nat} (h:s+l.length<=xs.size) (k:Nat):(yi xs s l)[k]? =if s<=k/\k<s+l.length then l[k - s]? else xs[k]? :=by have:=DH l xs s 0 (by omega) k;unfold yi;rw[Nat.add_zero] at this;exact this
theorem FQ {l:List Keyed} {xs:Array Keyed} {s:Nat} (h:s+l.length<=xs.size):(yi xs s l).toList=xs.toList.take s++l++xs.toList.drop (s+l.length):=by
 apply SU;intro k;rw[Ql,oy h];have len:(xs.toList.take s).length=s:=by simp;omega
 by_cases c:s<=k/\k<s+l.length
 .rw[if_pos c,PR,PH (by omega),len,Pz (by omega)]
 .rw[if_neg c]
  by_cases d:k<s
  .rw[PR,Pz (by omega),RE d,Ql]
  .rw[PH (by simp[len] at*;omega),Tx,<-Ql];congr 1;simp[len] at*;omega
theorem Ed {xs:Array Keyed} {s m e:Nat} (h1:s<=m) (h:m<=e) (f:e<=xs.size):xs.toList=xs.toList.take s++((xs.extract s m).toList++(xs.extract m e).toList)++xs.toList.drop e:=by
 rw[qQ,qQ];apply SU;intro k;have l1:(xs.toList.take s).length=s:=by simp;omega
 have a:((xs.toList.drop s).take (m - s)).length=m - s:=by simp;omega
 have b:((xs.toList.drop m).take (e - m)).length=e - m:=by simp;omega
 by_cases c:k<s
 .rw[PR,Pz (by omega),RE c]
 .rw[PR,PH (by omega),l1]
  by_cases d:k<m
  .rw[PR,Pz (by omega),RE (by omega),Tx];congr 1;omega
  .by_cases g:k<e
   .rw[PR,PH (by omega),a,Pz (by omega),RE (by omega),Tx];congr 1;omega
   .rw[PH (by simp[a,b] at*;omega),OZ,a,b,Tx];congr 1;omega
section
variable {prog:PF} {w:Qc} {A:PX} {E:OW->Pa->Prop} {J:Pa->Prop} {κ:SortKind} {Z:Array Keyed} {f:Keyed->Nat}
theorem IT {xs:Array Keyed} {s e:Nat} (h:So f xs s e) (c:e<=xs.size):(xs.extract s e).toList.Pairwise (Le f):=by
 rw[Q1];intro i j hi a b;have:(xs.extract s e).size=e - s:=by simp;omega
 simp only[PJ,this] at hi a;have:=h (s+i) (s+j) (by omega) (by omega) (by omega);rw[V2 (by omega),V2 (by omega)] at this
 simpa using this
theorem AB {xs:Array Keyed} {s e:Nat} (b:e<=xs.size) {x:Keyed} (h:x∈(xs.extract s e).toList):∃t,s<=t/\t<e/\R f xs t=f x:=by rw[qQ] at h;obtain⟨j,a,h1,c,rfl⟩:=sg h;exact⟨j,h1,by omega,V2 a⟩
theorem JR (C:Ask prog w A E J κ (·∈Z.toList) f) {st:SortSt} (g:Gd κ Z st) {i sa na I sb nb S:Nat} (e1:(pendingOf st)[i]? =lD (sa,na,I)) (e2:(pendingOf st)[i+1]? =lD (sb,nb,S)) (hsb:sb=sa+na) (n1:1<=na) (n2:1<=nb) (le:sb+nb<=Z.size)
  (H:So f (arrOf st) sa sb) (F:So f (arrOf st) sb (sb+nb)) {Q:Bool->SortSt->Prop}
  (h:∀z,Gd κ Z z->pendingOf z=((pendingOf st).setIfInBounds i (sa,na+nb,I)).eraseIdxIfInBounds (i+1)->So f (arrOf z) sa (sb+nb)->(∀k,k<sa\/sb+nb<=k->(arrOf z)[k]? =(arrOf st)[k]?)->Q Pb z):
  gP (model prog w) A E J (mergeAt' i) Q st:=by
 rw[JO];refine ah (fN ?_);rw[e1,e2];dsimp only;refine ah (J8 ?_);have sz:=g.size;have L:Gd κ Z (setPending st (((pendingOf st).setIfInBounds i (sa,na+nb,I)).eraseIdxIfInBounds (i+1))):=⟨g.kind,g.failed,g.perm⟩;have T:sb<(arrOf st).size:=by omega
 have rb:=V2 (f:=f) T;refine ah (bD (getElem?_pos (arrOf st) sb T) ?_);refine ah (my C L.kind (g.mem T) (fun i=>decide (R f (arrOf st) (sa+i)<=R f (arrOf st) sb)) (fun i hi=>⟨(arrOf st)[sa+i]'(by omega),g.mem _,getElem?_pos _ _ (by omega),?_⟩) (fun i j ij p q=> ?_) (by omega) fun k k2 k3 k4=> ?_)
 .unfold Bt;simp only[Pj,if_false];rw[rb,V2 (by omega)]
 .exact decide_eq_true (Pp (H _ _ (by omega) (by omega) (by omega)) (of_decide_eq_true q))
 have Y:∀t,sa<=t->t<sa+k->R f (arrOf st) t<=R f (arrOf st) sb:=fun t a b=>by have:=of_decide_eq_true (k3 (t - sa) (by omega));rwa [show sa+(t - sa)=t by omega] at this
 have K4:∀t,sa+k<=t->t<sb->R f (arrOf st) sb<R f (arrOf st) t:=fun t a b=>by have:=of_decide_eq_false (k4 (t - sa) (by omega) (by omega));rw[show sa+(t - sa)=t by omega] at this;omega
 dsimp only;have l:(∀t,sa<=t->t<sb->R f (arrOf st) t<=R f (arrOf st) sb)->Q Pb (setPending st (((pendingOf st).setIfInBounds i (sa,na+nb,I)).eraseIdxIfInBounds (i+1))):=fun q=>by
  refine h _ L rfl (fun x y B v u=> ?_) fun _ _=>rfl;show R f (arrOf st) x<=R f (arrOf st) y;by_cases c:y<sb
  .exact H x y B v c
  .by_cases d:sb<=x
   .exact F x y d v u
   .exact Pp (q x B (by omega)) (F sb y (O8 _) (by omega) u)
 by_cases c:na - k=0
 .rw[if_pos (by simpa using c)];exact am (l fun t a b=>Y t a (by omega))
 rw[if_neg (by simpa using c)];have ck:k<na:=by omega
 clear c;have hl:sa+k+(na - k) - 1=sb - 1:=by omega
 rw[hl];clear hl;have ra:=V2 (f:=f) (xs:=arrOf st) (i:=sb - 1) (by omega);refine ah (bD (getElem?_pos (arrOf st) (sb - 1) (by omega)) ?_);refine ah (my C L.kind (g.mem _) (fun i=>decide (R f (arrOf st) (sb+i)<R f (arrOf st) (sb - 1))) (fun i hi=>⟨(arrOf st)[sb+i]'(by omega),g.mem _,getElem?_pos _ _ (by omega),?_⟩) (fun i j ij p q=> ?_) (by omega) fun m m2 m3 m4=> ?_)
 .unfold Bt;simp only[if_true];rw[ra,V2 (by omega)]
 .exact decide_eq_true (TC (F _ _ (by omega) (by omega) (by omega)) (of_decide_eq_true q))
 have M3:∀t,sb<=t->t<sb+m->R f (arrOf st) t<R f (arrOf st) (sb - 1):=fun t a b=>by have:=of_decide_eq_true (m3 (t - sb) (by omega));rwa [show sb+(t - sb)=t by omega] at this
 have M4:∀t,sb+m<=t->t<sb+nb->R f (arrOf st) (sb - 1)<=R f (arrOf st) t:=fun t a b=>by have:=of_decide_eq_false (m4 (t - sb) (by omega) (by omega));rw[show sb+(t - sb)=t by omega] at this;omega
 dsimp only;by_cases c2:m=0
 .rw[if_pos (by simpa using c2)];exact am (l fun t a b=>Pp (H t (sb - 1) a (by omega) (by omega)) (M4 sb (by omega) (by omega)))
 rw[if_neg (by simpa using c2)];have zx:((arrOf st).extract (sa+k) sb).size=sb - (sa+k):=by simp;omega
 have zy:((arrOf st).extract sb (sb+m)).size=m:=by simp;omega
 have px:=IT (s:=sa+k) (e:=sb) (fun x y B v u=>H x y (by omega) v u) (by omega);have py:=IT (s:=sb) (e:=sb+m) (fun x y B v u=>F x y (by omega) v (by omega)) (by omega);have mm:∀{x:Keyed} {s e:Nat},x∈((arrOf st).extract s e).toList->x∈Z.toList:=fun{x s e} G=>by rw[qQ] at G;obtain⟨j,p,_,_,rfl⟩:=sg G;exact g.mem p
 have K:V1 f Z ((arrOf st).extract (sa+k) sb) ((arrOf st).extract sb (sb+m)):={
  sa:=px,sb:=py,ma:=fun x G=>mm G,mb:=fun x G=>mm G,na:=by omega,nb:=by omega
  last:=fun y hy=>by
   obtain⟨t,a,b,n⟩:=AB (f:=f) (by omega) hy;rw[<-n];have:=M3 t a b;rw[ra] at this;have e:f ((arrOf st).extract (sa+k) sb)[((arrOf st).extract (sa+k) sb).size - 1]=f (arrOf st)[sb - 1]:=by rw[WW];congr 2;omega
   rw[e];exact QJ this
  first:=fun x G=>by
   obtain⟨t,a,b,n⟩:=AB (f:=f) (by omega) G;rw[<-n];have e:f ((arrOf st).extract sb (sb+m))[0]=R f (arrOf st) sb:=by rw[WW,rb];congr 2
   rw[e];exact QJ (K4 t a b)}
 have U:∀(r:KL) z,Ge (setPending st (((pendingOf st).setIfInBounds i (sa,na+nb,I)).eraseIdxIfInBounds (i+1))) z->Ok f (((arrOf st).extract (sa+k) sb).toList++((arrOf st).extract sb (sb+m)).toList) r.toList->
   Q Pb (setArr z (yi (arrOf z) (sa+k) r.toList)):=by
  intro r z P o;have X:arrOf z=arrOf st:=P.arr;have len:sa+k+r.toList.length=sb+m:=by rw[o.perm.length_eq,OZ,PJ,PJ,zx,zy];omega
  clear zx zy;have rr:∀j,sa+k<=j->j<sb+m->∃t,sa+k<=t/\t<sb+m/\R f (yi (arrOf st) (sa+k) r.toList) j=R f (arrOf st) t:=fun j j1 j2=>by
   have p:j - (sa+k)<r.toList.length:=by omega
   have e:(yi (arrOf st) (sa+k) r.toList)[j]? =lD r.toList[j - (sa+k)]:=by rw[oy (by omega),if_pos (by omega),Pq p]
   have hm:r.toList[j - (sa+k)]∈_:=o.perm.mem_iff.mp (Q4 p);have e3:R f (yi (arrOf st) (sa+k) r.toList) j=f r.toList[j - (sa+k)]:=by unfold R;rw[e]
   rcases Pw.mp hm with q|q
   .obtain⟨t,a,b,n⟩:=AB (f:=f) (by omega) q;exact⟨t,a,by omega,by rw[e3,n]⟩
   .obtain⟨t,a,b,n⟩:=AB (f:=f) (by omega) q;exact⟨t,by omega,b,by rw[e3,n]⟩
  have O:∀j,¬(sa+k<=j/\j<sb+m)->(yi (arrOf st) (sa+k) r.toList)[j]? =(arrOf st)[j]? :=fun j p=>by rw[oy (by omega),if_neg (by omega)]
  refine h _ ⟨P.kind.trans g.kind,P.failed.trans g.failed,?_⟩ P.pend ?_ ?_
  .show(yi (arrOf z) (sa+k) r.toList).Perm Z
   rw[X];refine ae6 (Sg.mpr ?_) g.perm;rw[FQ (by omega),len]
   conv=>rhs;rw[Ed (s:=sa+k) (m:=sb) (e:=sb+m) (by omega) (by omega) (by omega)]
   exact(o.perm.append_left _).append_right _
  .show So f (yi (arrOf z) (sa+k) r.toList) sa (sb+nb)
   rw[X];intro x y B v u;by_cases N:sa+k<=x/\x<sb+m
   .by_cases M:y<sb+m
    .by_cases xy:x=y
     .rw[xy];exact O8 _
     .have:=Q1.mp o.so (x - (sa+k)) (y - (sa+k)) (by omega) (by omega) (by omega)
      have e:∀j (p:j - (sa+k)<r.toList.length),sa+k<=j->j<sb+m->R f (yi (arrOf st) (sa+k) r.toList) j=f r.toList[j - (sa+k)]:=fun j p j1 j2=>by unfold R;rw[oy (by omega),if_pos (by omega),Pq p]
      rw[e x (by omega) N.1 N.2,e y (by omega) (by omega) M];exact this
    .obtain⟨t,a,b,n⟩:=rr x N.1 N.2
     rw[n,dD (O y (by omega))];by_cases ct:t<sb
     .exact Pp (H t (sb - 1) (by omega) (by omega) (by omega)) (M4 y (by omega) u)
     .exact F t y (by omega) (by omega) u
   .rw[dD (O x N)]
    by_cases M:sa+k<=y/\y<sb+m
    .obtain⟨t,a,b,n⟩:=rr y M.1 M.2
     rw[n];by_cases ct:t<sb
     .exact H x t B (by omega) ct
     .exact Pp (Y x B (by omega)) (F sb t (O8 _) (by omega) (by omega))
    .rw[dD (O y M)]
     by_cases xb:sb+m<=x
     .exact F x y (by omega) v u
     .by_cases yb:y<sb
      .exact H x y B v yb
      .exact Pp (Y x B (by omega)) (F sb y (O8 _) (by omega) u)
  .intro j p;show(yi (arrOf z) (sa+k) r.toList)[j]? =_;rw[X];exact O j (by omega)
 have go:∀(r:KL) z,Ge (setPending st (((pendingOf st).setIfInBounds i (sa,na+nb,I)).eraseIdxIfInBounds (i+1))) z->Ok f (((arrOf st).extract (sa+k) sb).toList++((arrOf st).extract sb (sb+m)).toList) r.toList->
   gP (model prog w) A E J (do
    modify fun s=>setArr s (yi (arrOf s) (sa+k) r.toList)
    let x<-get
    pure (failedOf x).isNone) Q z:=by
  intro r z q1 q2;refine ah (ie (ah (fN ?_)));have ef:failedOf (setArr z (yi (arrOf z) (sa+k) r.toList))=Ld:=q1.failed.trans g.failed;rw[ef];exact am (U r z q1 q2)
 split
 .exact ah (KP C K L.kind go)
 .exact ah (J3 C K L.kind go)
end
end TS
namespace TS
open PySem PyProof.Rows
set_option autoImplicit true
def Ch (f:Keyed->Nat) (xs:Array Keyed):Nat->List (Nat×Nat×Nat)->Nat->Prop
 |s,[],e=>s=e
 |s,t::l,e=>t.1=s/\1<=t.2.1/\So f xs s (s+t.2.1)/\Ch f xs (s+t.2.1) l e
section
variable {f:Keyed->Nat} {xs ys:Array Keyed}
theorem Ch.le:∀{l:List (Nat×Nat×Nat)} {s e:Nat},Ch f xs s l e->s+l.length<=e
 |[],_,_,h=>by have:_=_:=h;simp;omega
 |t::l,s,e,h=>by have:=Ch.le h.2.2.2;have:=h.2.1;simp only[Pf];omega
theorem Ch.app:∀{l k:List (Nat×Nat×Nat)} {s e:Nat},Ch f xs s (l++k) e↔∃m,Ch f xs s l m/\Ch f xs m k e
 |[],k,s,e=>⟨fun h=>⟨s,rfl,h⟩,fun⟨m,h1,a⟩=>by have:s=m:=h1;subst this;exact a⟩
 |t::l,k,s,e=>by
  constructor
  .intro h;obtain⟨m,h1,a⟩:=Ch.app.mp h.2.2.2;exact⟨m,⟨h.1,h.2.1,h.2.2.1,h1⟩,a⟩
  .rintro⟨m,h1,a⟩;exact⟨h1.1,h1.2.1,h1.2.2.1,Ch.app.mpr ⟨m,h1.2.2.2,a⟩⟩
theorem Ch.same:∀{l:List (Nat×Nat×Nat)} {s e:Nat},Ch f xs s l e->(∀k,s<=k->k<e->ys[k]? =xs[k]?)->Ch f ys s l e
 |[],_,_,h,_=>h
 |t::l,s,e,h,q=>by have:=h.2.2.2.le;refine⟨h.1,h.2.1,fun i j a c b=> ?_,Ch.same h.2.2.2 fun k g d=>q k (by omega) d⟩;rw[dD (q i a (by omega)),dD (q j (by omega) (by omega))];exact h.2.2.1 i j a c b
theorem Ch.pow:∀{l k:List (Nat×Nat×Nat)} {s e:Nat},l.map (fun t=>(t.1,t.2.1))=k.map (fun t=>(t.1,t.2.1))->Ch f xs s l e->Ch f xs s k e
 |[],[],_,_,_,h=>h
 |[],_::_,_,_,q,_=>by cases q
 |_::_,[],_,_,q,_=>by cases q
 |t::l,u::k,s,e,q,h=>by rw[Pd,Pd] at q;obtain⟨d,c⟩:=Sm q;obtain⟨b,a⟩:=Prod.mk.inj d;refine⟨b▸h.1,a▸h.2.1,a▸h.2.2.1,?_⟩;rw[<-a];exact Ch.pow c h.2.2.2
end
theorem two_at {p:Array (Nat×Nat×Nat)} {i:Nat} (h:i+1<p.size):∃l x y k,p.toList=l++x::y::k/\l.length=i:=by refine⟨p.toList.take i,p[i],p[i+1],p.toList.drop (i+2),?_,by simp;omega⟩;rw[show p[i]=p.toList[i]'(by simp;omega) by simp,show p[i+1]=p.toList[i+1]'(by simp;omega) by simp];rw[<-QA,<-QA,QH]
theorem Kq {p:Array (Nat×Nat×Nat)} {l k:List (Nat×Nat×Nat)} {x y z:Nat×Nat×Nat} (h:p.toList=l++x::y::k):((p.setIfInBounds l.length z).eraseIdxIfInBounds (l.length+1)).toList=l++z::k:=by obtain⟨q⟩:=p;have h:q=l++x::y::k:=h;subst h;rw[List.setIfInBounds_toArray,List.eraseIdxIfInBounds_toArray];show((l++x::y::k).set l.length z).eraseIdx (l.length+1)=_;rw[W5 _ _ (O8 _),Tu,U9,List.eraseIdx_append_of_length_le (by omega),show l.length+1 - l.length=1 by omega];rfl
section
variable {prog:PF} {w:Qc} {A:PX} {E:OW->Pa->Prop} {J:Pa->Prop} {κ:SortKind} {Z:Array Keyed} {f:Keyed->Nat}
theorem EC (C:Ask prog w A E J κ (·∈Z.toList) f) {st:SortSt} (g:Gd κ Z st) {i lo:Nat} (ch:Ch f (arrOf st) 0 (pendingOf st).toList lo) (P:lo<=Z.size) (hi:i+1<(pendingOf st).size) {Q:Bool->SortSt->Prop}
  (h:∀z,Gd κ Z z->Ch f (arrOf z) 0 (pendingOf z).toList lo->(pendingOf z).size+1=(pendingOf st).size->(∀k,lo<=k->(arrOf z)[k]? =(arrOf st)[k]?)->Q Pb z):
  gP (model prog w) A E J (mergeAt' i) Q st:=by
 obtain⟨l,⟨a,b,o⟩,⟨O,nb,c⟩,k,e,rfl⟩:=two_at hi;rw[e] at ch;obtain⟨m,F,M⟩:=Ch.app.mp ch;obtain⟨h1,B,v,u,t,r,d⟩:=M;dsimp only at h1 B v u t r d;subst h1;subst u;have le:=d.le;have L:(pendingOf st)[l.length]? =lD (a,b,o):=by rw[<-Ql,e];simp
 have K:(pendingOf st)[l.length+1]? =lD (a+b,nb,c):=by rw[<-Ql,e];simp
 refine JR C g L K rfl B t (by omega) v r fun z I H G n=> ?_;have pl:=Kq (z:=(a,b+nb,o)) e;rw[<-H] at pl;have N:=F.le;refine h z I ?_ ?_ fun j S=>n j (.inr (by omega))
 .rw[pl]
  refine Ch.app.mpr ⟨a,F.same fun j q p=>n j (.inl p),rfl,by dsimp only;omega,?_,?_⟩
  .dsimp only;rw[show a+(b+nb)=a+b+nb by omega];exact G
  .dsimp only;rw[show a+(b+nb)=a+b+nb by omega];exact d.same fun j q p=>n j (.inr q)
 .rw[<-PJ,pl,<-PJ,e];simp;omega
theorem GI (p:Array (Nat×Nat×Nat)) (i a:Nat):p.toList.map (fun t=>(t.1,t.2.1))=(p.modify i fun(s,n,_)=>(s,n,a)).toList.map (fun t=>(t.1,t.2.1)):=by
 apply SU;intro k;rw[Pg,Pg,Ql,Ql,Array.getElem?_modify];split
 .cases p[k]? <;>rfl
 .rfl
theorem L5:∀(k n r:Nat),1<=n->1<=minRun' k n r
 |0,n,r,h=>by show 1<=n+r;omega
 |k+1,n,r,h=>by
  rw[minRun'_succ];split
  .omega
  .exact L5 k _ _ (by omega)
theorem GN (C:Ask prog w A E J κ (·∈Z.toList) f) {st:SortSt} (g:Gd κ Z st) (Y:pendingOf st= #[]) (h2:1<=Z.size) {Q:Unit->SortSt->Prop}
  (h:∀z,Gd κ Z z->So f (arrOf z) 0 Z.size->Q () z):gP (model prog w) A E J sortRuns' Q st:=by
 rw[sortRuns'_eq];refine ah (fN ?_);dsimp only;simp only[g.size];generalize hm:minRun' Z.size Z.size 0=mr;have mr1:1<=mr:=by rw[<-hm];exact L5 _ _ _ h2
 refine ah (bJ (cW (I:=fun x c z=>∃lo,c=(Ld,lo)/\x<=lo/\lo<=Z.size/\Gd κ Z z/\Ch f (arrOf z) 0 (pendingOf z).toList lo)
  (Q:=fun c z=>c=(Ld,Z.size)/\Gd κ Z z/\Ch f (arrOf z) 0 (pendingOf z).toList Z.size) ?zs ?zf ⟨0,rfl,O8 _,by omega,g,by rw[Y];rfl⟩) ?zp)
 case zf=>
  rintro c z ⟨lo,rfl,a1,a2,g,ch⟩;have:lo=Z.size:=by omega
  subst this;exact⟨rfl,g,ch⟩
 case zs=>
  rintro x c z _ U ⟨lo,rfl,a1,a2,g,ch⟩;dsimp only;by_cases T:lo≥Z.size
  .rw[if_pos T]
   have:lo=Z.size:=by omega
   subst this;exact am ⟨rfl,g,ch⟩
  rw[if_neg T];refine ah (MX C (by omega) (by omega) g fun m y u m1 m2 a=> ?_);dsimp only;have p:Ch f (arrOf y) 0 (pendingOf y).toList lo:=by rw[u.pend];exact ch.same fun k _ M=>u.low k M
  have b:∀(n:Nat) (y:SortSt),1<=n->lo+n<=Z.size->Gd κ Z y->Ch f (arrOf y) 0 (pendingOf y).toList lo->So f (arrOf y) lo (lo+n)->
    ∃lo',(Ld,lo+n)=((Ld:Option Unit),lo')/\x+1<=lo'/\lo'<=Z.size/\Gd κ Z (setPending y ((pendingOf y).push (lo,n,0)))/\Ch f (arrOf (setPending y ((pendingOf y).push (lo,n,0)))) 0 (pendingOf (setPending y ((pendingOf y).push (lo,n,0)))).toList lo':=by
   intro n y K S g c a;refine⟨lo+n,rfl,by omega,S,⟨g.kind,g.failed,g.perm⟩,?_⟩;show Ch f (arrOf y) 0 ((pendingOf y).push (lo,n,0)).toList (lo+n);rw[SQ];exact Ch.app.mpr ⟨lo,c,rfl,K,a,rfl⟩
  have o:∀(n:Nat) (y:SortSt),1<=n->lo+n<=Z.size->Gd κ Z y->Ch f (arrOf y) 0 (pendingOf y).toList lo->So f (arrOf y) lo (lo+n)->∀L i,
    Gd κ Z (setPending y ((pendingOf y).modify i fun(s,n,_)=>(s,n,L)))/\Ch f (arrOf y) 0 ((pendingOf y).modify i fun(s,n,_)=>(s,n,L)).toList lo:=
   fun n y K S g c a L i=>⟨⟨g.kind,g.failed,g.perm⟩,c.pow (GI _ _ _)⟩
  by_cases lt:m<mr
  .rw[if_pos lt]
   refine ah (j5 ?_);refine ah (Hq C (by omega) (by omega) u.gd a fun G H v=> ?_);simp only[Q7,Pj,if_false];have F:Ch f (arrOf G) 0 (pendingOf G).toList lo:=by rw[H.pend];exact p.same fun k _ M=>H.low k M
   refine ah (fN ?_);cases hb:(pendingOf G).back? with
   |none=>dsimp only;exact ah (ie (am (b _ G (by omega) (by omega) H.gd F v)))
   |some t=>
    obtain⟨s1,K,X⟩:=t;dsimp only;refine ah (bJ (cW (I:=fun x c z=>c=(Ld,())/\Gd κ Z z/\Ch f (arrOf z) 0 (pendingOf z).toList lo/\So f (arrOf z) lo (lo+min (Z.size - lo) mr)) (Q:=fun c z=>c=(Ld,())/\Gd κ Z z/\Ch f (arrOf z) 0 (pendingOf z).toList lo/\So f (arrOf z) lo (lo+min (Z.size - lo) mr)) ?s1 (fun _ _ q=>q) ⟨rfl,H.gd,F,v⟩) ?p1)
    case p1=>
     rintro c z ⟨rfl,g,ch,a⟩;dsimp only;have bk:=o (min (Z.size - lo) mr) z (by omega) (by omega) g ch a;exact ah (ie (ah (ie (am (b _ (setPending z _) (by omega) (by omega) (bk _ _).1 (bk _ _).2 a)))))
    case s1=>
     rintro x c z _ _ ⟨rfl,g,ch,a⟩;refine ah (fN ?_);by_cases p1:(pendingOf z).size>1
     .rw[if_pos p1]
      obtain⟨⟨os,on,O⟩,N⟩:∃t,(pendingOf z)[(pendingOf z).size - 2]? =lD t:=⟨_,getElem?_pos _ _ (by omega)⟩;rw[N];dsimp only;split
      .exact am ⟨rfl,g,ch,a⟩
      .refine ah (EC C g ch a2 (by omega) fun P B d _ r=> ?_);simp only[Q7,Pj,if_false];exact am ⟨rfl,B,d,fun i j p1 p2 p3=>by rw[dD (r i p1),dD (r j (by omega))];exact a i j p1 p2 p3⟩
     .rw[if_neg p1];exact am ⟨rfl,g,ch,a⟩
  .rw[if_neg lt]
   refine ah (fN ?_);cases hb:(pendingOf y).back? with
   |none=>dsimp only;exact ah (ie (am (b _ y m1 (by omega) u.gd p a)))
   |some t=>
    obtain⟨s1,K,X⟩:=t;dsimp only;refine ah (bJ (cW (I:=fun x c z=>c=(Ld,())/\Gd κ Z z/\Ch f (arrOf z) 0 (pendingOf z).toList lo/\So f (arrOf z) lo (lo+m)) (Q:=fun c z=>c=(Ld,())/\Gd κ Z z/\Ch f (arrOf z) 0 (pendingOf z).toList lo/\So f (arrOf z) lo (lo+m)) ?s2 (fun _ _ q=>q) ⟨rfl,u.gd,p,a⟩) ?p2)
    case p2=>
     rintro c z ⟨rfl,g,ch,a⟩;dsimp only;have bk:=o m z (by omega) (by omega) g ch a;exact ah (ie (ah (ie (am (b _ (setPending z _) (by omega) (by omega) (bk _ _).1 (bk _ _).2 a)))))
    case s2=>
     rintro x c z _ _ ⟨rfl,g,ch,a⟩;refine ah (fN ?_);by_cases p1:(pendingOf z).size>1
     .rw[if_pos p1]
      obtain⟨⟨os,on,O⟩,N⟩:∃t,(pendingOf z)[(pendingOf z).size - 2]? =lD t:=⟨_,getElem?_pos _ _ (by omega)⟩;rw[N];dsimp only;split
      .exact am ⟨rfl,g,ch,a⟩
      .refine ah (EC C g ch a2 (by omega) fun P B d _ r=> ?_);simp only[Q7,Pj,if_false];exact am ⟨rfl,B,d,fun i j p1 p2 p3=>by rw[dD (r i p1),dD (r j (by omega))];exact a i j p1 p2 p3⟩
     .rw[if_neg p1];exact am ⟨rfl,g,ch,a⟩
 case zp=>
  rintro c z ⟨rfl,g,ch⟩;dsimp only;have len:=ch.le;rw[PJ] at len;refine ah (bJ (cW (I:=fun x c z=>c=(Ld,())/\Gd κ Z z/\Ch f (arrOf z) 0 (pendingOf z).toList Z.size/\(pendingOf z).size+x<=Z.size+1)
   (Q:=fun c z=>c=(Ld,())/\Gd κ Z z/\Ch f (arrOf z) 0 (pendingOf z).toList Z.size/\(pendingOf z).size<=1) ?s3 ?f3 ⟨rfl,g,ch,by omega⟩) ?p3)
  case f3=>
   rintro c z ⟨rfl,g,ch,l⟩;exact⟨rfl,g,ch,by omega⟩
  case p3=>
   rintro c z ⟨rfl,g,ch,l⟩;refine am (h z g ?_);cases hp:(pendingOf z).toList with
   |nil=>rw[hp] at ch;have:0=Z.size:=ch;omega
   |cons t l'=>
    rw[hp] at ch;have:l'=[]:=by have:=congrArg QY hp;rw[PJ,Pf] at this;exact SG.mp (by omega)
    subst this;have e:0+t.2.1=Z.size:=ch.2.2.2;rw[<-e];exact ch.2.2.1
  case s3=>
   rintro x c z _ U ⟨rfl,g,ch,l⟩;refine ah (fN ?_);by_cases p1:(pendingOf z).size<=1
   .rw[if_pos p1];exact am ⟨rfl,g,ch,p1⟩
   .rw[if_neg p1]
    refine ah (EC C g ch (O8 _) ?_ fun P B d ls r=> ?_)
    .have q:∀(c:Prop) [Decidable c],(if c then(pendingOf z).size - 2 - 1 else(pendingOf z).size - 2)+1<(pendingOf z).size:=fun c _=>by split<;>omega
     exact q _
    .simp only[Q7,Pj,if_false];exact am ⟨rfl,B,d,by omega⟩
end
end TS
namespace TS
open PySem PyProof.Rows
set_option autoImplicit true
section
variable {prog:PF} {w:Qc} {A:PX} {E:OW->Pa->Prop} {s:Pa} {κ:SortKind} {f:Keyed->Nat}
abbrev Kb (s:Pa) (a:Pc) (h:Heap):Prop:=∀b o,b≠a->s.heap.get? b=lD o->h.get? b=lD o
theorem Er {a:Pc} {vs:List OW} {n:Nat} {P:PySem.Fin->Pa->Prop} (d:s.heap.get? a=lD (seqObj "list" vs.toArray n)) (v:vs.length<1000000)
  (p:∀h',Kb s a h'->2<=vs.length->wpAny (model prog w) A (keyKind' vs.toArray) (fun k z=>k=κ/\z={s with heap:=h'}) E {s with heap:=h'})
  (C:∀h',Kb s a h'->Ask prog w A E (fun z=>z={s with heap:=h'}) κ (·∈(pairsOf vs).toList) f)
  (h:∀st:SortSt,(arrOf st).Perm (pairsOf vs)->So f (arrOf st) 0 vs.length->P (.done (.ret .none)) {s with heap:=sortedHeap s.heap a vs ((arrOf st).map (·.2))}):
  wpAny (model prog w) A (Builtin.«list.sort» ⟨[.ref a],[]⟩) P E s:=by
 have la:a<s.heap.objs.size:=Heap.lt_size d;have big:(1000000:Nat)<=Po:=by decide
 rw[list_sort_plain];refine Bn (listItems_at d rfl (Bn (listUpdate_at d rfl ?_ (by rw[Pm];omega) (Qb _))));obtain⟨l,h1⟩:∃l,(s.heap.update a (Obj.mapSeq fun _=>(#[]:Array OW))).get? a=lD (seqObj "list" #[] l):=⟨_,get?_update_seq d (fun _=> #[])⟩;refine Bn (seqEpoch_at h1 rfl (Bn (wpAny_newTuple ?_ (by show vs.length<=_;omega))));refine Bn (ae7 ?_ (Qb _));refine QL ?_;have g:(((s.heap.update a (Obj.mapSeq fun _=>(#[]:Array OW))).push (seqObj "tuple" vs.toArray 0)).push (seqObj "list" #[] 0)).get? a=lD (seqObj "list" #[] l):=Heap.get?_push_of_some _ (Heap.get?_push_of_some _ h1);have m:Kb s a (((s.heap.update a (Obj.mapSeq fun _=>(#[]:Array OW))).push (seqObj "tuple" vs.toArray 0)).push (seqObj "list" #[] 0)):=fun b o nb e=>
  Heap.get?_push_of_some _ (Heap.get?_push_of_some _ (by rw[Heap.get?_update_ne _ _ _ _ nb];exact e))
 show wpAny (model prog w) A _ P E {s with heap:=((s.heap.update a (Obj.mapSeq fun _=>(#[]:Array OW))).push (seqObj "tuple" vs.toArray 0)).push (seqObj "list" #[] 0)};dsimp only;have sz:vs.toArray.size=vs.length:=Pm;by_cases c:vs.toArray.size<2
 .rw[if_pos c,if_pos c];refine Bn (OY ?_);rw[StateT.run_pure];refine Bn (OY ?_);dsimp only;refine Bn (seqEpoch_at g rfl (Bn (listUpdate_at g rfl ?_ (Qb _) (by rw[Zq];show(pairsOf vs).size<=_;rw[pairsOf_size];omega))));simp only[bne_self_eq_false,Pj,if_false];refine OY (h (SortSt.mk' general' (vs.toArray.zip vs.toArray) #[] 7 Ld) (W6 _) fun i j u t r=> ?_);rw[show i=j by omega];exact O8 _
 .rw[if_neg c,if_neg c];refine Bn (wpAny_mono (p _ m (by omega)) ?_ fun _ _ e=>e);rintro k z ⟨rfl,rfl⟩;have q:Gd k (pairsOf vs) (SortSt.mk' k (vs.toArray.zip vs.toArray) #[] 7 Ld):=⟨rfl,rfl,W6 _⟩;refine Bn (wpAny_mono (GN (C _ m) q rfl (by rw[pairsOf_size];omega) (Q:=fun _ st=>Gd k (pairsOf vs) st/\So f (arrOf st) 0 (pairsOf vs).size) (fun z a b=>⟨a,b⟩) _ rfl) ?_ fun _ _ e=>e);rintro⟨⟨⟩,st⟩ z ⟨rfl,gd',so⟩;rw[pairsOf_size] at so;dsimp only;refine Bn (seqEpoch_at g rfl (Bn (listUpdate_at g rfl ?_ (Qb _) (by refine Pp (abv ((Zq ..).trans (gd'.perm.size_eq.trans (pairsOf_size _)))) ?_;omega))));rw[gd'.failed];simp only[bne_self_eq_false,Pj,if_false];exact OY (h st gd'.perm so)
theorem Xa {l:Pc} {vs:List OW} {Q:OW->Pa->Prop} (g:s.heap.IsList l vs.toArray) (e:vs.length<1000000)
  (i:∀h',(∀b o,s.heap.get? b=lD o->h'.get? b=lD o)->2<=vs.length->wpAny (model prog w) A.in1.in1 (keyKind' vs.toArray) (fun k z=>k=κ/\z={s with heap:=h'}) (fun _ _=>False) {s with heap:=h'})
  (C:∀h',(∀b o,s.heap.get? b=lD o->h'.get? b=lD o)->Ask prog w A.in1.in1 (fun _ _=>False) (fun z=>z={s with heap:=h'}) κ (·∈(pairsOf vs).toList) f)
  (h:∀st:SortSt,(arrOf st).Perm (pairsOf vs)->So f (arrOf st) 0 vs.length->Q (.ref (s.heap.objs.size+1)) {s with heap:=sortedAll s.heap vs ((arrOf st).map (·.2))}):
  wpAny (model prog w) A (call (.builtin "sorted") [.ref l]) Q E s:=by
 have big:(1000000:Nat)<=Po:=by decide
 refine Calls.call_function_entry kind_sorted plain_sorted entry_sorted (args_sorted1 _) ?_;unfold Builtin.«sorted»;refine Bn (m:=checkCount "sorted" 1 1 _) (OY ?_);refine Bn (collect_list g ?_ (by omega));refine Bn (ae7 ?_ (by show vs.length<=_;omega));have a:((s.heap.push (seqObj "list" #[] 0)).update s.heap.objs.size (Obj.mapSeq (·++vs.toArray))).objs.size=s.heap.objs.size+1:=by rw[Heap.size_update,size_push']
 have c:(((s.heap.push (seqObj "list" #[] 0)).update s.heap.objs.size (Obj.mapSeq (·++vs.toArray))).push (seqObj "list" vs.toArray 0)).get? (s.heap.objs.size+1)=lD (seqObj "list" vs.toArray 0):=by rw[<-a];exact Heap.get?_push_size _ rfl
 have keep:∀b o,s.heap.get? b=lD o->(((s.heap.push (seqObj "list" #[] 0)).update s.heap.objs.size (Obj.mapSeq (·++vs.toArray))).push (seqObj "list" vs.toArray 0)).get? b=lD o:=fun b o q=>
  Heap.get?_push_of_some _ (by rw[Heap.get?_update_ne _ _ _ _ (PU (Heap.lt_size q))];exact Heap.get?_push_of_some _ q)
 have ne:∀b o,s.heap.get? b=lD o->b≠s.heap.objs.size+1:=fun b o q=>PU (S1 (Heap.lt_size q));show wpAny _ _ _ _ _ {s with heap:=((s.heap.push (seqObj "list" #[] 0)).update s.heap.objs.size (Obj.mapSeq (·++vs.toArray))).push (seqObj "list" vs.toArray 0)};rw[a];refine Bn (QL (QM slot_list_sort ⟨_,c,rfl⟩ entry_list_sort (wpAny_mono (Er (E:=fun _ _=>False) c e (fun h' d z=>i h' (fun b o q=>d b o (ne b o q) (keep b o q)) z) (fun h' d=>C h' fun b o q=>d b o (ne b o q) (keep b o q)) fun st n j=>⟨_,rfl,?_⟩) (fun _ _ z=>z) fun _ _ z=>z.elim) (args_list_sort _)));exact OY ⟨_,rfl,h st n j⟩
end
end TS
namespace LD
open PySem PyProof.Rows L2 L3 L10
structure Zg (ds:List D):Prop where
 ok:V9 ds=Pb
 Zj:∀a∈ds,SD a a=lD Ph
 tr:∀a∈ds,∀b∈ds,∀c∈ds,SD a b=lD Pb->SD b c=lD Pb->SD a c=lD Pb
 Yf:∀a∈ds,∀b∈ds,SD a b=lD Ph->SD b a=lD Ph->a=b
 tup:∀a∈ds,∃xs ys,a= .tuple (.tuple xs::ys)
def Srt (ds:List D):Prop:=ds.Pairwise fun a b=>SD b a=lD Ph
open Classical in
def U7 (ds:List D):List D:=if h:∃l:List D,l.Perm ds/\Srt l then h.choose else ds
theorem VN {ds l:List D} (L:Zg ds) (p:l.Perm ds) (h:Srt l):U7 ds=l:=by have c:∃l:List D,l.Perm ds/\Srt l:=⟨l,p,h⟩;unfold U7;rw[dif_pos c];refine(c.choose_spec.1.trans p.symm).eq_of_pairwise (fun a b ha d h1 e=> ?_) c.choose_spec.2 h;exact L.Yf a (c.choose_spec.1.mem_iff.mp ha) b (p.mem_iff.mp d) e h1
def rk (ds:List D) (d:D):Nat:=(ds.filter fun e=>SD e d==lD Pb).length
theorem zQ {α:Type} {p q:α->Bool}:∀{l:List α},(∀x∈l,p x=Pb->q x=Pb)->(l.filter p).length<=(l.filter q).length
 |[],_=>O8 _
 |a::l,h=>by
  have b:=zQ (p:=p) (q:=q) (l:=l) fun x c=>h x (Pl _ c);have:=h a Pr;rw[QG,QG];split
  .rename_i z;rw[if_pos (this z)];simp only[Pf];omega
  .split
   .simp only[Pf];omega
   .exact b
theorem zH {α:Type} {p q:α->Bool}:∀{l:List α},(∀x∈l,p x=Pb->q x=Pb)->(∃x∈l,q x=Pb/\p x=Ph)->(l.filter p).length<(l.filter q).length
 |[],_,⟨_,h,_⟩=>nomatch h
 |a::l,h,⟨x,b,h1,h2⟩=>by
  have le:=zQ (p:=p) (q:=q) (l:=l) fun x b=>h x (Pl _ b);have:=h a Pr;rw[QG,QG];rcases Py.mp b with rfl|b
  .rw[h2,if_neg Pt,if_pos h1,Pf];omega
  .have c:=zH (l:=l) (fun x b=>h x (Pl _ b)) ⟨x,b,h1,h2⟩
   split
   .rename_i z;rw[if_pos (this z)];simp only[Pf];omega
   .split
    .simp only[Pf];omega
    .exact c
theorem Zg.lt {ds:List D} (L:Zg ds) {a b:D} (ha:a∈ds) (hb:b∈ds):SD a b=lD (decide (rk ds a<rk ds b)):=by
 have e:∀{a b:D},a∈ds->b∈ds->SD a b=lD Pb->rk ds a<rk ds b:=fun{a b} ha hb h=>by
  refine zH (fun x j q=> ?_) ⟨a,ha,by rw[h];rfl,by rw[L.Zj a ha];rfl⟩;have q:SD x a=lD Pb:=by simpa using q
  rw[L.tr x j a ha b hb q h];rfl
 have f:(SD a b).isSome=Pb/\(SD b a).isSome=Pb:=by have ok:=L.ok;unfold V9 at ok;rw[Qk] at ok;have h1:=ok a ha;have g:=ok b hb;rw[PN] at h1 g;exact⟨Qk.mp h1.2 b hb,Qk.mp g.2 a ha⟩
 obtain⟨r,d⟩:=Q3.mp f.1;obtain⟨i,c⟩:=Q3.mp f.2;rw[d];congr 1;cases r with
 |true=>exact(decide_eq_true (e ha hb d)).symm
 |false=>
  refine(decide_eq_false ?_).symm;cases i with
  |true=>have:=e hb ha c;omega
  |false=>rw[L.Yf a ha b hb d c];omega
theorem xU {ds:List D} (L:Zg ds) {a:D} (h:a∈ds):a.canLay0=Pb/\a.depth<=32:=by obtain⟨i,hi,e⟩:=RI h;exact lU L.ok (O0.mpr ⟨hi,e⟩)
open Classical in
def Ni (h:Heap) (ds:List D) (p:Keyed):Nat:=if q:∃d,d∈ds/\∃as,RO h p.1 d as then rk ds q.choose else 0
theorem xw {h:Heap} {ds:List D} (L:Zg ds) {p:Keyed} {d:D} {as:List Pc} (c:d∈ds) (r:RO h p.1 d as):Ni h ds p=rk ds d:=by have q:∃d,d∈ds/\∃as,RO h p.1 d as:=⟨d,c,as,r⟩;unfold Ni;rw[dif_pos q];obtain⟨b,e,a⟩:=q.choose_spec;rw[SeqAt.Reads.unique _ _ _ _ _ (xU L b).1 a r]
section
variable {prog:PF} {w:Qc} {A:PX} {E:OW->Pa->Prop} {s:Pa}
theorem CN {Q:Bool->Pa->Prop} {r a:Bool} (c:A.units+40<cLine) (q:Q r s):∀{xs ys:List D} {b vs:List OW} {as bs:List Pc} (i:Nat),Sx s.heap b xs as->Sx s.heap vs ys bs->O9.depthAll xs<=32->O9.depthAll ys<=32->O9.canLayAll0 xs=Pb->O9.canLayAll0 ys=Pb->Rq xs ys=lD r->(a=decide (xs.length<ys.length))->PySem.W.KatLex prog w A Ph a Q (b.zip vs) i s
 |[],ys,_,vs,_,_,i,.nil,rv,_,_,_,_,e,ef=>by
  show Q a s;cases rv with
  |nil=>simp[Rq] at e;subst e;subst ef;exact q
  |cons _ _=>simp[Rq] at e;subst e;subst ef;simpa using q
 |x::xs,[],_,_,_,_,i,.cons _ _,.nil,_,_,_,_,e,ef=>by show Q a s;simp[Rq] at e;subst e;subst ef;simpa using q
 |x::xs,y::ys,_,_,_,_,i,@Sx.cons _ u b _ _ _ _ h1 hx,@Sx.cons _ v vs _ _ _ _ h2 hy,dx,dy,cx,cy,e,ef=>by
  simp only[O9.depthAll] at dx dy;unfold O9.canLayAll0 at cx cy;rw[PN] at cx cy;show wpAny (model prog w) A (eqBool u v) _ _ s;refine SeqAt.eqAt_reads x y A s u v _ _ h1 h2 cx.1 cy.1 (by omega) prog w _ _ ?_;rw[Rq] at e;cases z:O9.eqv x y with
  |true=>rw[if_pos z] at e;rw[if_pos rfl];exact CN c q (i+1) hx hy (by omega) (by omega) cx.2 cy.2 e (by rw[ef];simp)
  |false=>rw[if_neg (by rw[z];simp)] at e;rw[if_neg Pt];rw[Tw,oneLt'_eq];simp only[Pj,if_false];exact Bn (FC 32 x y u v _ _ A s _ r (by omega) (by omega) cx.1 cy.1 h1 h2 (by omega) e (RH q))
theorem Kg {Q:Bool->Pa->Prop} {x y:OW} {d e:D} {as bs:List Pc} {r:Bool} (l:A.units+40<cLine) (dx:d.depth<=32) (dy:e.depth<=32) (f:d.canLay0=Pb) (c:e.canLay0=Pb) (tx:∃xs,d= .tuple xs) (ty:∃xs,e= .tuple xs)
  (i:RO s.heap x d as) (g:RO s.heap y e bs) (h:SD d e=lD r) (q:Q r s):wpAny (model prog w) A (keyLt' (tuples' Ph) x y) Q E s:=by
 obtain⟨xs,rfl⟩:=tx;obtain⟨ys,rfl⟩:=ty;cases i with
 | @tuple a oa va na _ _ a1 a2 a3 a4=>
 cases g with
 | @tuple b ob vb nb _ _ b1 b2 b3 b4=>
  simp only[O9.depth] at dx dy;unfold O9.canLay0 at f c;rw[SD] at h;have la:va.size=xs.length:=by have:=SeqAt.ReadsAll.length _ _ _ a4;rw[PJ] at this;exact this
  have j:vb.size=ys.length:=by have:=SeqAt.ReadsAll.length _ _ _ b4;rw[PJ] at this;exact this
  exact PySem.W.kat_lt a1 a3 b1 b3 (CN l q 0 a4 b4 (by omega) (by omega) f c h (by rw[la,j]))
theorem ze {h:Heap}:∀{c:List OW} {ds:List D},Paired (fun u d=>(∃xs ys,d=O9.tuple (.tuple xs::ys))/\∃as,RO h u d as) c ds->∃fs,PySem.W.KatTups h c fs/\fs.length=c.length/\∀v∈fs,∃a o,v= .ref a/\h.get? a=lD o/\o.cls= .type "tuple"
 |_,_,.nil=>⟨[],.nil,rfl,fun _ h=>nomatch h⟩
 |_,_,.cons ⟨⟨xs,ys,e⟩,as,r⟩ t=>by
  obtain⟨fs,l,j,i⟩:=ze t;subst e;cases r with
  | @tuple a oa va na _ _ a1 a2 a3 a4=>
   generalize ev:va.toList=vl at a4;cases a4 with
   | @cons f fr _ _ _ _ r1 r2=>
    cases r1 with
    | @tuple b ob vb nb _ _ b1 b2 b3 b4=>
     refine⟨.ref b::fs,.cons a1 a2 a3 ?_ l,by simp[j],fun v g=> ?_⟩
     .rw[<-Ql,ev];rfl
     .rcases Py.mp g with rfl|g
      .exact⟨b,ob,rfl,b1,b2⟩
      .exact i v g
theorem r9 {α f:Type} (g:α->f) {l:List f} {m:List f} (p:l.Perm m):∀{L:List α},L.map g=m->∃L':List α,L'.Perm L/\L'.map g=l:=by
 induction p with
 |nil=>intro L e;exact⟨L,.refl _,e⟩
 | @cons x l m _ ih=>
  intro L e;cases L with
  |nil=>cases e
  |cons a L=>rw[Pd] at e;obtain⟨d,c⟩:=Sm e;obtain⟨L',o,r⟩:=ih c;exact⟨a::L',o.cons a,by rw[Pd,r,d]⟩
 |swap x y l=>
  intro L e
  match L,e with
  |a::b::L,e=>simp only[Pd,Xo] at e;obtain⟨d,c,q⟩:=e;exact⟨b::a::L,.swap a b L,by simp[d,c,q]⟩
 |trans _ _ i h=>intro L e;obtain⟨L2,j,c⟩:=h e;obtain⟨t,n,d⟩:=i c;exact⟨t,n.trans j,d⟩
theorem mq {b:List OW} {p:Keyed} (h:p∈(pairsOf b).toList):p.1=p.2/\p.1∈b:=by
 unfold pairsOf at h;rw[Yr] at h;have e:∀{l:List OW} {p:OW×OW},p∈l.zip l->p.1=p.2/\p.1∈l:=by
  intro l
  induction l with
  |nil=>intro p h;simp at h
  |cons a l c=>
   intro p h;rw[QN] at h;rcases Py.mp h with rfl|h
   .exact⟨rfl,Pr⟩
   .exact⟨(c h).1,Pl _ (c h).2⟩
 exact e h
theorem BH {l:Pc} {B:List OW} {ds:List D} {Q:OW->Pa->Prop} (hu:A.units+60<cLine) (hl:s.heap.IsList l B.toArray) (hn:B.length<1000000) (L:Zg ds) (I:Paired (fun u d=>∃as,RO s.heap u d as) B ds)
  (h:∀(Z4:List OW) (XR:List D),Srt XR->XR.length=Z4.length->(Z4.zip XR).Perm (B.zip ds)->Q (.ref (s.heap.objs.size+1)) {s with heap:=sortedAll s.heap B Z4.toArray}):
  wpAny (model prog w) A (call (.builtin "sorted") [.ref l]) Q E s:=by
 have hlen:=Paired.length I;have up:∀{C:Heap},(∀b o,s.heap.get? b=lD o->C.get? b=lD o)->∀u∈B,∃d∈ds,(∃as,RO s.heap u d as)/\∃as,RO C u d as:=fun{C} k u hu'=>by obtain⟨i,hi,e⟩:=RI hu';obtain⟨d,e2,as,r⟩:=gy I (O0.mpr ⟨hi,e⟩);exact⟨d,Pu e2,⟨as,r⟩,as,Reads.keeps k r⟩
 refine TS.Xa (κ:=tuples' Ph) (f:=Ni s.heap ds) hl hn (fun C k h2=> ?_) (fun C k=>⟨fun x y z hx hy hz=> ?_⟩) fun st p so=> ?_
 .have P:Paired (fun u d=>(∃xs ys,d=O9.tuple (.tuple xs::ys))/\∃as,RO C u d as) B ds:=by
   have all:∀{B:List OW} {K:List D},Paired (fun u d=>∃as,RO s.heap u d as) B K->(∀d∈K,d∈ds)->Paired (fun u d=>(∃xs ys,d=O9.tuple (.tuple xs::ys))/\∃as,RO C u d as) B K:=by
    intro B K q
    induction q with
    |nil=>exact fun _=> .nil
    |cons r _ S=>exact fun m=> .cons ⟨L.tup _ (m _ Pr),let⟨as,r⟩:=r;⟨as,Reads.keeps k r⟩⟩ (S fun d G=>m d (Pl _ G))
   exact all I fun _ h=>h
  obtain⟨fs,f1,f2,f3⟩:=ze P;refine PySem.W.kat_kind (T:= .type "tuple") f1 (by omega) (fun v hv=> ?_) (by decide) ⟨by rfl,rfl⟩;obtain⟨a,o,rfl,g,c⟩:=f3 v hv;rw[<-c];exact(show PySem.W.Looks (model prog w) C (typeOf (.ref a)) o.cls from(abB g).andThen .now)
 .subst hz;obtain⟨x1,x2⟩:=mq hx;obtain⟨y1,y2⟩:=mq hy;obtain⟨d,G,⟨as0,O⟩,as,H⟩:=up k _ x2;obtain⟨e,J,⟨bs0,N⟩,bs,re⟩:=up k _ y2;have od:=xU L G;have oe:=xU L J;refine Kg (by rw[PX.in1_units,PX.in1_units];omega) od.2 oe.2 od.1 oe.1 (let⟨xs,ys,e⟩:=L.tup d G;⟨_,e⟩) (let⟨xs,ys,e⟩:=L.tup e J;⟨_,e⟩) H re (L.lt G J) ⟨?_,rfl⟩;rw[xw L G O,xw L J N]
 .have sz:(arrOf st).size=B.length:=by rw[p.size_eq,pairsOf_size]
  have pu:((arrOf st).map (·.2)).toList.Perm B:=by
   have q:=(Sg.mp p).map (·.2);have e:(pairsOf B).toList.map (·.2)=B:=by unfold pairsOf;rw[Yr];exact Ua (O8 _)
   rw[e] at q;rw[Ys];exact q
  have ez:(B.zip ds).map (·.1)=B:=Y7 (by omega);obtain⟨Z,z1,M⟩:=r9 (fun x:OW×D=>x.1) pu ez;have e1:∀Y:List (OW×D),Y=(Y.map (·.1)).zip (Y.map (·.2)):=fun Y=>by
   induction Y with
   |nil=>rfl
   |cons a Y S=>rw[Pd,Pd,QN,<-S]
  have:=h (Z.map (·.1)) (Z.map (·.2)) ?_ (by simp) (by rw[<-e1 Z];exact z1)
  .rw[M] at this;have e:((arrOf st).map (·.2)).toList.toArray=(arrOf st).map (·.2):=rfl;rw[e] at this;exact this
  .have zl:Z.length=B.length:=by rw[<-OX (f:=(·.1)),M];simp[sz]
   unfold Srt;rw[Q1];intro i j hi X ij;simp only[OX] at hi X;have H:∀t (F:t<Z.length),Z[t].2∈ds/\∃as,RO s.heap Z[t].1 Z[t].2 as:=fun t F=>by
    have m:Z[t]∈B.zip ds:=z1.mem_iff.mp (Q4 F);obtain⟨n,hn,e⟩:=RI m;rw[List.getElem_zip] at e;have U:n<B.length/\n<ds.length:=by simp at hn;omega
    obtain⟨d,e2,r⟩:=gy I (O0.mpr ⟨U.1,rfl⟩);have e3:ds[n]=d:=(O0.mp e2).2;rw[<-e];exact⟨Q4 _,by rw[e3];exact r⟩
   have fz:∀t (F:t<Z.length),TS.R (Ni s.heap ds) (arrOf st) t=rk ds Z[t].2:=fun t F=>by
    have Yh:t<(arrOf st).size:=by omega
    rw[TS.V2 Yh];obtain⟨m,as,r⟩:=H t F;have e:(arrOf st)[t].2=Z[t].1:=by have:=congrArg (fun l=>l[t]?) M;simp only[Pg,Pq F,Ys,Ql,getElem?_pos (arrOf st) t Yh,Vv,UD] at this;exact this.symm
    have e':(arrOf st)[t].1=(arrOf st)[t].2:=(mq ((Sg.mp p).mem_iff.mp (by simp))).1;exact xw L m (by rw[e',e];exact r)
   have:=so i j (Qb _) (by omega) (by omega);rw[fz i hi,fz j X] at this;rw[Ub,Ub,L.lt (H j X).1 (H i hi).1];congr 1;exact decide_eq_false (by omega)
end
end LD
namespace LD
open PySem PyProof.Rows L2 L3 L10
def FW (K:OK):List V->Hp->VK->Prop:=fun xs H Q=>∃(p:Pc) (vs:List V) (ds:List D),xs=[.ref p]/\Um K H p vs/\L2.QV K H vs ds/\vs.length<1000000/\Zg ds/\
 ∀(l:Pc) (a:List V),H l=Ld->a.length=ds.length->(a.zip (U7 ds)).Perm (vs.zip ds)->(U7 ds).length=ds.length->Q (.ref l) (upd H l (.lst a))
theorem Lz {α e d:Type}:∀{a:List α} {b:List e} {c:List d},a.length=b.length->b.length=c.length->(a.zip (b.zip c)).map (·.2)=b.zip c/\(a.zip (b.zip c)).map (fun t=>(t.1,t.2.2))=a.zip c
 |[],[],[],_,_=>⟨rfl,rfl⟩
 |x::a,y::b,z::c,h1,h2=>by obtain⟨g,f⟩:=Lz (a:=a) (b:=b) (c:=c) (by simpa using h1) (by simpa using h2);simp only[QN,Pd];exact⟨by rw[g],by rw[f]⟩
 |[],_::_,_,h,_=>by cases h
 |_::_,[],_,h,_=>by cases h
 |[],[],_::_,_,h=>by cases h
 |_::_,_::_,[],_,h=>by cases h
theorem E6 {vs:List V} {b:List OW} (h:Vals vs b) {a:Type}:∀{c:List a} {t:V×OW×a},t∈vs.zip (b.zip c)->RelV t.1 t.2.1:=by
 induction h with
 |nil=>intro c t h;simp at h
 |cons r _ d=>
  intro c t h;cases c with
  |nil=>simp at h
  |cons z c=>
   rw[QN,QN] at h;rcases Py.mp h with rfl|h
   .exact r
   .exact d h
theorem u9 {a:Type}:∀{T:List (V×OW×a)},(∀t∈T,RelV t.1 t.2.1)->Vals (T.map (·.1)) (T.map (·.2.1))
 |[],_=> .nil
 |t::T,h=> .cons (h t Pr) (u9 fun x b=>h x (Pl _ b))
theorem Xh {X:Cx} (hu:X.A.units+64<cLine):iG X (.builtin "sorted") (FW X.K):=by
 intro F s σ H xs us Q I r h;obtain⟨p,vs,ds,rfl,G,n,hn,L,q⟩:=h;obtain⟨u,rfl,O⟩:=nF r;cases O;obtain⟨C,rv,pl,S⟩:=I.list G;have Z:=rv.length;have m:=uc n;have P:Paired (fun u d=>∃as,RO s.heap u d as) C ds:=by
  clear G pl S q L hn Z m
  induction rv generalizing ds with
  |nil=>cases n;exact .nil
  |cons r _ l=>cases n with
   |cons d t=>exact .cons (L2.DV.reads I d r) (l _ t)
 refine BH (by omega) pl.isList (by omega) L P fun w B N Y E=> ?_;have z:=Lz (a:=vs) (b:=C) (c:=ds) (by omega) (by omega);obtain⟨T,i,g⟩:=r9 (fun t:V×OW×D=>t.2) E z.1;have M:T.map (·.2.1)=w:=by have:=congrArg (ae8 (·.1)) g;rw[Qf,Y7 (by omega)] at this;exact this
 have v:T.map (·.2.2)=B:=by have:=congrArg (ae8 (·.2)) g;rw[Qf,Ua (by omega)] at this;exact this
 have e3:(T.map (·.1)).zip B=T.map fun t=>(t.1,t.2.2):=by
  rw[<-v];clear i g M v
  induction T with
  |nil=>rfl
  |cons a T l=>rw[Pd,Pd,QN,l];rfl
 have j:B.Perm ds:=by have:=E.map (·.2);rw[Ua (by omega),Ua (by omega)] at this;exact this
 have J:=VN L j N;have lt:(T.map (·.1)).length=ds.length:=by rw[OX,<-OX (f:=(·.2.2)) (as:=T),v];exact j.length_eq
 obtain⟨e,he⟩:=sortedAll_at s.heap C w.toArray;refine⟨.ref (s.heap.objs.size+1),_,I.laid (t':=s.toks) (o:= .lst (T.map (·.1))) (fun b ob z=>sortedAll_old z) (acF _) ?_,rfl,q _ (T.map (·.1)) (I.Ro.fresh (acF _)) lt ?_ (by rw[J];exact j.length_eq)⟩
 .refine⟨?_,w,e,by rw[<-M];exact u9 fun t U=>E6 rv (i.mem_iff.mp U),he⟩
  have:(1000000:Nat)<=Po:=by decide
  omega
 .rw[J,e3,<-z.2];exact i.map _
def VI (ω:aW):SV->Option (List SV)
 | .rf i=>match ω[i]? with
  |some (.lst xs)=>lD xs
  |_=>Ld
 |_=>Ld
open Classical in
def Wf (fa:cE):cE:=fun ρ ω=>(fa ρ ω).bind fun o a=>(RS.Qi a (VI a o)).bind fun xs a=>(RS.Qi a (ar mJ xs)).bind fun ds a=>if Zg ds/\ds.length<1000000 then .ok (.rf a.length) (a++[.lst ((U7 ds).map SV.fz)]) else .bad
theorem z4 {O:bF} {K:OK} {H:Hp}:∀{vs:List V} {ds:List D},(∀t∈vs.zip ds,L3.DV O K H t.1 t.2)->vs.length=ds.length->L3.QV O K H vs ds
 |[],[],_,_=> .nil
 |v::vs,d::ds,h,e=> .cons (h (v,d) (by rw[QN];exact Pr)) (z4 (fun t a=>h t (by rw[QN];exact Pl _ a)) (by simpa using e))
 |[],_::_,_,e=>by cases e
 |_::_,[],_,e=>by cases e
theorem zc {O:bF} {K:OK} {H:Hp}:∀{vs:List V} {ds:List D},L3.QV O K H vs ds->∀t∈vs.zip ds,L3.DV O K H t.1 t.2
 |_,_,.nil,_,h=>nomatch h
 |_,_,.cons a t,x,h=>by
  rw[QN] at h;rcases Py.mp h with rfl|h
  .exact a
  .exact zc t x h
section
variable {K:OK} {E:XK} {B:bF} {H:Hp} {Z:List Pc} {ω:aW} {v:V}
theorem JD {x:SV} {xs:List SV} (s:P5 B K H Z ω) (e:Tf (ow B Z ω) K H Z v x) (h:VI ω x=lD xs):∃a vs,v= .ref a/\H a=lD (.lst vs)/\S6 (ow B Z ω) K H Z vs xs:=by
 cases x with
 |fz d=>cases h
 |tp l=>cases h
 |rf j=>
  obtain⟨a,ha,rfl⟩:=e;unfold VI at h;dsimp only at h;cases q:ω[j]? with
  |none=>rw[q] at h;cases h
  |some c=>
   rw[q] at h;cases c with
   |lst ys=>cases h;obtain⟨b,h1,f⟩:=s.Wc j a _ ha q;exact⟨a,b,rfl,h1,f⟩
   |_=>cases h
theorem XU {n:TE} {fa:cE} (ha:cZ K E n fa):cZ K E (G8 (FW K) (gQ n qw)) (Wf fa):=by
 intro B r H Z ω ρ Q s A w;refine ha B r H Z ω ρ _ s A (w.bind.imp fun o f d g O i b u I=> ?_);obtain⟨xs,F,b⟩:=WS.Qi b;obtain⟨ds,C,b⟩:=WS.Qi b;obtain⟨a,vs,rfl,L,j⟩:=JD i I F;rw[ut C] at j;have q:=yV j;have N:vs.length=ds.length:=by have:=Paired.length j;rwa [OX] at this
 by_cases c:Zg ds/\ds.length<1000000
 .rw[if_pos c] at b;refine⟨a,vs,ds,rfl,.inl (.inl L),q.plain,by omega,c.1,fun l h hn M G z=> ?_⟩;have p:Rg g (upd g l (.lst h)):=bU hn _;have e:Ru f d g (f++[l]) (d++[.lst ((U7 ds).map SV.fz)]) (upd g l (.lst h)):=Ru.Vs i.len p hn;have m:L3.QV (ow B f d) K g h (U7 ds):=z4 (fun t J=>zc q t (G.mem_iff.mp J)) (by omega);exact b _ _ e (i.Vs p hn (by rw[aD];simp) ⟨h,aD,yS (m.ev e.ev)⟩) _ ⟨l,by rw[<-i.len];exact aU,rfl⟩
 .rw[if_neg c] at b;exact b.elim
end
end LD
namespace LD
open PySem PyProof.Rows L2 L3
mutual
def OO:O9->O9->Option Bool
 | .int i,.int j=>lD (decide (j<=i))
 | .tuple xs,.tuple ys=>LU xs ys
 |_,_=>Ld
def LU:List O9->List O9->Option Bool
 |[],[]=>lD Pb
 |[],_::_=>lD Ph
 |_::_,[]=>lD Pb
 |x::xs,y::ys=>if O9.eqv x y=Pb then LU xs ys else OO x y
end
end LD
namespace LD
open PySem PyProof.Rows
mutual
theorem sE {h h':Heap} {P:Pc->Prop} (c:∀b o,h.get? b=lD o->¬P b->h'.get? b=lD o) (e:∀b o,P b->h.get? b=lD o->o.cls≠ .type "tuple"):∀(d:O9) (v:OW) (as:List Pc),kd d=Pb->RO h v d as->RO h' v d as
 | .none,_,_,_,r=>by cases r;exact .none
 | .int _,_,_,_,r=>by cases r;exact .int _ _
 | .str _,_,_,_,r=>by cases r;exact .str _ _
 | .tuple xs,_,_,k,r=>by
  cases r with
  | @tuple a o vs n _ _ h1 h2 h3 h4=>unfold kd at k;exact .tuple (c a o h1 fun z=>e a o z h1 h2) h2 h3 (ph c e xs _ _ k h4)
 | .bool _,_,_,k,_=>by simp[kd] at k
 | .list _,_,_,k,_=>by simp[kd] at k
 | .dict _,_,_,k,_=>by simp[kd] at k
theorem ph {h h':Heap} {P:Pc->Prop} (a:∀b o,h.get? b=lD o->¬P b->h'.get? b=lD o) (c:∀b o,P b->h.get? b=lD o->o.cls≠ .type "tuple"):∀(ds:List O9) (vs:List OW) (as:List Pc),kds ds=Pb->Sx h vs ds as->Sx h' vs ds as
 |[],_,_,_,r=>by cases r;exact .nil
 |d::ds,_,_,k,r=>by
  cases r with
  |cons f e=>unfold kds at k;rw[PN] at k;exact .cons (sE a c d _ _ k.1 f) (ph a c ds _ _ k.2 e)
end
section
variable {prog:PF} {w:Qc} {A:PX} {E:OW->Pa->Prop} {s:Pa} {I dd ax:Pc} {items:Array OW} {ks:List (KD×Pc×OW)} {R:Vy->Pa->Prop}
def Ie (xs ks:List (KD×Pc×OW)):List (KD×Pc×OW):=ks.foldl (fun xs p=>storedH xs p.1 p.2.1 p.2.2) xs
theorem HV (xs:List (KD×Pc×OW)) (k:KD) (a:Pc) (v:OW):(storedH xs k a v).length<=xs.length+1:=by
 unfold storedH;split
 .rw[OX];omega
 .rw[OZ];exact O8 _
theorem zM:∀(ks xs:List (KD×Pc×OW)),(Ie xs ks).length<=xs.length+ks.length
 |[],_=>O8 _
 |p::r,xs=>by have h1:=zM r (storedH xs p.1 p.2.1 p.2.2);have a:=HV xs p.1 p.2.1 p.2.2;show(Ie (storedH xs p.1 p.2.1 p.2.2) r).length<=_;rw[Pf];omega
theorem zq {h h':Heap} {xs:List (KD×Pc×OW)} (u:h.DictOfH (b5 prog w) dd xs) (f:I≠dd) (d:∀o,h.get? I=lD o->o.cls≠ .type "tuple") (a:∀b o,b∉[I]->h.get? b=lD o->h'.get? b=lD o):h'.DictOfH (b5 prog w) dd xs:=by obtain⟨o,q,t,p,m,l,j,i,g⟩:=u;refine⟨o,q,t,a dd o (by simp;exact fun z=>f z.symm) p,m,l,j,fun x c=> ?_,g⟩;obtain⟨v,r⟩:=i x c;exact⟨v,sE (P:=(·=I)) (fun b o e n=>a b o (by simp;exact n) e) (fun b o z e=>by subst z;exact d o e) x.1.1 _ _ (dA x.1.2).1 r⟩
theorem B8 {hb:Heap} (hu:A.in1.units+8<cLine) (hh:A.handled=Ld) (SR:ax≠I) (J:I≠dd) (H:ax≠dd) (M:hb.get? I=Ld) (nd:hb.get? dd=Ld)
  (hp:∀(i:Nat) (v:OW),items[i]? =lD v->∃q a k x,v= .ref q/\ks[i]? =lD (k,a,x)/\(∃as,RO hb (.ref a) k.1 as)/\hb.IsTuple q #[.ref a,x]) (hs:ks.length=items.size) (hz:items.size<=Po)
  (hR:∀h' j,h'.DictOfH (b5 prog w) dd (Ie [] ks)->(∀b o,hb.get? b=lD o->h'.get? b=lD o)->R (.ok (.ret .none)) {s with heap:=h',toks:=j}):
  ∀(m i:Nat) (h:Heap) (j:Nat),items.size - i=m->i<=items.size->h.IsListIter I ax i->h.IsList ax items->h.DictOfH (b5 prog w) dd (Ie [] (ks.take i))->(∀b o,hb.get? b=lD o->h.get? b=lD o)->
   codeAny (model prog w) A (.builtin "dict.update.loop" ⟨[.ref dd,.ref I,rawInt i,.none],[]⟩) R {s with heap:=h,toks:=j}:=by
 have W:=Walks.list (prog:=prog) (w:=w) (A:=A.in1) hh I ax SR items;have nb:∀{b:Pc} {o:Obj} {c:Pc},hb.get? c=Ld->hb.get? b=lD o->b≠c:=fun{b o c} n e z=>by rw[z,n] at e;cases e
 have N:∀{h:Heap} {i:Nat},h.IsListIter I ax i->∀o,h.get? I=lD o->o.cls≠ .type "tuple":=fun{h i} g o e=>by obtain⟨o',P,c,_⟩:=g;rw[e] at P;cases P;rw[c];decide
 intro m
 induction m with
 |zero=>
  intro i h j hm hi g t p u;have e:i=items.size:=by omega
  subst e;refine Se F.entry_upd_loop ?_;rw[PX.under_plainId F.plain_upd_loop _];show wpAny _ A.in1 (pyNext (.ref I)>>=_) _ _ _;refine Bn (W.done _ _ _ ⟨g,t⟩ fun h' r l=> ?_);rw[QC (by omega)] at p;show wpAny _ A.in1 (Builtin.Dict.addKeywords dd []>>=fun _=>ret .none) _ _ _;refine Bn (OY (OY ?_));exact hR h' r (zq p J (N g) l) fun b o e=>l b o (by simp;exact nb M e) (u b o e)
 |succ m Z=>
  intro i h j hm hi g t p u;have Q:i<items.size:=by omega
  refine Se F.entry_upd_loop ?_;rw[PX.under_plainId F.plain_upd_loop _];show wpAny _ A.in1 (pyNext (.ref I)>>=_) _ _ _;refine Bn (W.item i _ _ _ Q ⟨g,t⟩ fun v h' r hv st l=> ?_);obtain⟨q,a,k,x,rfl,B,⟨as,U⟩,ht⟩:=hp i v hv;have f:∀b o,hb.get? b=lD o->h'.get? b=lD o:=fun b o e=>l b o (by simp;exact nb M e) (u b o e);have L:=zq p J (N g) l;obtain⟨X,d,G,nq,C⟩:=ht;have d:=f q _ d;obtain⟨cq,dq,dtq,S⟩:=X;cases G;cases C;have hT:({s with heap:=h',toks:=r}:Pa).TypeIs (.ref q) "tuple":=⟨_,d,rfl⟩;refine Bn (QL (Bn ?_));refine Ta ?_;unfold Builtin.Dict.pairItems;refine Bn (RZ hT ?_);rw[if_pos (by decide)];refine Bn ?_;unfold seqItems?;refine Bn (aaf d (OY (OY ?_)));show wpAny _ A.in1 (holding [.ref a,x] (dictSet dd (.ref a) x)) _ _ _;have Y:(Ie [] (ks.take i)).length<=Po:=by have:=zM (ks.take i) [];rw[Qj,Q0] at this;omega
  refine QL (wpAny_dictSet_heap (knd:=b5 prog w) (s:={s with heap:=h',toks:=r}) (hsz:=Y) hu ⟨as,Reads.keeps f U⟩ L fun O d2 T=> ?_);refine OY ⟨Rv F.plain_upd_loop _,?_⟩;have K:∀b o,b≠dd->h'.get? b=lD o->O.get? b=lD o:=fun b o hb e=>(T.2 b hb).trans e;refine Z (i+1) O _ (by omega) Q (st.1.at fun o e=>K I o J e) (st.2.at fun o e=>K ax o H e) ?_ fun b o e=>K b o (nb nd e) (f b o e);have et:ks.take (i+1)=ks.take i++[(k,a,x)]:=by rw[Vi,B];rfl
  rw[et];unfold Ie;rw[Yt];exact d2
theorem oZ {Q:OW->Pa->Prop} {n:Nat} {B:Array (Option OW)} (hu:A.units+32<cLine) (G:A.handled=Ld) (C:s.heap.get? ax=lD ⟨.type "list",Ld,.seq items n,B⟩) (hs:ks.length=items.size) (hz:items.size<=Po)
  (K:∀(i:Nat) (v:OW),items[i]? =lD v->∃q a k x,v= .ref q/\ks[i]? =lD (k,a,x)/\(∃as,RO s.heap (.ref a) k.1 as)/\s.heap.IsTuple q #[.ref a,x])
  (h:∀h' tk,h'.DictOfH (b5 prog w) s.heap.objs.size (Ie [] ks)->(∀b o,s.heap.get? b=lD o->h'.get? b=lD o)->Q (.ref s.heap.objs.size) {s with heap:=h',toks:=tk}):
  wpAny (model prog w) A (call (.type "dict") [.ref ax]) Q E s:=by
 refine W4 (Q₁:=fun obj d=>obj= .ref s.heap.objs.size/\d={s with heap:=s.heap.push {cls:= .type "dict",data:= .dict #[]}}) F.kt_called_dict (F.kt_typeCall_dict_1 _) F.entry_dict_init (abz _ ⟨rfl,rfl⟩) ?_;rintro obj d ⟨rfl,rfl⟩;have l:(s.heap.push {cls:= .type "dict",data:= .dict #[]}).DictOfH (b5 prog w) s.heap.objs.size []:=⟨_,#[],0,Heap.get?_push_size _ rfl,⟨rfl,rfl,rfl⟩,rfl,rfl,(fun _ z=>nomatch z),Sj⟩;have u:(s.heap.push {cls:= .type "dict",data:= .dict #[]}).get? ax=lD ⟨.type "list",Ld,.seq items n,B⟩:=Heap.get?_push_of_some _ C;have M:({s with heap:=s.heap.push {cls:= .type "dict",data:= .dict #[]}}:Pa).TypeIs (.ref ax) "list":=⟨_,u,rfl⟩;refine⟨l.typeIs,F.args_dict_init_2 _ _,?_⟩;unfold Builtin.«dict.__init__»;refine Bn ?_;unfold Builtin.Dict.selfAndRest;refine Bn (RB l.typeIs ?_);show wpAny _ _ (pure (s.heap.objs.size,[OW.ref ax])) _ _ _;refine OY ?_;show wpAny _ _ (Builtin.Dict.updateFrom "dict.__init__" s.heap.objs.size (.ref ax) [] .none) _ _ _;unfold Builtin.Dict.updateFrom;refine Bn (RZ M ?_);rw[if_pos (by decide)];refine Bn (qu u G fun h' p j=> ?_);rw[if_pos (show(Ld:Option OW).isNone=Pb from rfl)];refine Bn (UJ ?_);have H:=j _ _ u;have t:h'.IsList ax items:=⟨_,H,rfl,n,rfl⟩;refine Bn (Va (s:={s with heap:=h',toks:=p}) t ?_);refine OY ⟨Rv F.plain_upd_loop _,?_⟩;have SD:s.heap.objs.size<h'.objs.size:=by obtain⟨o,_,_,L,_⟩:=id l;exact Heap.lt_size (j _ _ L)
 have g:ax<s.heap.objs.size:=Heap.lt_size C;have S4:∀{c:Pc},s.heap.objs.size<=c->s.heap.get? c=Ld:=fun{c} hc=>by
  cases q:s.heap.get? c with
  |none=>rfl
  |some o=>exact absurd (PD (Heap.lt_size q) hc) (Qq _)
 refine B8 (A:=A.in1) (prog:=prog) (w:=w) (ks:=ks) (items:=items) (ax:=ax) (R:=wants (fun r f=>r=OW.none/\Q (OW.ref s.heap.objs.size) f) E) (hb:=s.heap) (s:={s with heap:=h',toks:=p}) (by rw[PX.in1_units,PX.in1_units];omega) G (PU (RP g SD)) (RD SD) (PU g) (S4 (QJ SD)) (S4 (O8 _)) K hs hz (fun N m Z J=>⟨rfl,h N m Z J⟩) items.size 0 _ p (by omega) (Qb _) ⟨_,Heap.get?_push_size _ rfl,rfl,rfl⟩ ⟨_,Heap.get?_push_of_some _ H,rfl,n,rfl⟩ ?_ fun b o e=>Heap.get?_push_of_some _ (j _ _ (Heap.get?_push_of_some _ e));obtain⟨o,X,Y,U,T,S,P,g5,O⟩:=l;exact⟨o,X,Y,Heap.get?_push_of_some _ (j _ _ U),T,S,P,(fun _ z=>nomatch z),O⟩
end
open L2 L3 L10
def Lm (xs kvs:List (KD×Pc×V)):List (KD×Pc×V):=kvs.foldl (fun xs p=>k6 xs p.1 p.2.1 p.2.2) xs
inductive XX (K:OK) (H:Hp):List V->List (KD×Pc×V)->Prop
 |nil:XX K H [] []
 |cons {q b:Pc} {k:KD} {v:V} {vs:List V} {kvs:List (KD×Pc×V)}:TX K H q [.ref b,v]->L2.DV K H (.ref b) k.1->XX K H vs kvs->XX K H (.ref q::vs) ((k,b,v)::kvs)
def AZ (K:OK):List V->Hp->VK->Prop:=fun xs H Q=>∃p ys kvs,xs=[.ref p]/\Um K H p ys/\XX K H ys kvs/\ys.length<1000000/\∀d,H d=Ld->Q (.ref d) (upd H d (DkO d (Lm [] kvs)))
theorem IC:∀{kvs:List (KD×Pc×V)} {ks:List (KD×Pc×OW)} {xs:List (KD×Pc×V)} {ys:List (KD×Pc×OW)},RX kvs ks->RX xs ys->RX (Lm xs kvs) (Ie ys ks)
 |_,_,_,_,.nil,h=>h
 |_,_,_,_,.cons (a:=p) (b:=q) hd t,h=>by obtain⟨k,b,v⟩:=p;obtain⟨e,f,u⟩:=q;obtain⟨h1,d,c⟩:=hd;dsimp only at h1 d c;subst h1 d;have z:=IC t (CZ (k:=k) (b:=b) c h);exact z
theorem AU:∀(kvs xs:List (KD×Pc×V)),(Lm xs kvs).length<=xs.length+kvs.length
 |[],_=>O8 _
 |p::r,xs=>by have h1:=AU r (k6 xs p.1 p.2.1 p.2.2);have a:=nz xs p.1 p.2.1 p.2.2;show(Lm (k6 xs p.1 p.2.1 p.2.2) r).length<=_;rw[Pf];omega
theorem Au {X:Cx} {g:List (Pc×Obj)} {m:L2.St} {H:Hp} {s:Pa} (I:Inv X g m H s):∀{ys:List V} {kvs:List (KD×Pc×V)} {j:List OW},XX X.K H ys kvs->Vals ys j->∃ks:List (KD×Pc×OW),RX kvs ks/\ks.length=j.length/\kvs.length=j.length/\∀(i:Nat) (v:OW),j[i]? =lD v->∃q a k x,v= .ref q/\ks[i]? =lD (k,a,x)/\(∃as,RO s.heap (.ref a) k.1 as)/\s.heap.IsTuple q #[.ref a,x]
 |_,_,_,.nil,.nil=>⟨[],.nil,rfl,rfl,fun i v e=>by simp at e⟩
 |_,_,_,.cons (q:=q) (b:=b) (k:=k) (v:=v) h dk t,.cons r rs=>by
  obtain⟨ks,h1,p,l,o⟩:=Au I t rs;obtain⟨w,rv,pl,_⟩:=I.tuple h;cases r;obtain⟨f,rfl,n⟩:∃f,w=[.ref b,f]/\RelV v f:=by
   cases rv with
   |cons a c=>cases a;cases c with
    |cons c d=>cases d;exact⟨_,rfl,c⟩
  refine⟨(k,b,f)::ks,.cons ⟨rfl,rfl,n⟩ h1,by rw[Pf,Pf,p],by rw[Pf,Pf,l],fun i u e=> ?_⟩;cases i with
  |zero=>cases e;exact⟨q,b,k,f,rfl,rfl,L2.DV.reads I dk rfl,pl⟩
  |succ i=>exact o i u (by simpa using e)
theorem WQ {X:Cx} (J:X.calm=Pb) (P:X.A.units+64<cLine):iG X (.type "dict") (AZ X.K):=by
 intro c s L H xs M Q I r h;obtain⟨p,ys,kvs,rfl,z,B,hn,q⟩:=h;obtain⟨u,rfl,f⟩:=nF r;cases f;obtain⟨U,rv,⟨o,n,C,b,a,G⟩,w⟩:=I.list z;obtain⟨ks,t,m,l,j⟩:=Au I B rv;obtain⟨O,N,g,T⟩:=o;cases b;cases G;cases a;have E:=rv.length;refine oZ (ks:=ks) (by omega) (I.ok.hd J) C (by rw[Pm];exact m) (by rw[Pm,<-E];exact w) (fun i v e=>j i v (by simpa using e)) fun S d dd F=> ?_;refine⟨.ref s.heap.objs.size,_,I.laid (t':=d) (o:=DkO s.heap.objs.size (Lm [] kvs)) F (O8 _) ?_,rfl,q _ (I.Ro.fresh (O8 _))⟩;refine tG ?_ (beq_eq_false_iff_ne.mpr (RD I.big)) (IC t .nil) dd;have:=AU kvs [];have:(1000000:Nat)<=Po:=by decide
 rw[Q0] at*;omega
def UL:D->Option (D×D)
 | .tuple [k,v]=>if keyD k=Pb then lD (k,v) else Ld
 |_=>Ld
def Vw (ω:aW):SV->Option (List (D×D))
 | .rf i=>match ω[i]? with
  |some (.lst xs)=>(ar G9 xs).bind fun ds=>ar UL ds
  |_=>Ld
 |_=>Ld
def mgD (kvs ps:List (D×D)):List (D×D):=ps.foldl (fun m p=>jP m p.1 p.2) kvs
def ZN (fe:cE):cE:=fun ρ ω=>(fe ρ ω).bind fun x a=>(RS.Qi a (Vw a x)).bind fun ps a=>if ps.length<1000000 then .ok (.rf a.length) (a++[.dd (mgD [] ps)]) else .bad
section
variable {B O O':bF} {K:OK} {E:XK} {H H' H1 H2:Hp} {α α' Z α2:List Pc} {ω ω' ω1 ω2:aW} {σ:L2.St} {ρ:aX} {v:V}
theorem pQ:∀{vs:List V} {ds:List D} {ps:List (D×D)},L3.QV O K H vs ds->ar UL ds=lD ps->∃kvs,XX K H vs kvs/\PrD O K H kvs ps/\vs.length=ps.length
 |_,_,_,.nil,e=>by cases e;exact⟨[],.nil,.nil,rfl⟩
 |_,_,ps,.cons (d:=d) (ds:=ds) hd ht,e=>by
  unfold ar at e;cases q:UL d with
  |none=>rw[q] at e;cases e
  |some p=>
   rw[q] at e;dsimp only at e;cases q2:ar UL ds with
   |none=>rw[q2] at e;cases e
   |some f=>
    rw[q2] at e;cases e;obtain⟨kvs,i,h,g⟩:=pQ ht q2;unfold UL at q;split at q
    .rename_i k v
     split at q
     .rename_i c
      cases q;cases hd with
      | @tup a us _ sq hs=>
       cases hs with
       | @cons uk _ _ _ dk hs=>
        cases hs with
        | @cons uv _ _ _ dv hs=>
         cases hs;cases k with
         |tuple l=>
          cases dk with
          | @tup b bs _ sb hb=>exact⟨(⟨.tuple l,c⟩,b,uv)::kvs,.cons sq.1 (.tup sb.1 (QV.plain hb)) i,.cons ⟨rfl,.tup sb hb,dv⟩ h,by rw[Pf,Pf,g]⟩
         |_=>simp[keyD] at c
     .cases q
    .cases q
theorem Dk:∀{kvs:List (KD×Pc×V)} {ps:List (D×D)} {xs:List (KD×Pc×V)} {m:List (D×D)},PrD O K H kvs ps->PrD O K H xs m->PrD O K H (Lm xs kvs) (mgD m ps)
 |_,_,_,_,.nil,h=>h
 |_,_,_,_,.cons (a:=p) (b:=q) hd t,h=>by
  obtain⟨h1,e,d⟩:=hd;have c:L3.DV O K H (.ref p.2.1) p.1.1:=by rw[h1];exact e
  have:=wL c d h;rw[h1] at this;have z:=Dk t this;exact z
theorem ZP {f:TE} {fe:cE} (p:cZ K E f fe):cZ K E (G8 (AZ K) (gQ f qw)) (ZN fe):=by
 intro B σ H α ω ρ Q s j w;refine p B σ H α ω ρ _ s j (w.bind.imp fun x Z ω1 H1 C g h u o=> ?_);obtain⟨ps,q,b⟩:=WS.Qi h;by_cases hn:ps.length<1000000
 case neg=>rw[if_neg hn] at b;exact b.elim
 rw[if_pos hn] at b;cases x with
 |fz d=>cases q
 |tp l=>cases q
 |rf i=>
  obtain⟨a,ha,rfl⟩:=o;unfold Vw at q;dsimp only at q;cases z:ω1[i]? with
  |none=>rw[z] at q;cases q
  |some c=>
   rw[z] at q;cases c with
   |lst xs=>
    dsimp only at q;obtain⟨vs,h1,t⟩:=g.Wc i a _ ha z;cases q2:ar G9 xs with
    |none=>rw[q2] at q;cases q
    |some ds=>rw[q2] at q;obtain⟨kvs,n,m,A⟩:=pQ (Ab t q2) q;exact⟨a,vs,kvs,rfl,Um.of h1,n,by omega,fun d r=>pN g r b fun e=>⟨_,aD,Dk (yR e.ev m) .nil⟩⟩
   |_=>cases q
end
end LD
namespace LD
open PySem PyProof.Rows L2 L3 L10
section
variable {B O O':bF} {K:OK} {E:XK} {H H' H1 H2:Hp} {α α' α1 α2:List Pc} {ω ω' ω1 ω2:aW} {σ:L2.St} {ρ:aX} {v:V} {a:Pc} {φ:Heap->Prop}
end
end LD
local macro_rules| `(tactic|walk_at "nm")=> `(tactic|first|((simp only[U9,Yd]);rfl)|rfl)| `(tactic|walk_at "evf")=> `(tactic|first|with_reducible assumption|with_reducible exact L3.uS _ _|with_reducible exact L3.ET _ _|with_reducible exact L3.Df _ _|with_reducible exact L3.abE _ _|with_reducible exact L3.DB _ _|with_reducible exact L3.Jb _ _|with_reducible exact L3.aeW _ _|with_reducible exact L3.adU _ _|with_reducible exact L3.iQ _ _|with_reducible exact L3.ZJ _ _|with_reducible exact L3.YX _ _|with_reducible exact L3.Y0 _ _|with_reducible exact L3.adh _ _|with_reducible exact L3.ac5 _ _|with_reducible exact L3.acZ _ _|with_reducible exact L3.ac6 _ _|with_reducible exact L3.ac1 _ _|with_reducible exact L3.ab3 _ _|with_reducible exact L3.adm _ _|with_reducible exact L3.abG _ _|with_reducible exact L3.abV _ _|with_reducible exact L3.ade _ _|with_reducible exact L3.adV _ _|with_reducible exact L3.ag0|with_reducible exact L3.ah4|with_reducible exact L3.aiF|with_reducible exact L3.J7|with_reducible exact L3.ahH|with_reducible exact L3.ED|with_reducible exact L3.Yx _|with_reducible exact L3.qH _|(with_reducible rfl))| `(tactic|walk_at "ev")=> `(tactic|first
 |with_reducible exact L3.bI
 |((exists L3.ae);rfl)
 |((exists L3.eO);rfl)
 |with_reducible exact L3.aC
 |with_reducible exact L3.ei
 |((exists L3.bf);(·walk_at "ev");(·walk_at "ev");(·rfl);(·rfl);(·walk_at "evf"))
 |((exists L3.Di);(·walk_at "ev");(·rfl);(·rfl))
 |((exists L3.aj);(·walk_at "ev");(·walk_at "ev"))
 |((exists L3.bu);(·walk_at "ev");(·rfl))
 |((exists L3.cX);(·walk_at "ev");(·rfl);(·first|walk_at "evf"|rfl))
 |((exists L3.cH);(·walk_at "ev");(·rfl);(·rfl);(·with_reducible assumption))
 |((exists L3.dU);(·walk_at "ev");(·rfl);(·exact P4 rfl))
 |((exists L3.yL);(·walk_at "ev");(·rfl);(·exact P4 rfl))
 |((exists L3.uY);(·walk_at "ev");(·rfl);(·rfl))
 |((exists L3.cN);(·walk_at "ev");(·rfl))
 |((exists L3.jS);(·walk_at "ev");(·walk_at "ev");(·walk_at "ev");(·rfl);(·first|with_reducible assumption|rfl))
 |((exists L3.kl);(·walk_at "ev"))
 |((exists L3.tZ);(·walk_at "ev");(·intro _;walk_at "ev"))
 |((exists L3.mB);(·walk_at "ev");(·intro _;walk_at "ev"))
 |((exists L3.ac9);(·walk_at "ev"))
 |((exists L3.oC);(·walk_at "ev");(·intro _;walk_at "ev"))
 |((exists L3.aaA);(·walk_at "ev");(·intro _;walk_at "ev"))
 |((exists L3.lS);(·walk_at "ev");(·rfl);(·first|with_reducible assumption|rfl))
 |((exists L3.gK);(·walk_at "ev");(·rfl);(·rfl))
 |((exists L3.abF);(·walk_at "ev");(·rfl);(·rfl))
 |((exists L3.hV);(·rfl);(·walk_at "ev");(·rfl);(·rfl);(·first|with_reducible assumption|(simp only[Q0,Pf,L3.fA] at*;omega));(·walk_at "nm"))
 |((exists L3.adM);(·rfl);(·walk_at "ev");(·rfl);(·rfl);(·with_reducible assumption);(·with_reducible assumption);(·with_reducible assumption);(·walk_at "nm"))
 |((exists L3.sV);(·walk_at "ev");(·rfl);(·walk_at "nm"))
 |((exists L3.ub);(·walk_at "ev"))
 |((exists L3.ya);(·walk_at "ev");(·rfl)))
local macro_rules| `(tactic|walk_at "evb")=> `(tactic|first
 |((exists L3.df);(·walk_at "ev");(·walk_at "ev");(·rfl);(·rfl);(·walk_at "evf"))
 |((exists L3.i8);(·walk_at "ev");(·rfl);(·rfl);(·with_reducible assumption))
 |((exists L3.Cp);(·walk_at "ev");(·rfl);(·first|walk_at "evf"|rfl))
 |walk_at "ev")
local macro_rules| `(tactic|walk_at "ev")=> `(tactic|first
 |with_reducible assumption
 |((exists L3.oC);(·walk_at "ev");(·intro _;walk_at "evb"))
 |((exists L3.aaA);(·walk_at "ev");(·intro _;walk_at "evb"))
 |((exists L3.abJ);(·walk_at "ev");(·walk_at "ev");(·walk_at "ev");(·rfl);(·rfl);(·rfl);(·walk_at "evf");(·intro _;walk_at "evf"))
 |((exists L3.acJ);(·walk_at "ev");(·rfl);(·rfl);(·rfl)))
local macro_rules| `(tactic|walk_at "go")=> `(tactic|first
 |((exists L3.a5);(·walk_at "ev");(·rfl);(·walk_at "nm");try walk_at "go")
 |((exists L3.uP);(·walk_at "ev");try walk_at "go")
 |((exists L3.DU);try walk_at "go")
 |((exists L3.dB);try walk_at "go")
 |((exists L3.pV);(·walk_at "ev");(·rfl))
 |((exists L3.kw);(·walk_at "ev"))
 |((exists L3.yQ);(·walk_at "ev");(·rfl);(·walk_at "nm"))
 |((exists L3.fZ);(·walk_at "ev"))
 |((exists L3.cL);(·walk_at "ev");(·rfl))
 |((exists L3.nv);(·walk_at "ev"))
 |(exists L3.jh))
local macro_rules| `(tactic|walk_at "evp")=> `(tactic|((apply Eq.trans);(·walk_at "ev");(·rfl)))
namespace K64
open PySem L2 L3
def jy:FS:=(dc (aH dR (aH bZ (xj Nj (aa 0) (dW (aa 1)) (dW (aH bZ (aa 1) (pC (.int 1))))) (eX (af (pC (.int 0)) au))) (pC (.int 0))))
def cz:FN:=fV 2 jy
def eE:FS:=(aE (aZ (aH bZ (aH bC (aa 0) (pC (.int 1000000007))) (aH fO (pC (.int 13)) (aa 1))) (gN 2))
 (aE (aZ (aH bC (aH bZ (aH bZ (aH fO (aa 2) (aH bZ (aH bZ (aa 2) (aH fO (aa 1) (aa 1))) (pC (.int 11)))) (aH fO (pC (.int 40487)) (aa 1))) (pC (.int 7))) (pC (.int 1000000033))) (gN 2))
 (dc (aH cG (aH bC (aH bZ (aH fO (aa 2) (aH bZ (aH cG (aa 2) (pC (.int 7))) (pC (.int 31)))) (pC (.int 90001))) (pC (.int 999999937))) (pC (.int 3))))))
def bM:FN:=fV 3 eE
def fy:FS:=(aE (aZ (eX au) (gN 2))
 (aE (aZ (jn rE (af (aa 0) (af (aH v7 (pC (.int 0)) (aa 0)) au))) (gN 3))
 (aE (fM (g8 dZ (af (aa 1) au)) (gN 4) (aE (aZ (pC (.int 0)) (gN 5))
 (aE (fM (g8 dZ (af (pC (.int 3)) au)) (gN 6) (aZ (aH bZ (aH fO (aa 5) (aH nY (pC (.int 10)) (pC (.int 8)))) (aH bC (cr bM 2 (af (aa 0) (af (aH bZ (aH fO (pC (.int 3)) (aa 4)) (aa 6)) au))) (aH nY (pC (.int 10)) (pC (.int 8))))) (gN 5)))
 (aE (lV (wT (a9 (aH J1 (aa 3) (pC (.int 0)))) (Cg (a9 (aH Lo (aa 0) (pC (.int 0)))) (a9 (aH LA (aa 0) (aH nY (pC (.int 10)) (pC (.int 18))))))) (aE (aZ (aH bC (aa 3) (aH nY (pC (.int 10)) (pC (.int 24)))) (gN 5))
 (aZ (aH cG (aa 3) (aH nY (pC (.int 10)) (pC (.int 24)))) (gN 3))) cT)
 (dE (iE 2 (aa 5)))))))
 (dc (aa 2)))))
def fC:FN:=fV 7 fy
def eA:FS:=(aE (aZ (pC (.str "")) (gN 1))
 (aE (aZ (aH bZ (pC (.int 1)) (aH bC (aa 0) (pC (.int 8)))) (gN 2))
 (aE (aZ (aH cG (aa 0) (pC (.int 8))) (gN 0))
 (aE (fM (g8 dZ (af (aa 2) au)) (gN 3) (aE (aZ (aH Bu (aa 1) (aH rF (pC (.str "abcdefghijklmnopqrstuvwxyz")) (aH bC (aa 0) (pC (.int 26))))) (gN 1))
 (aZ (aH cG (aa 0) (pC (.int 26))) (gN 0))))
 (dc (aa 1))))))
def eS:FN:=fV 4 eA
def cM:FS:=(aE (aZ (aH bZ (pC (.int 1)) (aa 0)) (gN 1))
 (aE (aZ (eX au) (gN 2))
 (aE (fM (g8 dZ (af (pC (.int 12)) au)) (gN 3) (aE (lV (a9 (aH kW (aH bC (aa 1) (pC (.int 2))) (pC (.int 1)))) (dE (iE 2 (aa 3))) cT)
 (aZ (aH cG (aa 1) (pC (.int 2))) (gN 1))))
 (dc (jn lA (af (aa 2) au))))))
def dr:FN:=fV 4 cM
def dw:FS:=(aE (aZ (eX au) (gN 1))
 (aE (fM (g8 dZ (af (aH bZ (pC (.int 1)) (aH bC (aH dR (aa 0) (pC (.int 0))) (pC (.int 20)))) au)) (gN 2) (aE (aZ (cr eS 1 (af (aH dR (aa 0) (aH bZ (pC (.int 1)) (aH fO (pC (.int 2)) (aa 2)))) au)) (gN 3))
 (aE (aZ (eX au) (gN 4))
 (aE (aZ (aH cG (aH dR (aa 0) (aH bZ (pC (.int 2)) (aH fO (pC (.int 2)) (aa 2)))) (pC (.int 6))) (gN 5))
 (aE (fM (g8 dZ (af (aH bZ (pC (.int 1)) (aH bC (aH dR (aa 0) (aH bZ (pC (.int 2)) (aH fO (pC (.int 2)) (aa 2)))) (pC (.int 6)))) au)) (gN 6) (aE (dE (iE 4 (cr dr 1 (af (aH bC (aa 5) (pC (.int 4095))) au))))
 (aZ (aH cG (aa 5) (pC (.int 4095))) (gN 5))))
 (lV (a9 (aH Ho (aa 3) (jp 2 [] (Fz 1) (gT 2 (l8 (gN 0) (l8 (gN 1) yf))) e8 (aa 0)))) (dE (iE 1 (bV (af (aa 3) (af (jn lA (af (aa 4) au)) au))))) cT))))))
 (dc (jn lA (af (aa 1) au)))))
def dC:FN:=fV 7 dw
def fL:FS:=(aE (lV (Cg (a9 (aH Lo (aa 0) (pC (.int 0)))) (a9 (aH LA (aa 0) (aH nY (pC (.int 10)) (pC (.int 18)))))) (dc (jn rE (af (aa 0) (af (aH v7 (pC (.int 0)) (aa 0)) au)))) cT)
 (dc (cr bM 2 (af (cr bM 2 (af (aa 0) (af (aa 1) au))) (af (pC (.int 3)) au)))))
def bL:FN:=fV 2 fL
def fX:FS:=(aE (aZ (pC (.str "abcdefghijklmnopqrstuvwxyz")) (gN 2))
 (aE (aZ (aH rF (aa 2) (aH bC (aH cG (aa 0) (pC (.int 3))) (pC (.int 26)))) (gN 3))
 (aE (lV (wT (a9 (aH kW (aH bC (aa 0) (pC (.int 3))) (pC (.int 0)))) (a9 (aH Lo (aa 1) (pC (.int 9))))) (dc (jp 1 [3] (g8 dZ (af (aa 1) au)) (gN 0) e8 (aH L9.xG (aa 1) (aH bZ (aa 0) (pC (.int 1)))))) cT)
 (aE (aZ (aH bC (aH cG (aa 0) (pC (.int 78))) (pC (.int 8))) (gN 4))
 (aE (aZ (aH bC (aH cG (aa 0) (pC (.int 624))) (aH bZ (aa 4) (pC (.int 1)))) (gN 5))
 (aE (aZ (eX au) (gN 6))
 (aE (fM (g8 dZ (af (aa 1) au)) (gN 7) (aE (aZ (aH rF (aa 2) (aH bC (aH bZ (aH fO (aa 7) (pC (.int 7))) (aH cG (aa 0) (pC (.int 5616)))) (pC (.int 26)))) (gN 8))
 (dE (iE 6 (aH Bu (aH Bu (aH L9.xG (aa 3) (aa 5)) (aa 8)) (aH L9.xG (aa 3) (aH v7 (aa 4) (aa 5))))))))
 (dc (aa 6)))))))))
def eL:FN:=fV 9 fX
def fD:FS:=(aE (aZ (eX (af (bV (af (pC (.int 0)) au)) (af (bV (af (pC (.int 1)) au)) (af (bV (af (pC (.int 0)) (af (pC (.int 1)) au))) (af (bV (af (pC (.int 2)) (af (pC (.int 11)) au))) au))))) (gN 2))
 (aE (lV (a9 (aa 1)) (aE (aZ (aH cG (aa 0) (pC (.int 4))) (gN 3))
 (aE (aZ (eX au) (gN 4))
 (aE (fM (g8 dZ (af (pC (.int 12)) au)) (gN 5) (aE (lV (a9 (aH kW (aH bC (aa 3) (pC (.int 2))) (pC (.int 1)))) (dE (iE 4 (aa 5))) cT)
 (aZ (aH cG (aa 3) (pC (.int 2))) (gN 3))))
 (lV (a9 (aH J1 (jn fu (af (aa 4) au)) (pC (.int 0)))) (dc (jn lA (af (aa 4) au))) cT)))) cT)
 (dc (aH dR (aa 2) (aH bC (aa 0) (pC (.int 4)))))))
def cU:FN:=fV 6 fD
def gM:FS:=(aE (aZ (cr cz 2 (af (aa 0) (af (aa 1) au))) (gN 2))
 (aE (lV (Cg (a9 (aH Lo (aa 2) (pC (.int 0)))) (a9 (aH LA (aa 2) (aH nY (pC (.int 10)) (pC (.int 18)))))) (dc (cr dC 1 (af (cr fC 2 (af (aa 2) (af (pC (.int 41)) au))) au))) cT)
 (aE (aZ (cr bL 2 (af (aa 2) (af (pC (.int 1)) au))) (gN 2))
 (aE (aZ (aH bC (aH cG (aa 2) (pC (.int 6))) (pC (.int 4))) (gN 3))
 (aE (aZ (aH bZ (pC (.int 1)) (aH bC (aa 2) (pC (.int 6)))) (gN 4))
 (aE (aZ (pC (.int 4)) (gN 5))
 (aE (lV (a9 (aH kW (aH bC (aH cG (aa 2) (pC (.int 24))) (pC (.int 8))) (pC (.int 3)))) (aE (aZ (aH bZ (pC (.int 12)) (aH bC (aH cG (aa 2) (pC (.int 192))) (pC (.int 9)))) (gN 4))
 (aZ (pC (.int 6)) (gN 5))) cT)
 (aE (aZ (cr eL 2 (af (cr bL 2 (af (cr cz 2 (af (aa 0) (af (aH bZ (aa 1) (pC (.int 1))) au))) (af (pC (.int 2)) au))) (af (aa 4) au))) (gN 6))
 (aE (aZ (eX au) (gN 7))
 (aE (fM (g8 dZ (af (aa 4) au)) (gN 8) (aE (aZ (cr bL 2 (af (cr cz 2 (af (aa 0) (af (aH bZ (aH bZ (aa 1) (pC (.int 2))) (aH bC (aa 8) (pC (.int 6)))) au))) (af (aH bZ (pC (.int 3)) (aa 8)) au))) (gN 9))
 (aE (aZ (eX au) (gN 10))
 (aE (fM (g8 dZ (af (aH bZ (pC (.int 1)) (aH bC (aa 9) (aa 5))) au)) (gN 11) (aE (aZ (aH cG (aa 9) (pC (.int 4))) (gN 9))
 (dE (iE 10 (cr cU 2 (af (aH dR (eX (af (aH bC (aa 9) (pC (.int 2))) (af (aa 9) (af (aa 9) (af (aa 9) au))))) (aa 3)) (af (aH kW (aa 3) (pC (.int 1))) au)))))))
 (dE (iE 7 (bV (af (aH dR (aa 6) (aa 8)) (af (jn lA (af (aa 10) au)) au)))))))))
 (dc (jn lA (af (aa 7) au)))))))))))))
def gL:FN:=fV 12 gM
def ql:FS:=(dc (aH kW (xj qp (aa 1) jV (dW (jn fu (af (aa 0) au)))) (aa 0)))
def fK:FN:=fV 2 ql
def jk:FS:=(aE (aZ (eX au) (gN 1))
 (aE (fM (iK (aa 0)) (gT 2 (l8 (gN 2) (l8 (gN 3) yf))) (fM (iK (aa 0)) (gT 2 (l8 (gN 4) (l8 (gN 5) yf))) (lV (wT (a9 (aH vE (aa 2) (aa 4))) (a9 (cr fK 2 (af (aa 3) (af (aa 5) au))))) (dE (iE 1 (bV (af (jn fu (af (aa 5) au)) (af (xj qp (aa 5) (dW (jn fu (af (aa 3) au))) jV) (af (bV (af (aa 4) au)) (af (bV (af (aa 2) au)) au))))))) cT)))
 (dc (aa 1))))
def eu:FN:=fV 6 jk
def jv:FS:=(aE (aZ (aH dR (aa 1) (pC (.int 0))) (gN 2))
 (aE (aZ (aH dR (aa 1) (pC (.int 1))) (gN 3))
 (aE (lV (a9 (aH kW (aa 3) (bV au))) (dc (eX au)) cT)
 (aE (aZ (eX au) (gN 4))
 (aE (fM (iK (aa 0)) (gT 2 (l8 (gN 5) (l8 (gN 6) yf))) (lV (a9 (cr fK 2 (af (aa 6) (af (aa 3) au)))) (dE (iE 4 (bV (af (aa 2) (af (xj qp (aa 3) (dW (jn fu (af (aa 6) au))) jV) (af (aH dR (aa 1) (pC (.int 2))) (af (aH bZ (aH dR (aa 1) (pC (.int 3))) (bV (af (aa 5) au))) au))))))) (lV (a9 (cr fK 2 (af (aa 3) (af (aa 6) au)))) (aE (aZ (xj qp (aa 6) (dW (jn fu (af (aa 3) au))) jV) (gN 7))
 (dE (iE 4 (bV (af (aH bZ (aa 2) (jn fu (af (aa 7) au))) (af (aa 7) (af (aH bZ (aH dR (aa 1) (pC (.int 3))) (bV (af (aa 5) au))) (af (aH dR (aa 1) (pC (.int 2))) au)))))))) cT)))
 (dc (aa 4)))))))
def fG:FN:=fV 8 jv
def gm:FS:=(aE (aZ (bV au) (gN 2))
 (aE (fM (iK (aa 1)) (gN 3) (fM (iK (aa 0)) (gT 2 (l8 (gN 4) (l8 (gN 5) yf))) (lV (a9 (aH kW (aa 4) (aa 3))) (aZ (aH wC (aa 2) (aa 5)) (gN 2)) cT)))
 (dc (aa 2))))
def bG:FN:=fV 6 gm
def kL:FS:=(aE (lV (tH (a9 (uO "list" (aa 0)))) (dc (pC (.bool Ph))) cT)
 (dc (jn FU (af (jp 1 [1] (iK (aa 0)) (gN 0) e8 (yI (uO "str" (aa 0)) (aH Lr (aa 0) (jp 2 [] (iK (aa 1)) (gT 2 (l8 (gN 0) (l8 (gN 1) yf))) e8 (aa 0))))) au))))
def de:FN:=fV 2 kL
def ej:FS:=(aE (lV (Cg (tH (a9 (uO "tuple" (aa 1)))) (a9 (aH vE (jn fu (af (aa 1) au)) (pC (.int 2))))) (dc (pC (.bool Ph))) cT)
 (aE (lV (Cg (tH (a9 (cr de 2 (af (aH dR (aa 1) (pC (.int 0))) (af (aa 0) au))))) (Cg (tH (a9 (cr de 2 (af (aH dR (aa 1) (pC (.int 1))) (af (aa 0) au))))) (a9 (aH kW (aH dR (aa 1) (pC (.int 0))) (aH dR (aa 1) (pC (.int 1))))))) (dc (pC (.bool Ph))) cT)
 (aE (aZ (cr bG 2 (af (aa 0) (af (aH dR (aa 1) (pC (.int 0))) au))) (gN 3))
 (dc (yI (aH kW (aa 3) (cr bG 2 (af (aa 0) (af (aH dR (aa 1) (pC (.int 1))) au)))) (aH kW (jn fu (af (aa 3) au)) (aa 2)))))))
def cQ:FN:=fV 4 ej
def gc:FS:=(aE (aZ (eX au) (gN 3))
 (aE (aZ (pC (.int 0)) (gN 4))
 (aE (fM (iK (aa 1)) (gN 5) (aE (aZ (aH dR (aa 0) (aH bC (aH cG (cr bL 2 (af (aa 5) (af (aa 2) au))) (aa 2)) (jn fu (af (aa 0) au)))) (gT 2 (l8 (gN 6) (l8 (gN 7) yf))))
 (lV (a9 (aH NL (aH bZ (aa 4) (jn fu (af (aa 7) au))) (pC (.int 190)))) (aE (dE (iE 3 (aa 6)))
 (aZ (aH bZ (aa 4) (jn fu (af (aa 7) au))) (gN 4))) cT)))
 (dc (aa 3)))))
def eG:FN:=fV 8 gc
end K64
namespace K64
open PySem L2 L3 L10
def oJ:gF:=(ui (zG (bw 1)) (ju 2) (bv (d7 (aq (aH dR (aa 2) (pC (.int 1)))) (ju 3))
 (pF (bw 0) (aq (aa 3)) (Cw zi (bp (aq (aa 2)) (bp (ox (bw 0) (aq (aa 3)) (aq (aa 2))) d5))))))
def lH:qN:=jx 4 oJ
def dN:gF:=(bv (d7 ua (ju 1))
 (bv (d7 ua (ju 2))
 (bv (kE (kC lH 2 (bp (bw 2) (bp (aq (cr eu 1 (af (aa 0) au))) d5))))
 (bv (yA (eZ (AC (bw 2))) (bv (d7 (uB (bw 2)) (ju 3))
 (bv (pF (bw 1) (aq (aH dR (aa 3) (pC (.int 1)))) (u5 (bw 2) (aq (aH dR (aa 3) (pC (.int 1))))))
 (kE (kC lH 2 (bp (bw 2) (bp (AF 1 [1] (jM (iK (cr fG 2 (af (aa 0) (af (aa 3) au))))) (ju 0) (eZ (pA Pb (aq (aH dR (aa 0) (pC (.int 1)))) (bw 1))) (aq (aa 0))) d5)))))))
 (gY (bw 1))))))
def bH:qN:=jx 4 dN
def oA:gF:=(bv (d7 (kC bH 1 (bp (aq (aa 0)) d5)) (ju 1))
 (gY (LD.Wf (LD.U5 1))))
def dJ:qN:=jx 2 oA
def ke:gF:=(bv (d7 (kC bH 1 (bp (aq (aa 0)) d5)) (ju 1))
 (bv (gI (eZ (pA Pb (aq (bV au)) (bw 1))) (gY (aq (pC .none))) gk)
 (gY (Gf (bp (Cw qZ (bp (rF (iR (bw 1) (aq (bV au))) (aq (pC (.int 2)))) d5)) (bp (Cw qZ (bp (rF (iR (bw 1) (aq (bV au))) (aq (pC (.int 3)))) d5)) d5))))))
def aV:qN:=jx 2 ke
def iU:gF:=(bv (d7 (LD.ZN (gJ dJ 1 (bp (aq (aa 0)) d5))) (ju 1))
 (bv (ui (jM (g8 dZ (af (pC (.int 2)) au))) (ju 2) (bv (d7 (gJ aV 1 (bp (aq (aa 0)) d5)) (ju 3))
 (bv (gI (eZ (F4 vE (F4 sO (bw 3) (aq (pC .none))) (pA Pb (aq (bV au)) (bw 1)))) (gY (aq (pC (.bool Ph)))) gk)
 (gI (eZ (F4 Eu (bw 3) (aq (pC .none)))) (bv (gI (yc (eZ (BT cQ 3 (bp (aq (aa 0)) (bp (bw 3) (bp (iR (bw 1) (aq (bV au))) d5)))))) (gY (aq (pC (.bool Ph)))) gk)
 (bv (kE (BM (rF (bw 3) (aq (pC (.int 0)))) (aq (aH dR (aH dR (aa 0) (pC (.int 0))) (pC (.int 0))))))
 (kE (BM (rF (bw 3) (aq (pC (.int 1)))) (aq (aH dR (aH dR (aa 0) (IY D2 (pC (.int 1)))) (pC (.int 0)))))))) gk))))
 (gY (aq (pC (.bool Pb))))))
def bq:qN:=jx 4 iU
def fQ:gF:=(bv (d7 (vP [((aq (pC (.int 0))),(aq (pC .none)))]) (ju 2))
 (bv (ui (jM (g8 dZ (af (jn fu (af (aa 1) au)) au))) (ju 3) (gI (eZ (qB Ph (aq (aa 3)) (bw 2))) (ui (jM (iK (aa 0))) (Ou 2 (K6 (ju 4) (K6 (ju 5) Mv))) (bv (d7 (aq (aH bZ (aa 3) (jn fu (af (aa 5) au)))) (ju 6))
 (gI (kY (a9 (aH kW (xj qp (aa 1) (dW (aa 3)) (dW (aa 6))) (aa 5)))) (zD (bw 2) (aq (aa 6)) (aq (aa 4))) gk))) gk))
 (gY (bw 2))))
def cn:qN:=jx 7 fQ
def gA:gF:=(bv (d7 (wK (aq (aa 0))) (ju 2))
 (bv (d7 (kC cn 2 (bp (aq (aa 0)) (bp (aq (aa 1)) d5))) (ju 3))
 (bv (d7 (aq (jn fu (af (aa 1) au))) (ju 4))
 (bv (gI (eZ (qB Pb (aq (aa 4)) (bw 3))) (gY (aq (pC .none))) gk)
 (bv (d7 (aq (eX au)) (ju 5))
 (bv (yA (kY (a9 (aH J1 (aa 4) (pC (.int 0))))) (bv (d7 (pc (bw 3) (aq (aa 4))) (ju 6))
 (bv (kE (BM (bw 5) (aq (aa 6))))
 (BP 4 v7 (Cw fu (bp (pc (bw 2) (aq (aa 6))) d5))))))
 (gY (zS (bw 5)))))))))
def cc:qN:=jx 7 gA
def rS:gF:=(bv (d7 (wK (aq (aa 0))) (ju 2))
 (bv (d7 (aq (bV au)) (ju 3))
 (bv (ui (jM (iK (aa 1))) (ju 4) (bv (gI (eZ (qB Pb (aq (aa 4)) (bw 2))) Md gk)
 (BP 3 Aq (pc (bw 2) (aq (aa 4))))))
 (gY (aq (aa 3))))))
def dY:qN:=jx 5 rS
def CU:gF:=(bv (d7 (aq (cr gL 2 (af (aa 0) (af (pC (.int 0)) au)))) (ju 1))
 (bv (d7 (oT (aq (jn lA (af (jp 2 [] (iK (aH wC (xj qp (aa 1) (dW (pC (.int 1))) jV) (xj qp (aa 1) jV (dW (pC (.int 1)))))) (gT 2 (l8 (gN 0) (l8 (gN 1) yf))) e8 (bV (af (aa 0) (af (IY L9.CC (aa 1)) au)))) au)))) (ju 2))
 (bv (gI (LB (yc (eZ (gJ bq 1 (bp (aq (aa 1)) d5)))) (LB (yc (eZ (gJ bq 1 (bp (aq (aa 2)) d5)))) (yc (eZ (gJ bq 1 (bp (aq (aa 1)) d5)))))) (gY (aq (pC (.bool Ph)))) gk)
 (bv (d7 (F4 sO (gJ aV 1 (bp (aq (aa 1)) d5)) (aq (pC .none))) (ju 3))
 (bv (d7 (oT (aq (cr eG 3 (af (aa 1) (af (xj qp (aa 0) (dW (pC (.int 14))) (dW (pC (.int 63)))) (af (pC (.int 1)) au)))))) (ju 4))
 (bv (d7 (oT (aq (cr eG 3 (af (aa 1) (af (xj qp (aa 0) (dW (pC (.int 40))) (dW (pC (.int 63)))) (af (pC (.int 7)) au)))))) (ju 2))
 (bv (ui (jM (iK (eX (af (aa 4) (af (aa 2) (af (xj qp (aa 4) jV (dW (jn fu (af (aa 2) au)))) (af (xj qp (aa 2) jV (dW (pC (.int 3)))) au))))))) (ju 5) (bv (d7 (oT (gJ dY 2 (bp (aq (aa 1)) (bp (oT (aq (jn qZ (af (aa 5) au)))) d5)))) (ju 6))
 (bv (gI (kY (a9 (aH vE (aa 6) (cr bG 2 (af (aa 1) (af (aa 5) au)))))) (gY (aq (pC (.bool Ph)))) gk)
 (bv (d7 (oT (gJ cc 2 (bp (aq (aa 1)) (bp (aq (aa 6)) d5)))) (ju 7))
 (bv (gI (kY (Cg (tH (a9 (cr de 2 (af (aa 7) (af (aa 1) au))))) (Cg (a9 (aH vE (cr bG 2 (af (aa 1) (af (aa 7) au))) (aa 6))) (wT (a9 (aa 3)) (a9 (aH vE (aa 7) (aa 5))))))) (gY (aq (pC (.bool Ph)))) gk)
 (gI (BG (kY (a9 (aa 3))) (eZ (F4 vE (aq (aH kW (aa 5) (aa 4))) (F4 kW (aq (aa 6)) (gJ dY 2 (bp (aq (aa 1)) (bp (oT (aq (jn qZ (af (aa 4) au)))) d5))))))) (gY (aq (pC (.bool Ph)))) gk))))))
 (gY (aq (pC (.bool Pb)))))))))))
def F_law:qN:=jx 8 CU
def l9 (a:List Int) (lo hi:Option Int):List Int:=(a.drop (HT.sIx a.length 0 lo)).take (HT.sIx a.length a.length hi - HT.sIx a.length 0 lo)
theorem tV (a:List Int) (k:Int) (h:0<=k) (g:a.length<=63):∃c:Int,cz [.list (a.map .int),.int k]= .ok (.fz (.int c)):=by
 unfold cz jy;have d:Nj (.list (a.map .int)) (lD k) (lD (k+1))=lD (.ow (gg (a.map .int) (lD k) (lD (k+1)))):=rfl;have e:gg (a.map O9.int) (lD k) (lD (k+1))=(l9 a (lD k) (lD (k+1))).map .int:=by unfold gg l9;rw[OX,Tc,TV]
 rw[e] at d;have b:(l9 a (lD k) (lD (k+1))).length<=63:=by unfold l9;rw[Qj,QE];omega
 generalize l9 a (lD k) (lD (k+1))=cs at d b;have i:bZ (.list (cs.map .int)) (.list [.int 0])=lD (.ow (cs.map .int++[.int 0])):=by show(if(cs.map O9.int).length+1<=1000000 then _ else _)=_;rw[OX,if_pos (by omega)]
 cases cs with
 |nil=>have f:dR (.list (([]:List Int).map O9.int++[.int 0])) (.int 0)=lD (.fz (.int 0)):=J7;exact⟨0,jl (ρ:=[lD (.fz (.list (a.map .int))),lD (.fz (.int k))]) rfl (cL (by walk_at "ev") rfl rfl)⟩
 |cons c r=>have f:dR (.list ((c::r).map O9.int++[.int 0])) (.int 0)=lD (.fz (.int c)):=J7;exact⟨c,jl (ρ:=[lD (.fz (.list (a.map .int))),lD (.fz (.int k))]) rfl (cL (by walk_at "ev") rfl rfl)⟩
theorem kH (c s:Int) (h0:0<=s) (h1:s<=1000):∃r:Int,0<=r/\bM [.int c,.int s]= .ok (.fz (.int r)):=by unfold bM eE;have i:0<=c % 1000000007/\c % 1000000007<1000000007:=⟨P0 _ (by decide),P6 _ (by decide)⟩;have g:bC (.int c) (.int 1000000007)=lD (.fz (.int (c % 1000000007))):=bK (by decide);have n:fO (.int 13) (.int s)=lD (.fz (.int (13*s))):=gs ⟨by omega,by omega⟩;generalize c % 1000000007=x at i g;have e:fO (.int s) (.int s)=lD (.fz (.int (s*s))):=gs ⟨by omega,by omega⟩;generalize s*s=ss at e;have d:fO (.int (x+13*s)) (.int (x+13*s+ss+11))=lD (.fz (.int ((x+13*s)*(x+13*s+ss+11)))):=gs ⟨by omega,by omega⟩;generalize (x+13*s)*(x+13*s+ss+11)=y at d;have m:fO (.int 40487) (.int s)=lD (.fz (.int (40487*s))):=gs ⟨by omega,by omega⟩;have h:0<=(y+40487*s+7) % 1000000033/\(y+40487*s+7) % 1000000033<1000000033:=⟨P0 _ (by decide),P6 _ (by decide)⟩;have b:bC (.int (y+40487*s+7)) (.int 1000000033)=lD (.fz (.int ((y+40487*s+7) % 1000000033))):=bK (by decide);generalize (y+40487*s+7) % 1000000033=z at h b;have l:cG (.int z) (.int 7)=lD (.fz (.int (z/7))):=cS ⟨by omega,by omega⟩;have a:fO (.int z) (.int (z/7+31))=lD (.fz (.int (z*(z/7+31)))):=gs ⟨by omega,by omega⟩;generalize z*(z/7+31)=u at a;have o:0<=(u+90001) % 999999937:=P0 _ (by decide);have j:bC (.int (u+90001)) (.int 999999937)=lD (.fz (.int ((u+90001) % 999999937))):=bK (by decide);have f:cG (.int ((u+90001) % 999999937)) (.int 3)=lD (.fz (.int ((u+90001) % 999999937/3))):=cS ⟨by omega,by omega⟩;refine⟨(u+90001) % 999999937/3,by omega,jl (ρ:=[lD (.fz (.int c)),lD (.fz (.int s)),Ld]) rfl (uM (yd (by walk_at "ev") rfl (uM (yd (by walk_at "ev") rfl (cL (by walk_at "ev") rfl rfl)))))⟩
theorem EA (c:Int):0<=if 0 - c>c then 0 - c else c:=by split<;>omega
theorem oG (c s:Int) (h0:0<=s) (h1:s<=1000):∃r:Int,0<=r/\bL [.int c,.int s]= .ok (.fz (.int r)):=by
 unfold bL fL;obtain⟨r,f,er⟩:=kH c s h0 h1;obtain⟨q,b,eq⟩:=kH r 3 (by decide) (by decide);have d:rE [.int c,.int (0 - c)]=lD (.fz (.int (if 0 - c>c then 0 - c else c))):=rfl;have a:=EA c;generalize (if 0 - c>c then 0 - c else c)=mx at d a;obtain⟨rv,e,t⟩:=g7 (ds:=[.int c,.int s]) (ρ:=[lD (.fz (.int c)),lD (.fz (.int s))]) (n:=2) (g:=fL) (T:=fun v=>∃r:Int,0<=r/\v= .fz (.int r)) rfl
  (uM (nv (by walk_at "ev") (fun _=>cL (by walk_at "ev") rfl ⟨mx,a,rfl⟩) (fun _=>jh (cL (by walk_at "ev") rfl ⟨q,b,rfl⟩))))
 obtain⟨r,h,rfl⟩:=t;exact⟨r,h,e⟩
theorem Cb (c:Int):∃xs:List Int,xs.length=41/\(∀x∈xs,0<=x)/\fC [.int c,.int 41]= .ok (.ow (xs.map .int)):=by
 have p:=EA c;have K:rE [.int c,.int (0 - c)]=lD (.fz (.int (if 0 - c>c then 0 - c else c))):=rfl;generalize (if 0 - c>c then 0 - c else c)=mx at K p;have O:=NT;have B:=LR;have A:dZ [.int 41]=lD (qO (P9 41)):=jR (n:=41) (by decide) (by decide);have N:dZ [.int 3]=lD (qO (P9 3)):=jR (n:=3) (by decide) (by decide);obtain⟨rv,e,xs,h1,J,rfl⟩:=g7 (ds:=[.int c,.int 41]) (ρ:=[lD (.fz (.int c)),lD (.fz (.int 41)),Ld,Ld,Ld,Ld,Ld]) (n:=7) (g:=fy) (T:=fun v=>∃xs:List Int,xs.length=41/\(∀x∈xs,0<=x)/\v= .ow (xs.map .int)) rfl (by
  unfold fy;walk_at "go"
  exists eU (fun i ρ=>∃(xs:List Int) (l:Int) (f b a:Option PV),ρ=[lD (.fz (.int c)),lD (.fz (.int 41)),lD (.ow (xs.map .int)),lD (.fz (.int l)),f,b,a]/\xs.length=i/\(∀x∈xs,0<=x)/\0<=l)
  .walk_at "ev"
  .exact⟨[],mx,Ld,Ld,Ld,rfl,rfl,fun x h=>(by cases h),p⟩
  .rintro i d ρ hi ⟨xs,l,f,b,a,rfl,hxl,hx,hl⟩
   obtain⟨k,w,rfl⟩:=eK hi;have M:k<41:=Q9.mp (Pu w);have L:i<41:=by have:=(O0.mp w).1;simpa using this
   refine⟨[lD (.fz (.int c)),lD (.fz (.int 41)),lD (.ow (xs.map .int)),lD (.fz (.int l)),lD (.fz (nd k)),b,a],rfl,?_⟩;refine a5 (ρ3:=[lD (.fz (.int c)),lD (.fz (.int 41)),lD (.ow (xs.map .int)),lD (.fz (.int l)),lD (.fz (nd k)),lD (.fz (.int 0)),a]) bI rfl rfl ?_
   exists eU (fun i ρ=>∃(x:Int) (a:Option PV),ρ=[lD (.fz (.int c)),lD (.fz (.int 41)),lD (.ow (xs.map .int)),lD (.fz (.int l)),lD (.fz (nd k)),lD (.fz (.int x)),a]/\0<=x)
   .walk_at "ev"
   .exact⟨0,a,rfl,by decide⟩
   .rintro j d ρ I ⟨x,a,rfl,hx0⟩;obtain⟨t,o,rfl⟩:=eK I;have H:t<3:=Q9.mp (Pu o);obtain⟨r,U,er⟩:=kH c (3*(k:Int)+(t:Int)) (by omega) (by omega);have S:fO (.int 3) (nd k)=lD (.fz (.int (3*(k:Int)))):=gs ⟨by omega,by omega⟩;have Q:fO (.int x) (.int (10^8))=lD (.fz (.int (x*10^8))):=xa ⟨by decide,by decide⟩;have F:bC (.int r) (.int (10^8))=lD (.fz (.int (r % 10^8))):=bK (by decide);have q:0<=r % 10^8:=P0 _ (by decide);refine⟨_,rfl,?_⟩;walk_at "go";refine⟨x*10^8+r % 10^8,_,rfl,?_⟩;have:0<=x*10^8:=Int.mul_nonneg hx0 (by decide);omega
   .rintro ρ ⟨x,a,rfl,hx0⟩
    have F:bC (.int l) (.int (10^24))=lD (.fz (.int (l % 10^24))):=bK (by decide);have P:cG (.int l) (.int (10^24))=lD (.fz (.int (l/10^24))):=cS ⟨by decide,by decide⟩;have q:0<=l % 10^24:=P0 _ (by decide);have E:0<=l/10^24:=RT hl (by decide)
    have m:∀(x l:Int) (a:Option PV),0<=x->0<=l->Go (dE (iE 2 (aa 5)) [lD (.fz (.int c)),lD (.fz (.int 41)),lD (.ow (xs.map .int)),lD (.fz (.int l)),lD (.fz (nd k)),lD (.fz (.int x)),a])
      (fun ρ=>∃(xs:List Int) (l:Int) (f b a:Option PV),ρ=[lD (.fz (.int c)),lD (.fz (.int 41)),lD (.ow (xs.map .int)),lD (.fz (.int l)),f,b,a]/\xs.length=i+1/\(∀x∈xs,0<=x)/\0<=l)
      (fun ρ=>∃(xs:List Int) (l:Int) (f b a:Option PV),ρ=[lD (.fz (.int c)),lD (.fz (.int 41)),lD (.ow (xs.map .int)),lD (.fz (.int l)),f,b,a]/\xs.length=i+1/\(∀x∈xs,0<=x)/\0<=l)
      (fun v=>∃xs:List Int,xs.length=41/\(∀x∈xs,0<=x)/\v= .ow (xs.map .int)):=fun x l a h0 h1=>by
     have u:(xs.map O9.int).length<1000000:=by rw[OX];omega
     refine fZ (by walk_at "ev") ⟨xs++[x],l,_,_,_,by rw[PB];rfl,by rw[OZ,hxl];rfl,fun y G=> ?_,h1⟩;rcases Pw.mp G with z|z
     .exact hx y z
     .rw[Pk.mp z];exact h0
    have C:=ED;walk_at "go"
    .intro _;walk_at "go";exact m _ _ _ q E
    .intro _;exact dB (m _ _ _ hx0 hl)
  .rintro ρ ⟨xs,l,f,b,a,rfl,hxl,hx,hl⟩;exact cL (by walk_at "ev") rfl ⟨xs,hxl,hx,rfl⟩)
 exact⟨xs,h1,J,e⟩
def tx (l:List Nat):Str:=⟨l.toArray⟩
theorem JV (a b:List Nat):tx a++tx b=tx (a++b):=by show(⟨a.toArray++b.toArray⟩:Str)=⟨(a++b).toArray⟩;rw[List.append_toArray]
theorem mL (l:List Nat):(tx l).length=l.length:=by show l.toArray.size=_;rw[Pm]
theorem nu {l:List Nat} (h:∀c∈l,c<1114112):O9.strOk (tx l)=Pb:=by show l.toArray.all (fun c=>decide (c<0x110000))=Pb;rw[<-Yu,Qk];exact fun c a=>decide_eq_true (h c a)
theorem ER {a b:List Nat} (h:tx a=tx b):a=b:=congrArg (fun z:Str=>z.cps.toList) h
theorem uH {a b:List Nat} (h:a.length+b.length<=1000):Bu (.str (tx a)) (.str (tx b))=lD (.fz (.str (tx (a++b)))):=by show(if(tx a).length+(tx b).length<=1000000 then lD (RV.fz (.str (tx a++tx b))) else Ld)=_;rw[mL,mL,if_pos (by omega),JV]
theorem Ah (c:Nat):∀(n:Nat) (a:Array Nat),(Pe n (#[c]:Array Nat)).foldl (·++·) a=a++(Pe n c).toArray
 |0,a=>by simp
 |n+1,a=>by rw[Qp,Ur,Ah c n,Qp];apply Array.toList_inj.mp;simp
theorem Km (c:Nat) (n:Nat):Txt.mul (tx [c]) (n:Int)=tx (Pe n c):=by
 unfold Txt.mul;by_cases h0:n=0
 .subst h0;rfl
 rw[if_neg (by omega)];by_cases h1:n=1
 .subst h1;rfl
 rw[if_neg (by intro z;have z:(((n:Int)==1)||((tx [c]).length==0))=Pb:=z;rw[mL] at z;simp at z;omega)];show(⟨(Pe (n:Int).toNat (#[c]:Array Nat)).foldl (·++·) #[]⟩:Str)=_;rw[Ah,QK];simp;rfl
theorem uW {c:Nat} {i:Int} (h0:0<=i) (h1:i<=1000):L9.xG (.str (tx [c])) (.int i)=lD (.fz (.str (tx (Pe i.toNat c)))):=by show(if(tx [c]).length<=1000/\0<=i/\i<=1000 then lD (RV.fz (.str (Txt.mul (tx [c]) i))) else Ld)=_;rw[if_pos ⟨by rw[mL];exact P4 rfl,h0,h1⟩];obtain⟨n,rfl⟩:∃n:Nat,i=(n:Int):=⟨i.toNat,by omega⟩;rw[Km,QK]
abbrev Wd:=List Nat×List (List Int)
def kD (ks:List Int):D:= .tuple (ks.map .int)
def wD (e:Wd):D:= .tuple [.str (tx e.1),.tuple (e.2.map kD)]
def aF (B:List Wd):D:= .tuple (B.map wD)
theorem n5 {α:Type} {f g:α->D} {gt:FG} {fe:FE} {a:aO} (I:aO->Prop) (xs:List α) (c:xs.length<=1000000) (h0:I a) (hs:∀x∈xs,∀ρ,I ρ->∃ρ',nG gt e8 fe (f x) ρ= .ok (lD (g x),ρ')/\I ρ'):mF (dX gt e8 fe (xs.map f) a [])= .ok (xs.map g):=by
 obtain⟨ys,h1,m,l⟩:=EG (gt:=gt) (ft:=e8) (fe:=fe) (ds:=xs.map f) (ρ:=a) I (fun i y=>∃x,xs[i]? =lD x/\y=g x) h0 (by rw[OX];exact c) (by
  intro i d hi ρ h;rw[Pg] at hi;cases q:xs[i]? with
  |none=>rw[q] at hi;cases hi
  |some x=>
   obtain rfl:d=f x:=by rw[q] at hi;exact(PK hi).symm
   obtain⟨ρ',e,b⟩:=hs x (Pu q) ρ h;exact⟨_,_,e,b,x,rfl,rfl⟩)
 rw[h1];congr 1;refine SU fun i=> ?_;rw[Pg];cases q:ys[i]? with
 |none=>
  have:xs.length<=i:=by have:=List.getElem?_eq_none_iff.mp q;rw[m,OX] at this;exact this
  rw[S3 this];rfl
 |some y=>obtain⟨x,j,rfl⟩:=l i y q;rw[j];rfl
theorem Ai {α:Type} {f g:α->D} {fe:FE} {a:aO} (xs:List α) (c:xs.length<=1000000) (e:da a=a) (d:∀x∈xs,fe (lD (.fz (f x))::a)= .ok (.fz (g x),lD (.fz (f x))::a)):mF (dX (gN 0) e8 fe (xs.map f) (Ld::a) [])= .ok (xs.map g):=by
 refine n5 (fun ρ=>∃o,ρ=o::a) xs c ⟨Ld,rfl⟩ ?_;rintro x b ρ ⟨o,rfl⟩;have h:da (lD (PV.fz (f x))::a)=lD (.fz (f x))::a:=by show EW _::da a=_;rw[e];rfl
 exact⟨_,GB rfl rfl (d x b) rfl h,_,rfl⟩
theorem vI {α:Type} (p:α->Bool):∀l:List α,uT (l.map fun c=>O9.bool (p c))=lD (l.map p)
 |[]=>rfl
 |c::r=>by show(uT (r.map fun c=>O9.bool (p c))).map (p c::·)=_;rw[vI p r];rfl
theorem Ck {α:Type} (p:α->Bool) (l:List α):FU [.list (l.map fun c=>O9.bool (p c))]=lD (.fz (.bool (l.all p))):=by show(uT _).map (fun bs=>RV.fz (.bool (bs.all id)))=_;rw[vI];show lD (RV.fz (.bool _))=_;rw[List.all_map];rfl
def BZ (ks:List Int):Bool:=(ks.zip (ks.drop 1)).all fun p=>decide (p.1<p.2)
def OA (k:Int):Bool:=decide (0<=k)&&decide (k<12)
def Cd (ks:List Int):Bool:=decide ((ks.length:Int)≥1)&&(BZ ks&&ks.all OA)
theorem oz (a b:List Nat):O9.eqv (.str (tx a)) (.str (tx b))=decide (a=b):=by show decide (tx a=tx b)=_;exact decide_eq_decide.mpr ⟨ER,fun h=>by rw[h]⟩
theorem uV:∀{L:List (List Nat)},(∀l∈L,∀c∈l,c<1114112)->O9.canLayAll0 (L.map fun l=>O9.str (tx l))=Pb
 |[],_=>rfl
 |l::r,h=>by show(O9.strOk (tx l)&&O9.canLayAll0 (r.map fun l=>O9.str (tx l)))=Pb;rw[nu (h l Pr),uV fun m hm=>h m (Pl _ hm)];rfl
theorem tE (w:List Nat):∀L:List (List Nat),((L.map fun l=>O9.str (tx l)).any fun e=>O9.eqv e (.str (tx w)))=decide (w∈L)
 |[]=>rfl
 |l::r=>by
  rw[Pd,S9,tE w r,oz];by_cases h:l=w
  .subst h;simp
  .have:¬w=l:=fun z=>h z.symm;simp[h,this]
theorem JU {w:List Nat} {L:List (List Nat)} (a:∀c∈w,c<1114112) (b:∀l∈L,∀c∈l,c<1114112):Lr (.str (tx w)) (.list (L.map fun l=>O9.str (tx l)))=lD (.fz (.bool (decide (w∈L)))):=by show(if((O9.strOk (tx w)&&decide (0<=64))&&O9.canLayAll0 (L.map fun l=>O9.str (tx l)))=Pb then lD (RV.fz (.bool ((L.map fun l=>O9.str (tx l)).any fun e=>O9.eqv e (.str (tx w))))) else Ld)=_;rw[nu a,uV b,tE];rfl
theorem HF {w:List Nat} {L:List (List Nat)} (a:∀c∈w,c<1114112) (b:∀l∈L,∀c∈l,c<1114112):Ho (.str (tx w)) (.list (L.map fun l=>O9.str (tx l)))=lD (.fz (.bool (!decide (w∈L)))):=by show(if((O9.strOk (tx w)&&decide (0<=64))&&O9.canLayAll0 (L.map fun l=>O9.str (tx l)))=Pb then lD (RV.fz (.bool (!(L.map fun l=>O9.str (tx l)).any fun e=>O9.eqv e (.str (tx w))))) else Ld)=_;rw[nu a,uV b,tE];rfl
section
variable {n:Nat} {B:List Wd}
theorem NQ (B:List Wd):fu [aF B]=lD (.fz (.int (B.length:Int))):=by show lD (RV.fz (.int ((B.map wD).length:Int)))=_;rw[OX]
end
theorem wE:∀ks:List Int,BZ ks=Pb↔ks.Pairwise (·<·)
 |[]=>by simp[BZ]
 |[a]=>by simp[BZ]
 |a::b::r=>by
  have f:=wE (b::r);have e:BZ (a::b::r)=(decide (a<b)&&BZ (b::r)):=rfl;rw[e,PN,decide_eq_true_iff,f];constructor
  .rintro⟨h1,d⟩
   refine Rt.mpr ⟨fun x c=> ?_,d⟩;rcases Py.mp c with rfl|c
   .exact h1
   .exact abC h1 ((Rt.mp d).1 x c)
  .exact fun h=>have z:=Rt.mp h;⟨z.1 b Pr,z.2⟩
theorem Ot:∀ks:List Int,O9.canLayAll0 (ks.map O9.int)=Pb
 |[]=>rfl
 |k::r=>by show(Pb&&O9.canLayAll0 (r.map O9.int))=Pb;rw[Ot r];rfl
theorem MF:∀ks:List Int,O9.depthAll (ks.map O9.int)=0
 |[]=>rfl
 |k::r=>by show max 0 (O9.depthAll (r.map O9.int))=0;rw[MF r];rfl
theorem JK:∀a b:List Int,O9.eqvAll (a.map O9.int) (b.map O9.int)=decide (a=b)
 |[],[]=>rfl
 |[],_::_=>rfl
 |_::_,[]=>rfl
 |x::r,y::t=>by show(decide (x=y)&&O9.eqvAll (r.map O9.int) (t.map O9.int))=_;rw[JK r t];by_cases h:x=y<;>by_cases g:r=t<;>simp[h,g]
section
variable {n:Nat} {B:List Wd}
theorem o7:∀ss:List (List Int),O9.canLayAll0 (ss.map kD)=Pb
 |[]=>rfl
 |ks::r=>by show(O9.canLayAll0 (ks.map O9.int)&&O9.canLayAll0 (r.map kD))=Pb;rw[Ot,o7 r];rfl
theorem qm:∀ss:List (List Int),O9.depthAll (ss.map kD)<=1
 |[]=>Qb _
 |ks::r=>by show max (O9.depthAll (ks.map O9.int)+1) (O9.depthAll (r.map kD))<=1;rw[MF];have:=qm r;omega
end
theorem sM {i:Int} (h0:0<=i) (h1:i<26):rF (.str "abcdefghijklmnopqrstuvwxyz") (.int i)=lD (.fz (.str (tx [97+i.toNat]))):=by
 have a:∀c,c<26->(("abcdefghijklmnopqrstuvwxyz":Str).cps.toList)[c]? =lD (97+c):=by decide+kernel
 have b:("abcdefghijklmnopqrstuvwxyz":Str).length<=1000000:=by decide+kernel
 show(if("abcdefghijklmnopqrstuvwxyz":Str).length<=1000000 then(kU ("abcdefghijklmnopqrstuvwxyz":Str).cps.toList i).map (fun c=>RV.fz (.str ⟨#[c]⟩)) else Ld)=_;rw[if_pos b,tQ h0 (a i.toNat (by omega))];rfl
def Eh (l:List Nat):Prop:=∀c∈l,97<=c/\c<=122
theorem sU {a b:List Nat} (h:Eh a) (g:Eh b):Eh (a++b):=fun c d=>by
 rcases Pw.mp d with z|z
 .exact h c z
 .exact g c z
theorem zA {i:Int} (h0:0<=i) (h1:i<26):Eh [97+i.toNat]:=fun c a=>by rw[Pk.mp a];omega
theorem Hu {i:Int} (h0:0<=i) (h1:i<26) (n:Nat):Eh (Pe n (97+i.toNat)):=fun c a=>by rw[(List.mem_replicate.mp a).2];omega
theorem HG:(O9.str "")= .str (tx []):=by
 have:("":Str)=tx []:=by decide+kernel
 rw[this]
theorem xO {x:Int} (u:0<=x):∃l:List Nat,Eh l/\1<=l.length/\l.length<=8/\eS [.int x]= .ok (.fz (.str (tx l))):=by
 have C:0<=x % 8/\x % 8<8:=⟨P0 _ (by decide),P6 _ (by decide)⟩;have t:bC (.int x) (.int 8)=lD (.fz (.int (x % 8))):=bK (by decide);have r:cG (.int x) (.int 8)=lD (.fz (.int (x/8))):=cS ⟨by decide,by decide⟩;have p:dZ [.int (1+x % 8)]=lD (qO (P9 (1+x % 8).toNat)):=jR (by omega) (by omega);have o:0<=x/8:=RT u (by decide);generalize x/8=x8 at r o;generalize x % 8=xm at t C p;obtain⟨rv,e,l,h1,B,A,rfl⟩:=g7 (ds:=[.int x]) (ρ:=[lD (.fz (.int x)),Ld,Ld,Ld]) (n:=4) (g:=eA) (T:=fun v=>∃l:List Nat,Eh l/\1<=l.length/\l.length<=8/\v= .fz (.str (tx l))) rfl (by
  unfold eA;rw[HG];walk_at "go"
  exists eU (fun i ρ=>∃(y:Int) (l:List Nat) (j:Option PV),ρ=[lD (.fz (.int y)),lD (.fz (.str (tx l))),lD (.fz (.int (1+xm))),j]/\l.length=i/\Eh l/\0<=y)
  .walk_at "ev"
  .exact⟨x8,[],Ld,rfl,rfl,(fun c h=>by cases h),o⟩
  .rintro i d ρ hi ⟨y,l,j,rfl,hl,hL,hy⟩
   obtain⟨k,w,rfl⟩:=eK hi;have z:i<(1+xm).toNat:=by have:=(O0.mp w).1;simpa using this
   have f:0<=y % 26/\y % 26<26:=⟨P0 _ (by decide),P6 _ (by decide)⟩;have H:bC (.int y) (.int 26)=lD (.fz (.int (y % 26))):=bK (by decide);have G:cG (.int y) (.int 26)=lD (.fz (.int (y/26))):=cS ⟨by decide,by decide⟩;have q:0<=y/26:=RT hy (by decide);have E:=sM f.1 f.2;have m:=zA f.1 f.2;have F:=uH (a:=l) (b:=[97+(y % 26).toNat]) (by rw[Qm];omega);generalize 97+(y % 26).toNat=c at E m F;refine⟨_,rfl,?_⟩;walk_at "go";exact⟨y/26,l++[c],_,rfl,by rw[OZ,hl];rfl,sU hL m,q⟩
  .rintro ρ ⟨y,l,j,rfl,hl,hL,hy⟩;rw[fA,PZ] at hl;exact cL (ae rfl) rfl ⟨l,hL,by omega,by omega,rfl⟩)
 exact⟨l,h1,B,A,e⟩
structure Xz (i:Nat) (ks:List Int):Prop where
 pw:ks.Pairwise (·<·)
 lo:∀k∈ks,0<=k/\k<i
theorem Xz.nil:Xz 0 []:=⟨V5,fun k h=>by cases h⟩
theorem Xz.same {i:Nat} {ks:List Int} (h:Xz i ks):Xz (i+1) ks:=⟨h.pw,fun k a=>by have:=h.lo k a;omega⟩
theorem Xz.snoc {i:Nat} {ks:List Int} (h:Xz i ks):Xz (i+1) (ks++[(i:Int)]):=by
 refine⟨Qg.mpr ⟨h.pw,WK _ _,fun a ha b d=> ?_⟩,fun k c=> ?_⟩
 .rw[Pk.mp d];exact(h.lo a ha).2
 .rcases Pw.mp c with z|z
  .have:=h.lo k z;omega
  .rw[Pk.mp z];omega
theorem Fx:∀{ks:List Int} {a b:Int},ks.Pairwise (·<·)->(∀k∈ks,a<=k/\k<b)->a<=b->(ks.length:Int)<=b - a
 |[],a,b,_,_,h=>by rw[Q0];omega
 |k::r,a,b,hp,hk,h=>by obtain⟨h1,d⟩:=Rt.mp hp;have e:=hk k Pr;have:=Fx (a:=k+1) (b:=b) d (fun x c=>⟨by have:=h1 x c;omega,(hk x (Pl _ c)).2⟩) (by omega);rw[Pf];omega
theorem Xz.len {i:Nat} {ks:List Int} (h:Xz i ks):ks.length<=i:=by have:=Fx h.pw h.lo (by omega);omega
theorem Xz.st {ks:List Int} (h:Xz 12 ks) (b:1<=ks.length):Cd ks=Pb:=by
 unfold Cd;rw[decide_eq_true (by omega),(wE ks).mpr h.pw,Qk.mpr fun k a=> ?_]
 .rfl
 .have:=h.lo k a;unfold OA;rw[decide_eq_true this.1,decide_eq_true (show k<12 by omega)];rfl
theorem MW (m:Int):kW (.int (m % 2)) (.int 1)=lD (.fz (.bool (decide (m % 2=1)))):=iQ _ _
theorem tw {x:Int} (t:0<=x) (w:x<4095):∃ks:List Int,Cd ks=Pb/\ks.length<=12/\dr [.int x]= .ok (.fz (kD ks)):=by
 have l:dZ [.int 12]=lD (qO (P9 12)):=jR (n:=12) (by decide) (by decide);obtain⟨rv,e,ks,h1,j,rfl⟩:=g7 (ds:=[.int x]) (ρ:=[lD (.fz (.int x)),Ld,Ld,Ld]) (n:=4) (g:=cM) (T:=fun v=>∃ks:List Int,Cd ks=Pb/\ks.length<=12/\v= .fz (kD ks)) rfl (by
  unfold cM;walk_at "go"
  exists eU (fun i ρ=>∃(m:Int) (ks:List Int) (a:Option PV),ρ=[lD (.fz (.int x)),lD (.fz (.int m)),lD (.ow (ks.map .int)),a]/\Xz i ks/\0<=m/\m<2^(12 - i)/\(1<=ks.length\/1<=m))
  .walk_at "ev"
  .exact⟨1+x,[],Ld,rfl,.nil,by omega,by show 1+x<4096;omega,.inr (by omega)⟩
  .rintro i d ρ hi ⟨m,ks,a,rfl,hU,h0,hm,SR⟩
   obtain⟨k,h,rfl⟩:=eK hi;obtain⟨f,e⟩:=O0.mp h;rw[RN] at e;subst e;rw[PZ] at f;have r:bC (.int m) (.int 2)=lD (.fz (.int (m % 2))):=bK (by decide);have o:cG (.int m) (.int 2)=lD (.fz (.int (m/2))):=cS ⟨by decide,by decide⟩;have u:=MW m;have c:(2:Int)^(12 - i)=2*2^(12 - (i+1)):=by rw[show 12 - i=(12 - (i+1))+1 by omega,Int.pow_succ,Int.mul_comm]
   rw[c] at hm;generalize (2:Int)^(12 - (i+1))=p at hm;have b:(ks.map O9.int).length<1000000:=by rw[OX];have:=hU.len;omega
   refine⟨_,rfl,?_⟩;walk_at "go"
   .intro q;have q:=of_decide_eq_true q;walk_at "go";exact⟨m/2,ks++[(i:Int)],_,by rw[PB];rfl,hU.snoc,by omega,by omega,.inl (by rw[OZ,Qm];omega)⟩
   .intro q;have q:=of_decide_eq_false q;refine dB ?_;walk_at "go";exact⟨m/2,ks,_,rfl,hU.same,by omega,by omega,SR.imp id fun z=>by omega⟩
  .rintro ρ ⟨m,ks,a,rfl,hU,h0,hm,SR⟩;rw[fA,PZ] at hm hU;have hm:m<1:=hm;exact cL (pv:= .fz (kD ks)) (cX (rv:= .fz (kD ks)) (aj (eO rfl) aC) rfl rfl) rfl ⟨ks,hU.st (by omega),hU.len,rfl⟩)
 exact⟨ks,h1,j,e⟩
theorem BO {c:Int} (L:0<=c) (w:Bool):∃ks:List Int,Cd ks=Pb/\ks.length<=12/\cU [.int c,.bool w]= .ok (.fz (kD ks)):=by
 have G:dZ [.int 12]=lD (qO (P9 12)):=jR (n:=12) (by decide) (by decide);have K:cG (.int c) (.int 4)=lD (.fz (.int (c/4))):=cS ⟨by decide,by decide⟩;have H:bC (.int c) (.int 4)=lD (.fz (.int (c % 4))):=bK (by decide);have t:0<=c % 4/\c % 4<4:=⟨P0 _ (by decide),P6 _ (by decide)⟩;obtain⟨f,A,z,B⟩:∃ks:List Int,Cd ks=Pb/\ks.length<=12/\dR (.list [kD [0],kD [1],kD [0,1],kD [2,11]]) (.int (c % 4))=lD (.fz (kD ks)):=by
  generalize c % 4=j at t;obtain⟨n,rfl⟩:∃n:Nat,j=(n:Int):=⟨j.toNat,by omega⟩
  match n,t with
  |0,_=>exact⟨[0],rfl,by decide,FZ (i:=0) rfl⟩
  |1,_=>exact⟨[1],rfl,by decide,FZ (i:=1) rfl⟩
  |2,_=>exact⟨[0,1],rfl,by decide,FZ (i:=2) rfl⟩
  |3,_=>exact⟨[2,11],rfl,by decide,FZ (i:=3) rfl⟩
  |n+4,h=>omega
 have a:∀(p o l:Option PV),Go (dc (aH dR (aa 2) (aH bC (aa 0) (pC (.int 4)))) [lD (.fz (.int c)),lD (.fz (.bool w)),lD (.ow [kD [0],kD [1],kD [0,1],kD [2,11]]),p,o,l]) (fun _=>∃ks:List Int,Cd ks=Pb/\ks.length<=12/\RV.fz O9.none= .fz (kD ks)) (fun _=>False) (fun v=>∃ks:List Int,Cd ks=Pb/\ks.length<=12/\v= .fz (kD ks)):=fun p o l=>
  cL (pv:= .fz (kD f)) (bf (rv:= .fz (kD f)) (eO rfl) (by walk_at "ev") rfl rfl B) rfl ⟨f,A,z,rfl⟩
 obtain⟨rv,e,ks,h1,F,rfl⟩:=g7 (ds:=[.int c,.bool w]) (ρ:=[lD (.fz (.int c)),lD (.fz (.bool w)),Ld,Ld,Ld,Ld]) (n:=6) (g:=fD) (T:=fun v=>∃ks:List Int,Cd ks=Pb/\ks.length<=12/\v= .fz (kD ks)) rfl (by
  unfold fD;refine a5 (pv:= .ow [kD [0],kD [1],kD [0,1],kD [2,11]]) (ρ3:=[lD (.fz (.int c)),lD (.fz (.bool w)),lD (.ow [kD [0],kD [1],kD [0,1],kD [2,11]]),Ld,Ld,Ld]) (by walk_at "ev") rfl rfl ?_;refine kw (bu (ae rfl) rfl) (fun _=> ?_) fun _=>dB (a _ _ _);walk_at "go"
  exists eU (fun i ρ=>∃(m:Int) (ks:List Int) (l:Option PV),ρ=[lD (.fz (.int c)),lD (.fz (.bool w)),lD (.ow [kD [0],kD [1],kD [0,1],kD [2,11]]),lD (.fz (.int m)),lD (.ow (ks.map .int)),l]/\Xz i ks)
  .walk_at "ev"
  .exact⟨c/4,[],Ld,rfl,.nil⟩
  .rintro i d ρ hi ⟨m,ks,l,rfl,hU⟩
   obtain⟨k,E,rfl⟩:=eK hi;obtain⟨C,e⟩:=O0.mp E;rw[RN] at e;subst e;rw[PZ] at C;have J:bC (.int m) (.int 2)=lD (.fz (.int (m % 2))):=bK (by decide);have I:cG (.int m) (.int 2)=lD (.fz (.int (m/2))):=cS ⟨by decide,by decide⟩;have M:=MW m;have r:(ks.map O9.int).length<1000000:=by rw[OX];have:=hU.len;omega
   refine⟨_,rfl,?_⟩;walk_at "go"
   .intro _;walk_at "go";exact⟨m/2,ks++[(i:Int)],_,by rw[PB];rfl,hU.snoc⟩
   .intro _;refine dB ?_;walk_at "go";exact⟨m/2,ks,_,rfl,hU.same⟩
  .rintro ρ ⟨m,ks,l,rfl,hU⟩
   rw[fA,PZ] at hU;have u:fu [.list (ks.map O9.int)]=lD (.fz (.int (ks.length:Int))):=by show lD (RV.fz (.int ((ks.map O9.int).length:Int)))=_;rw[OX]
   refine kw (b:=decide ((ks.length:Int)>0)) (bu (df (dx:= .int (ks.length:Int)) (dy:= .int 0) (cX (rv:= .fz (.int (ks.length:Int))) (aj (eO rfl) aC) rfl u) bI rfl rfl (DB _ _)) rfl) (fun q=> ?_) fun _=>dB (a _ _ _);have q:=of_decide_eq_true q;exact pV (pv:= .fz (kD ks)) (cX (rv:= .fz (kD ks)) (aj (eO rfl) aC) rfl rfl) rfl ⟨ks,hU.st (by omega),hU.len,rfl⟩)
 exact⟨ks,h1,F,e⟩
structure GE (e:Wd):Prop where
 wd:Eh e.1
 w1:1<=e.1.length
 w8:e.1.length<=8
 s1:1<=e.2.length
 s6:e.2.length<=6
 st:∀ks∈e.2,Cd ks=Pb/\ks.length<=12
structure Bk (B:List Wd):Prop where
 l1:1<=B.length
 Xg:B.length<=20
 ge:∀e∈B,GE e
 nd:(B.map (·.1)).Nodup
theorem Gn {α:Type} {l:List α} {a:α} (h:l.Nodup) (ha:a∉l):(l++[a]).Nodup:=SW.mpr ⟨h,Qr.mpr ⟨S7,Sj⟩,fun x c y b z=>by rw[Pk.mp b] at z;subst z;exact ha c⟩
abbrev eW (l:List Nat):D:= .str (tx l)
theorem Oe {s o p:Nat} {a b:Nat} (h:Pe a s++[o]++Pe b s=Pe a s++[p]++Pe b s):o=p:=by rw[PR,PR] at h;have:=Uc h;exact(Sm this).1
theorem CQ {c:Int} (Z:0<=c) {m:Nat} (hm:m<=20):∃N:List (List Nat),N.length=m/\N.Nodup/\(∀l∈N,Eh l/\1<=l.length/\l.length<=8)/\eL [.int c,nd m]= .ok (.ow (N.map eW)):=by
 have f:0<=c/3 % 26/\c/3 % 26<26:=⟨P0 _ (by decide),P6 _ (by decide)⟩;have d3:cG (.int c) (.int 3)=lD (.fz (.int (c/3))):=cS ⟨by decide,by decide⟩;have I:bC (.int (c/3)) (.int 26)=lD (.fz (.int (c/3 % 26))):=bK (by decide);have K:=sM f.1 f.2;have rp:=Hu f.1 f.2;generalize c/3 % 26=j at f I K rp;generalize 97+j.toNat=s at K rp;have m3:bC (.int c) (.int 3)=lD (.fz (.int (c % 3))):=bK (by decide);have e3:kW (.int (c % 3)) (.int 0)=lD (.fz (.bool (decide (c % 3=0)))):=iQ _ _;have O:=tI (n:=m) (by omega);have d78:cG (.int c) (.int 78)=lD (.fz (.int (c/78))):=cS ⟨by decide,by decide⟩;have Y:bC (.int (c/78)) (.int 8)=lD (.fz (.int (c/78 % 8))):=bK (by decide);have b8:0<=c/78 % 8/\c/78 % 8<8:=⟨P0 _ (by decide),P6 _ (by decide)⟩;generalize c/78 % 8=sz at Y b8;have agB:cG (.int c) (.int 624)=lD (.fz (.int (c/624))):=cS ⟨by decide,by decide⟩;have H:bC (.int (c/624)) (.int (sz+1))=lD (.fz (.int (c/624 % (sz+1)))):=bK (by omega);have E:0<=c/624 % (sz+1)/\c/624 % (sz+1)<sz+1:=⟨P0 _ (by omega),P6 _ (by omega)⟩;generalize c/624 % (sz+1)=a at H E;have B:cG (.int c) (.int 5616)=lD (.fz (.int (c/5616))):=cS ⟨by decide,by decide⟩;have G:0<=c/5616:=RT Z (by decide);generalize c/5616=dd at B G;have w:=uW (c:=s) E.1 (show a<=1000 by omega);have u:=uW (c:=s) (show 0<=sz - a by omega) (show sz - a<=1000 by omega);obtain⟨rv,e,N,h1,h2,h3,rfl⟩:=g7 (ds:=[.int c,nd m]) (ρ:=[lD (.fz (.int c)),lD (.fz (nd m)),Ld,Ld,Ld,Ld,Ld,Ld,Ld]) (n:=9) (g:=fX) (T:=fun v=>∃N:List (List Nat),N.length=m/\N.Nodup/\(∀l∈N,Eh l/\1<=l.length/\l.length<=8)/\v= .ow (N.map eW)) rfl (by
  unfold fX;refine a5 (pv:= .fz (.str "abcdefghijklmnopqrstuvwxyz")) (ρ3:=[lD (.fz (.int c)),lD (.fz (nd m)),lD (.fz (.str "abcdefghijklmnopqrstuvwxyz")),Ld,Ld,Ld,Ld,Ld,Ld]) bI rfl rfl ?_;refine a5 (pv:= .fz (eW [s])) (ρ3:=[lD (.fz (.int c)),lD (.fz (nd m)),lD (.fz (.str "abcdefghijklmnopqrstuvwxyz")),lD (.fz (eW [s])),Ld,Ld,Ld,Ld,Ld]) (bf (rv:= .fz (eW [s])) (ae rfl) (by walk_at "ev") rfl rfl K) rfl rfl ?_;refine kw (b:=decide (c % 3=0)&&decide ((m:Int)<9)) (by walk_at "ev") (fun q=> ?_) fun _=>dB ?_
  .rw[PN,decide_eq_true_iff,decide_eq_true_iff] at q
   have J:mF (dX (gN 0) e8 (aH L9.xG (aa 1) (aH bZ (aa 0) (pC (.int 1)))) ((P9 m).map nd) [Ld,lD (.fz (eW [s]))] [])= .ok ((P9 m).map fun k=>eW (Pe (k+1) s)):=by refine Ai (P9 m) (by rw[PZ];omega) rfl fun k p=> ?_;have p:=Q9.mp p;have F:=uW (c:=s) (i:=(k:Int)+1) (by omega) (by omega);rw[show((k:Int)+1).toNat=k+1 by omega] at F;exact bf (rv:= .fz (eW (Pe (k+1) s))) (ae rfl) (bf (rv:= .fz (.int ((k:Int)+1))) (ae rfl) bI rfl rfl (uS _ _)) rfl rfl F
   refine pV (lI (xs:=(P9 m).map fun k=>eW (Pe (k+1) s)) (lS (ds:=[nd m]) (aj (ae rfl) aC) rfl O) rfl J) rfl ⟨(P9 m).map fun k=>Pe (k+1) s,by rw[OX,PZ],?_,fun l A=> ?_,by rw[Qf];rfl⟩
   .refine V8.mpr (SX.mpr (Y9.imp fun{x y} M z=>M ?_));have:=congrArg QY z;rw[Px,Px] at this;omega
   .obtain⟨k,p,rfl⟩:=Pn.mp A;have p:=Q9.mp p;rw[Px];exact⟨rp _,by omega,by omega⟩
  .refine a5 (pv:= .fz (.int sz)) (ρ3:=[lD (.fz (.int c)),lD (.fz (nd m)),lD (.fz (.str "abcdefghijklmnopqrstuvwxyz")),lD (.fz (eW [s])),lD (.fz (.int sz)),Ld,Ld,Ld,Ld]) (by walk_at "evp") rfl rfl ?_
   refine a5 (pv:= .fz (.int a)) (ρ3:=[lD (.fz (.int c)),lD (.fz (nd m)),lD (.fz (.str "abcdefghijklmnopqrstuvwxyz")),lD (.fz (eW [s])),lD (.fz (.int sz)),lD (.fz (.int a)),Ld,Ld,Ld]) (by walk_at "evp") rfl rfl ?_;refine a5 (pv:= .ow []) (ρ3:=[lD (.fz (.int c)),lD (.fz (nd m)),lD (.fz (.str "abcdefghijklmnopqrstuvwxyz")),lD (.fz (eW [s])),lD (.fz (.int sz)),lD (.fz (.int a)),lD (.ow []),Ld,Ld]) (by walk_at "evp") rfl rfl ?_;refine eU (fun i ρ=>∃(t r:Option PV),ρ=[lD (.fz (.int c)),lD (.fz (nd m)),lD (.fz (.str "abcdefghijklmnopqrstuvwxyz")),lD (.fz (eW [s])),lD (.fz (.int sz)),lD (.fz (.int a)),lD (.ow (((P9 i).map fun k:Nat=>Pe a.toNat s++[97+(((k:Int)*7+dd) % 26).toNat]++Pe (sz - a).toNat s).map eW)),t,r]) (ds:=qO (P9 m)) (ρ1:=[lD (.fz (.int c)),lD (.fz (nd m)),lD (.fz (.str "abcdefghijklmnopqrstuvwxyz")),lD (.fz (eW [s])),lD (.fz (.int sz)),lD (.fz (.int a)),lD (.ow []),Ld,Ld]) (lS (ds:=[nd m]) (aj (ae rfl) aC) rfl O) ⟨Ld,Ld,rfl⟩ ?_ ?_
   .rintro i d ρ hi ⟨t,r,rfl⟩
    obtain⟨k,p,rfl⟩:=eK hi;obtain⟨A,e⟩:=O0.mp p;rw[RN] at e;subst e;rw[PZ] at A;have C:0<=((i:Int)*7+dd) % 26/\((i:Int)*7+dd) % 26<26:=⟨P0 _ (by decide),P6 _ (by decide)⟩;have F:fO (nd i) (.int 7)=lD (.fz (.int ((i:Int)*7))):=xa ⟨by decide,by decide⟩;have X:bC (.int ((i:Int)*7+dd)) (.int 26)=lD (.fz (.int (((i:Int)*7+dd) % 26))):=bK (by decide);have S:=sM C.1 C.2;rw[List.range_succ,PB,PB];show∃ρ1,_/\Go _ (fun ρ=>∃(t r:Option PV),ρ=[_,_,_,_,_,_,lD (.ow (_++[eW (Pe a.toNat s++[97+(((i:Int)*7+dd) % 26).toNat]++Pe (sz - a).toNat s)])),t,r]) _ _;have h:(((P9 i).map fun k:Nat=>Pe a.toNat s++[97+(((k:Int)*7+dd) % 26).toNat]++Pe (sz - a).toNat s).map eW).length<1000000:=by rw[OX,OX,PZ];omega
    generalize ((P9 i).map fun k:Nat=>Pe a.toNat s++[97+(((k:Int)*7+dd) % 26).toNat]++Pe (sz - a).toNat s).map eW=pre at h;generalize 97+(((i:Int)*7+dd) % 26).toNat=o at S;have U:=uH (a:=Pe a.toNat s) (b:=[o]) (by rw[Px,Qm];omega);have L:=uH (a:=Pe a.toNat s++[o]) (b:=Pe (sz - a).toNat s) (by rw[OZ,Px,Px,Qm];omega);generalize Pe a.toNat s=ra at w U L;generalize Pe (sz - a).toNat s=rb at u L;refine⟨_,rfl,?_⟩;refine a5 (pv:= .fz (eW [o])) (ρ3:=[lD (.fz (.int c)),lD (.fz (nd m)),lD (.fz (.str "abcdefghijklmnopqrstuvwxyz")),lD (.fz (eW [s])),lD (.fz (.int sz)),lD (.fz (.int a)),lD (.ow pre),lD (.fz (nd i)),lD (.fz (eW [o]))]) (bf (rv:= .fz (eW [o])) (ae rfl) (bf (rv:= .fz (.int (((i:Int)*7+dd) % 26))) (bf (rv:= .fz (.int ((i:Int)*7+dd))) (bf (rv:= .fz (.int ((i:Int)*7))) (ae rfl) bI rfl rfl F) (bf (rv:= .fz (.int dd)) (ae rfl) bI rfl rfl B) rfl rfl (uS _ _)) bI rfl rfl X) rfl rfl S) rfl rfl ?_;exact fZ (hV (d:=eW (ra++[o]++rb)) (x:=[lD (.fz (.int c)),lD (.fz (nd m)),lD (.fz (.str "abcdefghijklmnopqrstuvwxyz")),lD (.fz (eW [s])),lD (.fz (.int sz)),lD (.fz (.int a)),lD (.ow (pre++[eW (ra++[o]++rb)])),lD (.fz (nd i)),lD (.fz (eW [o]))]) rfl (bf (rv:= .fz (eW (ra++[o]++rb))) (bf (rv:= .fz (eW (ra++[o]))) (bf (rv:= .fz (eW ra)) (ae rfl) (ae rfl) rfl rfl w) (ae rfl) rfl rfl U) (bf (rv:= .fz (eW rb)) (ae rfl) (by walk_at "ev") rfl rfl u) rfl rfl L) rfl rfl h rfl) ⟨_,_,rfl⟩
   .rintro ρ ⟨t,r,rfl⟩
    rw[fA,PZ];refine cL (eO rfl) rfl ⟨(P9 m).map fun k:Nat=>Pe a.toNat s++[97+(((k:Int)*7+dd) % 26).toNat]++Pe (sz - a).toNat s,by rw[OX,PZ],?_,fun l A=> ?_,rfl⟩
    .refine V8.mpr (SX.mpr ?_);refine abD ?_ (Y9 (n:=m));intro x y Q P M z;have Q:=Q9.mp Q;have P:=Q9.mp P;have:=Oe z;apply M;omega
    .obtain⟨k,p,rfl⟩:=Pn.mp A;have C:0<=((k:Int)*7+dd) % 26/\((k:Int)*7+dd) % 26<26:=⟨P0 _ (by decide),P6 _ (by decide)⟩;refine⟨sU (sU (rp _) (zA C.1 C.2)) (rp _),?_,?_⟩<;>rw[OZ,OZ,Px,Px,Qm]<;>omega)
 exact⟨N,h1,h2,h3,e⟩
theorem tJ {xs:List Int} {i:Int} (h0:0<=i) (h:i.toNat<xs.length):dR (.list (xs.map .int)) (.int i)=lD (.fz (.int xs[i.toNat])):=Od h0 (by rw[Pg,Pq h];rfl)
theorem uX (xs:List Int) (L:xs.length=41) (K:∀x∈xs,0<=x):∃B,Bk B/\dC [.list (xs.map .int)]= .ok (.fz (aF B)):=by
 have e0:dR (.list (xs.map .int)) (.int 0)=lD (.fz (.int xs[0])):=tJ (i:=0) (by decide) (by rw[L];decide);have J:0<=xs[0]:=K _ (Q4 _);generalize xs[0]=x0 at e0 J;have m1:bC (.int x0) (.int 20)=lD (.fz (.int (x0 % 20))):=bK (by decide);have b1:0<=x0 % 20/\x0 % 20<20:=⟨P0 _ (by decide),P6 _ (by decide)⟩;generalize x0 % 20=xm at m1 b1;have r1:dZ [.int (1+xm)]=lD (qO (P9 (1+xm).toNat)):=jR (by omega) (by omega);obtain⟨rv,e,B,hB,rfl⟩:=g7 (ds:=[.list (xs.map .int)]) (ρ:=[lD (.fz (.list (xs.map .int))),Ld,Ld,Ld,Ld,Ld,Ld]) (n:=7) (g:=dw) (T:=fun v=>∃B,Bk B/\v= .fz (aF B)) rfl (by
  unfold dw;refine a5 (pv:= .ow []) (ρ3:=[lD (.fz (.list (xs.map .int))),lD (.ow []),Ld,Ld,Ld,Ld,Ld]) (by walk_at "evp") rfl rfl ?_;refine eU (fun i ρ=>∃(B:List Wd) (E C A t a:Option PV),ρ=[lD (.fz (.list (xs.map .int))),lD (.ow (B.map wD)),E,C,A,t,a]/\B.length<=i/\(1<=i->1<=B.length)/\(∀e∈B,GE e)/\(B.map (·.1)).Nodup) (ds:=qO (P9 (1+xm).toNat)) (ρ1:=[lD (.fz (.list (xs.map .int))),lD (.ow []),Ld,Ld,Ld,Ld,Ld]) (by walk_at "ev") ⟨[],Ld,Ld,Ld,Ld,Ld,rfl,O8 _,(fun h=>absurd h (by decide)),(fun e h=>by cases h),Sj⟩ ?_ ?_
  .rintro i d ρ hi ⟨B,E,C,A,t,a,rfl,hBl,hB1,hG,hN⟩
   obtain⟨k,M,rfl⟩:=eK hi;obtain⟨N,e⟩:=O0.mp M;rw[RN] at e;subst e;rw[PZ] at N;have mu:fO (.int 2) (nd i)=lD (.fz (.int (2*(i:Int)))):=gs ⟨by decide,by decide⟩;have I:=tJ (xs:=xs) (i:=1+2*(i:Int)) (by omega) (by omega);have u:0<=xs[(1+2*(i:Int)).toNat]:=K _ (Q4 _);generalize xs[(1+2*(i:Int)).toNat]=y1 at I u;obtain⟨w,U,w1,Z,en⟩:=xO u;have H:=tJ (xs:=xs) (i:=2+2*(i:Int)) (by omega) (by omega);have Y:0<=xs[(2+2*(i:Int)).toNat]:=K _ (Q4 _);generalize xs[(2+2*(i:Int)).toNat]=y2 at H Y;have d6:cG (.int y2) (.int 6)=lD (.fz (.int (y2/6))):=cS ⟨by decide,by decide⟩;have m6:bC (.int y2) (.int 6)=lD (.fz (.int (y2 % 6))):=bK (by decide);have b6:0<=y2 % 6/\y2 % 6<6:=⟨P0 _ (by decide),P6 _ (by decide)⟩;have S:0<=y2/6:=RT Y (by decide);generalize y2/6=z6 at d6 S;generalize y2 % 6=zm at m6 b6;have r6:dZ [.int (1+zm)]=lD (qO (P9 (1+zm).toNat)):=jR (by omega) (by omega);refine⟨_,rfl,?_⟩;refine a5 (pv:= .fz (eW w)) (ρ3:=[lD (.fz (.list (xs.map .int))),lD (.ow (B.map wD)),lD (.fz (nd i)),lD (.fz (eW w)),A,t,a]) (cH (rv:= .fz (eW w)) (by walk_at "ev") rfl rfl en) rfl rfl ?_;refine a5 (pv:= .ow []) (ρ3:=[lD (.fz (.list (xs.map .int))),lD (.ow (B.map wD)),lD (.fz (nd i)),lD (.fz (eW w)),lD (.ow []),t,a]) (by walk_at "evp") rfl rfl ?_;refine a5 (pv:= .fz (.int z6)) (ρ3:=[lD (.fz (.list (xs.map .int))),lD (.ow (B.map wD)),lD (.fz (nd i)),lD (.fz (eW w)),lD (.ow []),lD (.fz (.int z6)),a]) (by walk_at "evp") rfl rfl ?_;refine eU (fun j ρ=>∃(ss:List (List Int)) (r:Int) (a:Option PV),ρ=[lD (.fz (.list (xs.map .int))),lD (.ow (B.map wD)),lD (.fz (nd i)),lD (.fz (eW w)),lD (.ow (ss.map kD)),lD (.fz (.int r)),a]/\ss.length=j/\0<=r/\∀m∈ss,Cd m=Pb/\m.length<=12) (ds:=qO (P9 (1+zm).toNat)) (ρ1:=[lD (.fz (.list (xs.map .int))),lD (.ow (B.map wD)),lD (.fz (nd i)),lD (.fz (eW w)),lD (.ow []),lD (.fz (.int z6)),a]) (by walk_at "ev") ⟨[],z6,a,rfl,rfl,S,fun m h=>by cases h⟩ ?_ ?_
   .rintro j d ρ hj ⟨ss,r,a,rfl,Yi,hr,Wq⟩
    obtain⟨k,M,rfl⟩:=eK hj;have hjl:j<(1+zm).toNat:=by have:=(O0.mp M).1;simpa using this
    have X:0<=r % 4095/\r % 4095<4095:=⟨P0 _ (by decide),P6 _ (by decide)⟩;have m4:bC (.int r) (.int 4095)=lD (.fz (.int (r % 4095))):=bK (by decide);have d4:cG (.int r) (.int 4095)=lD (.fz (.int (r/4095))):=cS ⟨by decide,by decide⟩;have n4:0<=r/4095:=RT hr (by decide);obtain⟨m,k1,k2,ek⟩:=tw X.1 X.2;have f:(ss.map kD).length<1000000:=by rw[OX];omega
    refine⟨_,rfl,?_⟩;refine uP (hV (d:=kD m) (x:=[lD (.fz (.list (xs.map .int))),lD (.ow (B.map wD)),lD (.fz (nd i)),lD (.fz (eW w)),lD (.ow (ss.map kD++[kD m])),lD (.fz (.int r)),lD (.fz (nd k))]) rfl (cH (rv:= .fz (kD m)) (by walk_at "ev") rfl rfl ek) rfl rfl f rfl) ?_;refine yQ (pv:= .fz (.int (r/4095))) (ρ3:=[lD (.fz (.list (xs.map .int))),lD (.ow (B.map wD)),lD (.fz (nd i)),lD (.fz (eW w)),lD (.ow (ss.map kD++[kD m])),lD (.fz (.int (r/4095))),lD (.fz (nd k))]) (by walk_at "evp") rfl rfl ⟨ss++[m],r/4095,_,by rw[PB];rfl,by rw[OZ,Yi];rfl,n4,fun G Vt=> ?_⟩;rcases Pw.mp Vt with z|z
    .exact Wq G z
    .rw[Pk.mp z];exact⟨k1,k2⟩
   .rintro ρ ⟨ss,r,a,rfl,Yi,hr,Wq⟩
    rw[fA,PZ] at Yi;have Zk:∀l∈B.map (·.1),∀c∈l,c<1114112:=fun l L c P=>by obtain⟨e,O,rfl⟩:=Pn.mp L;have:=(hG e O).wd c P;omega
    have F:=HF (w:=w) (fun c P=>by have:=U c P;omega) Zk;have Q:mF (dX (gT 2 (l8 (gN 0) (l8 (gN 1) yf))) e8 (aa 0) (B.map wD) [Ld,Ld] [])= .ok ((B.map (·.1)).map fun l=>O9.str (tx l)):=by rw[Qf];refine n5 (fun ρ=>∃o p,ρ=[o,p]) B (by omega) ⟨Ld,Ld,rfl⟩ ?_;rintro e _ ρ ⟨o,p,rfl⟩;exact⟨_,GB rfl rfl (ae rfl) rfl rfl,_,_,rfl⟩
    have f:(B.map wD).length<1000000:=by rw[OX];omega
    refine nv (b:= !decide (w∈B.map (·.1))) (bu (df (dx:= .str (tx w)) (dy:= .list ((B.map (·.1)).map fun l=>O9.str (tx l))) (ae rfl) (lI (ds:=B.map wD) rfl rfl Q) rfl rfl F) rfl) (fun q=> ?_) fun q=> ?_
    .have q:w∉B.map (·.1):=by simpa using q
     refine fZ (hV (d:=wD (w,ss)) (x:=[lD (.fz (.list (xs.map .int))),lD (.ow (B.map wD++[wD (w,ss)])),lD (.fz (nd i)),lD (.fz (eW w)),lD (.ow (ss.map kD)),lD (.fz (.int r)),a]) rfl (dU (ds:=[eW w,.tuple (ss.map kD)]) (aj (ae rfl) (aj (cX (rv:= .fz (.tuple (ss.map kD))) (aj (eO rfl) aC) rfl rfl) aC)) rfl (P4 rfl)) rfl rfl f rfl) ⟨B++[(w,ss)],_,_,_,_,_,by rw[PB];rfl,by rw[OZ,Qm];omega,fun _=>by rw[OZ,Qm];omega,fun e O=> ?_,?_⟩
     .rcases Pw.mp O with z|z
      .exact hG e z
      .rw[Pk.mp z];exact⟨U,w1,Z,by show 1<=ss.length;omega,by show ss.length<=6;omega,Wq⟩
     .rw[PB];exact Gn hN q
    .refine jh ⟨B,_,_,_,_,_,rfl,by omega,fun _=> ?_,hG,hN⟩
     have q:w∈B.map (·.1):=by simpa using q
     have:=WX q;rw[OX] at this;exact this
  .rintro ρ ⟨B,E,C,A,t,a,rfl,hBl,hB1,hG,hN⟩;rw[fA,PZ] at hBl hB1;exact cL (pv:= .fz (aF B)) (cX (rv:= .fz (aF B)) (aj (eO rfl) aC) rfl rfl) rfl ⟨B,⟨hB1 (by omega),by omega,hG,hN⟩,rfl⟩)
 exact⟨B,hB,e⟩
theorem MS {c:Int} (a:0<=c) {s:Int} (h0:0<=s) (b:s<4):∃x:Int,0<=x/\dR (.list [.int (c % 2),.int c,.int c,.int c]) (.int s)=lD (.fz (.int x)):=by
 obtain⟨n,rfl⟩:∃n:Nat,s=(n:Int):=⟨s.toNat,by omega⟩
 match n,b with
 |0,_=>exact⟨c % 2,P0 _ (by decide),FZ (i:=0) rfl⟩
 |1,_=>exact⟨c,a,FZ (i:=1) rfl⟩
 |2,_=>exact⟨c,a,FZ (i:=2) rfl⟩
 |3,_=>exact⟨c,a,FZ (i:=3) rfl⟩
 |n+4,h=>omega
abbrev OL:FS:=(aE (aZ (cr eL 2 (af (cr bL 2 (af (cr cz 2 (af (aa 0) (af (aH bZ (aa 1) (pC (.int 1))) au))) (af (pC (.int 2)) au))) (af (aa 4) au))) (gN 6))
 (aE (aZ (eX au) (gN 7))
 (aE (fM (g8 dZ (af (aa 4) au)) (gN 8) (aE (aZ (cr bL 2 (af (cr cz 2 (af (aa 0) (af (aH bZ (aH bZ (aa 1) (pC (.int 2))) (aH bC (aa 8) (pC (.int 6)))) au))) (af (aH bZ (pC (.int 3)) (aa 8)) au))) (gN 9))
 (aE (aZ (eX au) (gN 10))
 (aE (fM (g8 dZ (af (aH bZ (pC (.int 1)) (aH bC (aa 9) (aa 5))) au)) (gN 11) (aE (aZ (aH cG (aa 9) (pC (.int 4))) (gN 9))
 (dE (iE 10 (cr cU 2 (af (aH dR (eX (af (aH bC (aa 9) (pC (.int 2))) (af (aa 9) (af (aa 9) (af (aa 9) au))))) (aa 3)) (af (aH kW (aa 3) (pC (.int 1))) au)))))))
 (dE (iE 7 (bV (af (aH dR (aa 6) (aa 8)) (af (jn lA (af (aa 10) au)) au)))))))))
 (dc (jn lA (af (aa 7) au))))))
theorem BL (A:List Int) (Z:A.length<=63) {a:Int} (ha:0<=a) {x2 f:Int} (P:0<=f) (O:f<4) {m:Nat} (hm1:1<=m) (hm:m<=20) {c:Int} (hmo:1<=c) (ahv:c<=6) {N C:aO->Prop}:
  Go (OL [lD (.fz (.list (A.map .int))),lD (.fz (.int a)),lD (.fz (.int x2)),lD (.fz (.int f)),lD (.fz (nd m)),lD (.fz (.int c)),Ld,Ld,Ld,Ld,Ld,Ld]) N C (fun v=>∃B,Bk B/\v= .fz (aF B)):=by
 obtain⟨c1,e1⟩:=tV A (a+1) (by omega) Z;obtain⟨v1,M,ev1⟩:=oG c1 2 (by decide) (by decide);obtain⟨b,n1,n2,n3,en⟩:=CQ M hm;have rm:=tI (n:=m) (by omega);have q1:kW (.int f) (.int 1)=lD (.fz (.bool (decide (f=1)))):=iQ _ _;generalize hLD:O9.list (A.map O9.int)=LD at*;refine a5 (pv:= .ow (b.map eW)) (ρ3:=[lD (.fz LD),lD (.fz (.int a)),lD (.fz (.int x2)),lD (.fz (.int f)),lD (.fz (nd m)),lD (.fz (.int c)),lD (.ow (b.map eW)),Ld,Ld,Ld,Ld,Ld]) (cH (rv:= .ow (b.map eW)) (by walk_at "ev") rfl rfl en) rfl rfl ?_;refine a5 (pv:= .ow []) (ρ3:=[lD (.fz LD),lD (.fz (.int a)),lD (.fz (.int x2)),lD (.fz (.int f)),lD (.fz (nd m)),lD (.fz (.int c)),lD (.ow (b.map eW)),lD (.ow []),Ld,Ld,Ld,Ld]) (by walk_at "evp") rfl rfl ?_;refine eU (fun i ρ=>∃(B:List Wd) (H G p g:Option PV),ρ=[lD (.fz LD),lD (.fz (.int a)),lD (.fz (.int x2)),lD (.fz (.int f)),lD (.fz (nd m)),lD (.fz (.int c)),lD (.ow (b.map eW)),lD (.ow (B.map wD)),H,G,p,g]/\B.map (·.1)=b.take i/\∀e∈B,GE e) (ds:=qO (P9 m)) (ρ1:=[lD (.fz LD),lD (.fz (.int a)),lD (.fz (.int x2)),lD (.fz (.int f)),lD (.fz (nd m)),lD (.fz (.int c)),lD (.ow (b.map eW)),lD (.ow []),Ld,Ld,Ld,Ld]) (lS (ds:=[nd m]) (aj (ae rfl) aC) rfl rm) ⟨[],Ld,Ld,Ld,Ld,rfl,rfl,fun e h=>by cases h⟩ ?_ ?_
 .rintro i d ρ hi ⟨B,H,G,p,g,rfl,t,hG⟩
  obtain⟨k,S,rfl⟩:=eK hi;obtain⟨T,e⟩:=O0.mp S;rw[RN] at e;subst e;rw[PZ] at T;have U:B.length=i:=by have:=congrArg QY t;rw[OX,Qj] at this;omega
  have m6:bC (nd i) (.int 6)=lD (.fz (.int ((i:Int) % 6))):=bK (by decide);have b6:0<=(i:Int) % 6:=P0 _ (by decide);obtain⟨c2,e2⟩:=tV A (a+2+(i:Int) % 6) (by omega) Z;rw[hLD] at e2;obtain⟨l,L,X⟩:=oG c2 (3+(i:Int)) (by omega) (by omega);have mm:bC (.int l) (.int c)=lD (.fz (.int (l % c))):=bK (by omega);have bm:0<=l % c/\l % c<c:=⟨P0 _ (by omega),P6 _ (by omega)⟩;generalize l % c=vm at mm bm;have r6:dZ [.int (1+vm)]=lD (qO (P9 (1+vm).toNat)):=jR (by omega) (by omega);have u:i<b.length:=by omega
  have E:dR (.list (b.map eW)) (nd i)=lD (.fz (eW b[i])):=FZ (by rw[Pg,Pq u];rfl);have F:=n3 _ (Q4 u);have Y:b.take (i+1)=b.take i++[b[i]]:=by rw[List.take_succ,Pq u];rfl
  generalize b[i]=w at E F Y;refine⟨_,rfl,?_⟩;refine a5 (pv:= .fz (.int l)) (ρ3:=[lD (.fz LD),lD (.fz (.int a)),lD (.fz (.int x2)),lD (.fz (.int f)),lD (.fz (nd m)),lD (.fz (.int c)),lD (.ow (b.map eW)),lD (.ow (B.map wD)),lD (.fz (nd i)),lD (.fz (.int l)),p,g]) (cH (rv:= .fz (.int l)) (by walk_at "ev") rfl rfl X) rfl rfl ?_;refine a5 (pv:= .ow []) (ρ3:=[lD (.fz LD),lD (.fz (.int a)),lD (.fz (.int x2)),lD (.fz (.int f)),lD (.fz (nd m)),lD (.fz (.int c)),lD (.ow (b.map eW)),lD (.ow (B.map wD)),lD (.fz (nd i)),lD (.fz (.int l)),lD (.ow []),g]) (by walk_at "evp") rfl rfl ?_;refine eU (fun j ρ=>∃(ss:List (List Int)) (r:Int) (g:Option PV),ρ=[lD (.fz LD),lD (.fz (.int a)),lD (.fz (.int x2)),lD (.fz (.int f)),lD (.fz (nd m)),lD (.fz (.int c)),lD (.ow (b.map eW)),lD (.ow (B.map wD)),lD (.fz (nd i)),lD (.fz (.int r)),lD (.ow (ss.map kD)),g]/\ss.length=j/\0<=r/\∀q∈ss,Cd q=Pb/\q.length<=12) (ds:=qO (P9 (1+vm).toNat)) (ρ1:=[lD (.fz LD),lD (.fz (.int a)),lD (.fz (.int x2)),lD (.fz (.int f)),lD (.fz (nd m)),lD (.fz (.int c)),lD (.ow (b.map eW)),lD (.ow (B.map wD)),lD (.fz (nd i)),lD (.fz (.int l)),lD (.ow []),g]) (by walk_at "ev") ⟨[],l,g,rfl,rfl,L,fun q h=>by cases h⟩ ?_ ?_
  .rintro j d ρ hj ⟨ss,r,g,rfl,Yi,hr,Wq⟩
   obtain⟨k,S,rfl⟩:=eK hj;have hjl:j<(1+vm).toNat:=by have:=(O0.mp S).1;simpa using this
   have d4:cG (.int r) (.int 4)=lD (.fz (.int (r/4))):=cS ⟨by decide,by decide⟩;have I:0<=r/4:=RT hr (by decide);generalize r/4=r4 at d4 I;have m2:bC (.int r4) (.int 2)=lD (.fz (.int (r4 % 2))):=bK (by decide);obtain⟨px,Q,K⟩:=MS I P O;obtain⟨q,k1,k2,ek⟩:=BO Q (decide (f=1));have o:(ss.map kD).length<1000000:=by rw[OX];omega
   refine⟨_,rfl,?_⟩;refine a5 (pv:= .fz (.int r4)) (ρ3:=[lD (.fz LD),lD (.fz (.int a)),lD (.fz (.int x2)),lD (.fz (.int f)),lD (.fz (nd m)),lD (.fz (.int c)),lD (.ow (b.map eW)),lD (.ow (B.map wD)),lD (.fz (nd i)),lD (.fz (.int r4)),lD (.ow (ss.map kD)),lD (.fz (nd k))]) (by walk_at "evp") rfl rfl ?_;refine fZ (hV (d:=kD q) (x:=[lD (.fz LD),lD (.fz (.int a)),lD (.fz (.int x2)),lD (.fz (.int f)),lD (.fz (nd m)),lD (.fz (.int c)),lD (.ow (b.map eW)),lD (.ow (B.map wD)),lD (.fz (nd i)),lD (.fz (.int r4)),lD (.ow (ss.map kD++[kD q])),lD (.fz (nd k))]) rfl (cH (ds:=[.int px,.bool (decide (f=1))]) (rv:= .fz (kD q)) (aj (bf (rv:= .fz (.int px)) (yL (ds:=[.int (r4 % 2),.int r4,.int r4,.int r4]) (by walk_at "ev") rfl (P4 rfl)) (ae rfl) rfl rfl K) (aj (df (dx:= .int f) (dy:= .int 1) (ae rfl) bI rfl rfl q1) aC)) rfl rfl ek) rfl rfl o rfl) ⟨ss++[q],r4,_,by rw[PB];rfl,by rw[OZ,Yi];rfl,I,fun J Vt=> ?_⟩;rcases Pw.mp Vt with z|z
   .exact Wq J z
   .rw[Pk.mp z];exact⟨k1,k2⟩
  .rintro ρ ⟨ss,r,g,rfl,Yi,hr,Wq⟩
   rw[fA,PZ] at Yi;have o:(B.map wD).length<1000000:=by rw[OX];omega
   refine fZ (hV (d:=wD (w,ss)) (x:=[lD (.fz LD),lD (.fz (.int a)),lD (.fz (.int x2)),lD (.fz (.int f)),lD (.fz (nd m)),lD (.fz (.int c)),lD (.ow (b.map eW)),lD (.ow (B.map wD++[wD (w,ss)])),lD (.fz (nd i)),lD (.fz (.int r)),lD (.ow (ss.map kD)),g]) rfl (dU (ds:=[eW w,.tuple (ss.map kD)]) (aj (bf (rv:= .fz (eW w)) (eO rfl) (ae rfl) rfl rfl E) (aj (cX (rv:= .fz (.tuple (ss.map kD))) (aj (eO rfl) aC) rfl rfl) aC)) rfl (P4 rfl)) rfl rfl o rfl) ⟨B++[(w,ss)],_,_,_,_,by rw[PB];rfl,by rw[PB,t,Y];rfl,fun e he=> ?_⟩;rcases Pw.mp he with z|z
   .exact hG e z
   .rw[Pk.mp z];exact⟨F.1,F.2.1,F.2.2,by show 1<=ss.length;omega,by show ss.length<=6;omega,Wq⟩
 .rintro ρ ⟨B,H,G,p,g,rfl,t,hG⟩
  rw[fA,PZ] at t;have t:B.map (·.1)=b:=by rw[t,<-n1,QF]
  have U:B.length=m:=by have:=congrArg QY t;rw[OX] at this;omega
  exact cL (pv:= .fz (aF B)) (cX (rv:= .fz (aF B)) (aj (eO rfl) aC) rfl rfl) rfl ⟨B,⟨by omega,by omega,hG,by rw[t];exact n2⟩,rfl⟩
theorem GX (c:List Int) (q:c.length<=63) {a:Int} (ha:0<=a):∃B,Bk B/\gL [.list (c.map .int),.int a]= .ok (.fz (aF B)):=by
 obtain⟨d,e0⟩:=tV c a ha q;obtain⟨xs,r,x2,M⟩:=Cb d;obtain⟨l,f,i⟩:=uX xs r x2;obtain⟨b,F,h⟩:=oG d 1 (by decide) (by decide);have u:=ED;have U:cG (.int b) (.int 6)=lD (.fz (.int (b/6))):=cS ⟨by decide,by decide⟩;have E:bC (.int (b/6)) (.int 4)=lD (.fz (.int (b/6 % 4))):=bK (by decide);have j:0<=b/6 % 4/\b/6 % 4<4:=⟨P0 _ (by decide),P6 _ (by decide)⟩;generalize b/6 % 4=so at E j;have A:bC (.int b) (.int 6)=lD (.fz (.int (b % 6))):=bK (by decide);have Q:0<=b % 6/\b % 6<6:=⟨P0 _ (by decide),P6 _ (by decide)⟩;generalize b % 6=v6 at A Q;have O:cG (.int b) (.int 24)=lD (.fz (.int (b/24))):=cS ⟨by decide,by decide⟩;have z:bC (.int (b/24)) (.int 8)=lD (.fz (.int (b/24 % 8))):=bK (by decide);have t:kW (.int (b/24 % 8)) (.int 3)=lD (.fz (.bool (decide (b/24 % 8=3)))):=iQ _ _;generalize b/24 % 8=v8 at z t;have S:cG (.int b) (.int 192)=lD (.fz (.int (b/192))):=cS ⟨by decide,by decide⟩;have w:bC (.int (b/192)) (.int 9)=lD (.fz (.int (b/192 % 9))):=bK (by decide);have P:0<=b/192 % 9/\b/192 % 9<9:=⟨P0 _ (by decide),P6 _ (by decide)⟩;generalize b/192 % 9=v9 at w P;have L:(O9.int (1+v6))=nd (1+v6).toNat:=by show O9.int _= .int _;congr 1;omega
 have K:(O9.int (12+v9))=nd (12+v9).toNat:=by show O9.int _= .int _;congr 1;omega
 obtain⟨rv,e,B,G,rfl⟩:=g7 (ds:=[.list (c.map .int),.int a]) (ρ:=[lD (.fz (.list (c.map .int))),lD (.fz (.int a)),Ld,Ld,Ld,Ld,Ld,Ld,Ld,Ld,Ld,Ld]) (n:=12) (g:=gM) (T:=fun v=>∃B,Bk B/\v= .fz (aF B)) rfl (by
  unfold gM;have o:=fun(x2 p:Int) (m:Nat) (h1:1<=m) (J:m<=20) (I:1<=p) (H:p<=6)=>BL c q ha (x2:=x2) j.1 j.2 h1 J I H (N:=fun _=>∃B,Bk B/\RV.fz O9.none= .fz (aF B)) (C:=fun _=>False);refine a5 (pv:= .fz (.int d)) (ρ3:=[lD (.fz (.list (c.map .int))),lD (.fz (.int a)),lD (.fz (.int d)),Ld,Ld,Ld,Ld,Ld,Ld,Ld,Ld,Ld]) (cH (rv:= .fz (.int d)) (by walk_at "ev") rfl rfl e0) rfl rfl ?_;refine kw (by walk_at "ev") (fun _=> ?_) fun _=>dB ?_
  .exact pV (pv:= .fz (aF l)) (cH (ds:=[.list (xs.map .int)]) (rv:= .fz (aF l)) (aj (cH (rv:= .ow (xs.map .int)) (by walk_at "ev") rfl rfl M) aC) rfl rfl i) rfl ⟨l,f,rfl⟩
  refine a5 (pv:= .fz (.int b)) (ρ3:=[lD (.fz (.list (c.map .int))),lD (.fz (.int a)),lD (.fz (.int b)),Ld,Ld,Ld,Ld,Ld,Ld,Ld,Ld,Ld]) (cH (rv:= .fz (.int b)) (by walk_at "ev") rfl rfl h) rfl rfl ?_;refine a5 (pv:= .fz (.int so)) (ρ3:=[lD (.fz (.list (c.map .int))),lD (.fz (.int a)),lD (.fz (.int b)),lD (.fz (.int so)),Ld,Ld,Ld,Ld,Ld,Ld,Ld,Ld]) (by walk_at "evp") rfl rfl ?_;refine a5 (pv:= .fz (.int (1+v6))) (ρ3:=[lD (.fz (.list (c.map .int))),lD (.fz (.int a)),lD (.fz (.int b)),lD (.fz (.int so)),lD (.fz (.int (1+v6))),Ld,Ld,Ld,Ld,Ld,Ld,Ld]) (by walk_at "evp") rfl rfl ?_;refine a5 (pv:= .fz (.int 4)) (ρ3:=[lD (.fz (.list (c.map .int))),lD (.fz (.int a)),lD (.fz (.int b)),lD (.fz (.int so)),lD (.fz (.int (1+v6))),lD (.fz (.int 4)),Ld,Ld,Ld,Ld,Ld,Ld]) (by walk_at "evp") rfl rfl ?_;refine kw (by walk_at "ev") (fun _=> ?_) fun _=>dB ?_
  .refine DU ?_;refine a5 (pv:= .fz (.int (12+v9))) (ρ3:=[lD (.fz (.list (c.map .int))),lD (.fz (.int a)),lD (.fz (.int b)),lD (.fz (.int so)),lD (.fz (.int (12+v9))),lD (.fz (.int 4)),Ld,Ld,Ld,Ld,Ld,Ld]) (by walk_at "evp") rfl rfl ?_;refine a5 (pv:= .fz (.int 6)) (ρ3:=[lD (.fz (.list (c.map .int))),lD (.fz (.int a)),lD (.fz (.int b)),lD (.fz (.int so)),lD (.fz (.int (12+v9))),lD (.fz (.int 6)),Ld,Ld,Ld,Ld,Ld,Ld]) (by walk_at "evp") rfl rfl ?_;rw[K];exact o _ 6 _ (by omega) (by omega) (by decide) (by decide)
  .rw[L];exact o _ 4 _ (by omega) (by omega) (by decide) (by decide))
 exact⟨B,G,e⟩
theorem CW (xs ys:List D) (h:xs.length+ys.length<=1000):wC (.tuple xs) (.tuple ys)=lD (.fz (.tuple (xs++ys))):=by
 cases xs with
 |nil=>rfl
 |cons x r=>show(if x::r≠[]/\(x::r).length+ys.length<=1000000 then lD (RV.fz (.tuple (x::r++ys))) else Ld)=_;rw[if_pos ⟨Za x r,by omega⟩]
theorem xz (xs:List D) (p:Nat):qp (.tuple xs) Ld (lD (p:Int))=lD (.fz (.tuple (xs.take p))):=by show lD (RV.fz (.tuple (gg xs Ld (lD (p:Int)))))=_;unfold gg;rw[HT.sIx_none,ZV,HT.sIx_nat,abw];congr 3;rw[List.take_eq_take_iff];omega
theorem wJ (xs:List D) (p:Nat):qp (.tuple xs) (lD (p:Int)) Ld=lD (.fz (.tuple (xs.drop p))):=by
 show lD (RV.fz (.tuple (gg xs (lD (p:Int)) Ld)))=_;unfold gg;rw[HT.sIx_none,HT.sIx_nat];congr 3;by_cases h:p<=xs.length
 .rw[V0 h,QC (by rw[QE];exact O8 _)]
 .rw[VC (by omega),Tu,UG,List.drop_of_length_le (by omega)]
def sD (ss:List (List Int)):D:= .tuple (ss.map kD)
def tD (w:List Nat):D:= .str (tx w)
theorem tm:∀a b:List (List Int),O9.eqvAll (a.map kD) (b.map kD)=decide (a=b)
 |[],[]=>rfl
 |[],_::_=>rfl
 |_::_,[]=>rfl
 |x::r,y::t=>by
  show(O9.eqvAll (x.map O9.int) (y.map O9.int)&&O9.eqvAll (r.map kD) (t.map kD))=_;rw[JK,tm r t];by_cases h1:x=y
  .by_cases c:r=t
   .rw[decide_eq_true h1,decide_eq_true c,decide_eq_true (by rw[h1,c])];rfl
   .rw[decide_eq_false c,decide_eq_false (fun z=>c (Sm z).2),V6]
  .rw[decide_eq_false h1,decide_eq_false (fun z=>h1 (Sm z).1)];rfl
theorem Ij (a b:List (List Int)):(Ce (sD a)&&(sD b).canLay0)=Pb:=by show((O9.canLayAll0 (a.map kD)&&decide (O9.depthAll (a.map kD)+1<=64))&&O9.canLayAll0 (b.map kD))=Pb;have:=qm a;rw[o7,o7,decide_eq_true (by omega)];rfl
theorem oX (a b:List (List Int)):kW (sD a) (sD b)=lD (.fz (.bool (decide (a=b)))):=by unfold kW;rw[if_pos (Ij a b),show O9.eqv (sD a) (sD b)=_ from tm a b]
theorem K0 (a b:List (List Int)):vE (sD a) (sD b)=lD (.fz (.bool (!decide (a=b)))):=by unfold vE;rw[if_pos (Ij a b),show O9.eqv (sD a) (sD b)=_ from tm a b]
theorem fT (a:List (List Int)):fu [sD a]=lD (.fz (nd a.length)):=by show lD (RV.fz (.int ((a.map kD).length:Int)))=_;rw[OX]
theorem NZ {α:Type} (xs:List α) (p q:Nat) (h:p<=q):(xs.drop (min p xs.length)).take (min q xs.length - min p xs.length)=(xs.drop p).take (q - p):=by
 by_cases h1:p<xs.length
 .rw[V0 (QJ h1)]
  by_cases b:q<=xs.length
  .rw[V0 b]
  .rw[VC (by omega),QC (l:=xs.drop p) (by rw[QE];omega),QC (by rw[QE];omega)]
 .rw[VC (a:=p) (by omega),Rn (O8 _),Rn (by omega),aak,aak]
theorem LY (a:List (List Int)) (p q:Nat) (h:p<=q):qp (sD a) (lD (p:Int)) (lD (q:Int))=lD (.fz (sD ((a.drop p).take (q - p)))):=by show lD (RV.fz (.tuple (gg (a.map kD) (lD (p:Int)) (lD (q:Int)))))=_;unfold gg;rw[HT.sIx_nat,HT.sIx_nat,NZ _ _ _ h,<-TV,<-Tc];rfl
def dG:List Wd->List Nat->Option (List (List Int))
 |[],_=>Ld
 |e::r,w=>if e.1=w then lD e.2 else dG r w
theorem mj (e:Wd) (r:List Wd) (w:List Nat):dG (e::r) w=if e.1=w then lD e.2 else dG r w:=rfl
def wr (B:List Wd) (ws:List (List Nat)):List (List Int):=(ws.map fun w=>(dG B w).getD []).flatten
theorem c8:∀{B:List Wd} {w:List Nat} {s:List (List Int)},dG B w=lD s->(w,s)∈B
 |e::r,w,s,h=>by
  unfold dG at h;by_cases q:e.1=w
  .rw[if_pos q] at h;cases h;rw[<-q];exact Pr
  .rw[if_neg q] at h;exact Pl _ (c8 h)
theorem iZ:∀{B:List Wd} {e:Wd},(B.map (·.1)).Nodup->e∈B->dG B e.1=lD e.2
 |a::r,e,hn,h=>by
  rw[Pd,Qr] at hn;unfold dG;rcases Py.mp h with h|h
  .subst h;rw[if_pos rfl]
  .rw[if_neg (fun z=>hn.1 (by rw[z];exact Pn.mpr ⟨e,h,rfl⟩))];exact iZ hn.2 h
theorem mz:∀{B:List Wd} {w:List Nat},w∉B.map (·.1)->dG B w=Ld
 |[],_,_=>rfl
 |a::r,w,h=>by rw[Pd,Py,not_or] at h;unfold dG;rw[if_neg (fun z=>h.1 z.symm)];exact mz h.2
theorem gU {B:List Wd} {w:List Nat} (h:w∈B.map (·.1)):∃s,dG B w=lD s:=by
 cases q:dG B w with
 |some s=>exact⟨s,rfl⟩
 |none=>
  exfalso;revert h q
  induction B with
  |nil=>intro h;simp at h
  |cons a r b=>
   intro h q;unfold dG at q;by_cases z:a.1=w
   .rw[if_pos z] at q;cases q
   .rw[if_neg z] at q;rw[Pd,Py] at h;exact b (h.resolve_left fun y=>z y.symm) q
theorem jK (B:List Wd):wr B []=[]:=rfl
theorem kh (B:List Wd) (ws:List (List Nat)) (w:List Nat):wr B (ws++[w])=wr B ws++(dG B w).getD []:=by unfold wr;rw[PB,XO,List.map_singleton,List.flatten_singleton]
theorem dM (B:List Wd) (ws:List (List Nat)) (w:List Nat):wr B (w::ws)=(dG B w).getD []++wr B ws:=rfl
def jr (B:List Wd) (ws:List (List Nat)):Prop:=∀w∈ws,w∈B.map (·.1)
structure BB (B:List Wd):Prop where
 Xg:B.length<=20
 nd:(B.map (·.1)).Nodup
 s1:∀e∈B,1<=e.2.length
 s6:∀e∈B,e.2.length<=6
 wc:∀e∈B,∀c∈e.1,c<1114112
theorem Bk.bb {B:List Wd} (h:Bk B):BB B:=⟨h.Xg,h.nd,fun e a=>(h.ge e a).s1,fun e a=>(h.ge e a).s6,fun e a c b=>by have:=(h.ge e a).wd c b;omega⟩
theorem CA {B:List Wd} (h:BB B):∀ws:List (List Nat),(wr B ws).length<=6*ws.length
 |[]=>Qb _
 |w::r=>by
  rw[dM,OZ,Pf];have a:=CA h r;cases q:dG B w with
  |none=>show 0+_<=_;omega
  |some s=>have:s.length<=6:=h.s6 _ (c8 q);show s.length+_<=_;omega
theorem lm (kvs:List (bT×SV)) (k j:bT) (x:SV):cR (gR kvs k x) j=if j=k then lD x else cR kvs j:=by
 unfold gR;by_cases a:(kvs.any fun c=>decide (c.1=k))=Pb
 .rw[if_pos a]
  obtain⟨q,d,i⟩:=Zb.mp a;have i:=of_decide_eq_true i;have f:∀l:List (bT×SV),cR (l.map fun c=>if c.1=k then(c.1,x) else c) j=if j=k then(cR l j).map (fun _=>x) else cR l j:=by
   intro l
   induction l with
   |nil=>unfold cR;simp
   |cons p r g=>
    unfold cR at g⊢;rw[Pd,PL,PL];by_cases e:p.1=k
    .rw[if_pos e]
     by_cases b:p.1=j
     .rw[decide_eq_true b,if_pos (b.symm.trans e)];rfl
     .rw[decide_eq_false b];exact g
    .rw[if_neg e]
     by_cases b:p.1=j
     .rw[decide_eq_true b,if_neg (fun z=>e (b.trans z))]
     .rw[decide_eq_false b];exact g
  rw[f];by_cases b:j=k
  .rw[if_pos b,if_pos b]
   have:∃y,cR kvs j=lD y:=by
    unfold cR;rw[b];cases h:kvs.find? fun c=>decide (c.1=k) with
    |none=>exact absurd (Tz.mp h q d) (by rw[decide_eq_true i];simp)
    |some p=>exact⟨_,rfl⟩
   obtain⟨y,m⟩:=this;rw[m];rfl
  .rw[if_neg b,if_neg b]
 .rw[if_neg a]
  have hn:∀q∈kvs,¬q.1=k:=fun q d z=>a (Zb.mpr ⟨q,d,decide_eq_true z⟩);unfold cR;rw[List.find?_append];by_cases b:j=k
  .rw[if_pos b,Tz.mpr fun q d=>by rw[b];simp[hn q d],Option.none_or,PL,decide_eq_true (show k=j from b.symm)];rfl
  .rw[if_neg b,PL,decide_eq_false (show¬k=j from fun z=>b z.symm),List.find?_nil,Option.or_none]
theorem F5 (kvs:List (bT×SV)) (k:bT) (x:SV):(gR kvs k x).length<=kvs.length+1:=by
 unfold gR;split
 .rw[OX];omega
 .rw[OZ];exact O8 _
def KN (B:List Wd):List (bT×SV):=B.map fun e=>(.inr (tx e.1),.fz (sD e.2))
theorem v5 (B:List Wd):qA (.fz (aF B))=lD (KN B):=by
 show ar pT (B.map wD)=lD (KN B)
 induction B with
 |nil=>rfl
 |cons e r a=>rw[Pd];unfold ar;rw[a];rfl
theorem wz (B:List Wd) (hn:(B.map (·.1)).Nodup) (w:List Nat):cR (e9 [] (KN B)) (.inr (tx w))=(dG B w).map fun s=>SV.fz (sD s):=by
 have b:∀(B:List Wd) (a:List (bT×SV)),(B.map (·.1)).Nodup->cR (e9 a (KN B)) (.inr (tx w))=match dG B w with
   |some s=>lD (.fz (sD s))
   |none=>cR a (.inr (tx w)):=by
  intro B
  induction B with
  |nil=>intro a _;rfl
  |cons e r c=>
   intro a hn;rw[Pd,Qr] at hn;show cR (e9 (gR a (.inr (tx e.1)) (.fz (sD e.2))) (KN r)) (.inr (tx w))=_;rw[c _ hn.2,mj];by_cases q:e.1=w
   .subst q;rw[if_pos rfl,mz hn.1];dsimp only;rw[lm,if_pos rfl]
   .rw[if_neg q]
    cases dG r w with
    |some s=>rfl
    |none=>dsimp only;rw[lm,if_neg (fun z=>q (ER (Sum.inr.inj z)).symm)]
 rw[b B [] hn];cases dG B w with
 |none=>rfl
 |some s=>rfl
abbrev Rs:=List (List Int)
structure Wy where
 p:Nat
 r:Rs
 lo:List (List Nat)
 sh:List (List Nat)
def bg (a b:Rs):Bool:=decide (b.take a.length=a)
def bA (e f:Wd):Option Wy:=if e.1≠f.1/\bg e.2 f.2=Pb then lD ⟨f.2.length,f.2.drop e.2.length,[f.1],[e.1]⟩ else Ld
def cO (B:List Wd):List Wy:=B.flatMap fun e=>B.filterMap (bA e)
def nx (w:Wy) (e:Wd):Option Wy:=if bg e.2 w.r=Pb then lD ⟨w.p,w.r.drop e.2.length,w.lo,w.sh++[e.1]⟩ else if bg w.r e.2=Pb then lD ⟨w.p+(e.2.drop w.r.length).length,e.2.drop w.r.length,w.sh++[e.1],w.lo⟩ else Ld
def c9 (B:List Wd) (w:Wy):List Wy:=if w.r=[] then[] else B.filterMap (nx w)
theorem jg {a b:Rs}:bg a b=Pb↔∃c,b=a++c:=by
 unfold bg;rw[decide_eq_true_iff];constructor
 .intro h;exact⟨b.drop a.length,by have:=QH a.length b;rw[h] at this;exact this.symm⟩
 .rintro⟨c,rfl⟩;simp
def bN (w:Wy):D:= .tuple [nd w.p,sD w.r,.tuple (w.lo.map tD),.tuple (w.sh.map tD)]
theorem A9:∀a b:List Int,∃r,LD.Rq (a.map O9.int) (b.map O9.int)=lD r
 |[],[]=>⟨_,by rw[Qe,LD.Rq]⟩
 |[],_::_=>⟨_,by rw[Qe,Pd,LD.Rq]⟩
 |_::_,[]=>⟨_,by rw[Qe,Pd,LD.Rq]⟩
 |x::a,y::b=>by
  obtain⟨r,h⟩:=A9 a b;rw[Pd,Pd,LD.Rq];split
  .exact⟨r,h⟩
  .exact⟨_,by rw[LD.SD]⟩
theorem Jf:∀a b:Rs,∃r,LD.Rq (a.map kD) (b.map kD)=lD r
 |[],[]=>⟨_,by rw[Qe,LD.Rq]⟩
 |[],_::_=>⟨_,by rw[Qe,Pd,LD.Rq]⟩
 |_::_,[]=>⟨_,by rw[Qe,Pd,LD.Rq]⟩
 |x::a,y::b=>by
  obtain⟨r,h⟩:=Jf a b;rw[Pd,Pd,LD.Rq];split
  .exact⟨r,h⟩
  .obtain⟨q,c⟩:=A9 x y;exact⟨q,by unfold kD;rw[LD.SD];exact c⟩
theorem xC:∀a b:List (List Nat),∃r,LD.Rq (a.map tD) (b.map tD)=lD r
 |[],[]=>⟨_,by rw[Qe,LD.Rq]⟩
 |[],_::_=>⟨_,by rw[Qe,Pd,LD.Rq]⟩
 |_::_,[]=>⟨_,by rw[Qe,Pd,LD.Rq]⟩
 |x::a,y::b=>by
  obtain⟨r,h⟩:=xC a b;rw[Pd,Pd,LD.Rq];split
  .exact⟨r,h⟩
  .exact⟨_,by unfold tD;rw[LD.SD]⟩
theorem En (a b:Wy):∃r,LD.SD (bN a) (bN b)=lD r/\(r=Pb->a.p<=b.p)/\(r=Ph->b.p<=a.p):=by
 unfold bN;rw[LD.SD,LD.Rq];by_cases e:a.p=b.p
 .rw[e]
  have:O9.eqv (nd b.p) (nd b.p)=Pb:=by unfold nd;rw[O9.eqv];simp
  rw[if_pos this];have c:∃r,LD.Rq [sD a.r,.tuple (a.lo.map tD),.tuple (a.sh.map tD)] [sD b.r,.tuple (b.lo.map tD),.tuple (b.sh.map tD)]=lD r:=by
   rw[LD.Rq];split
   .rw[LD.Rq]
    split
    .rw[LD.Rq]
     split
     .exact⟨_,by rw[LD.Rq]⟩
     .rw[LD.SD];exact xC _ _
    .rw[LD.SD];exact xC _ _
   .unfold sD;rw[LD.SD];exact Jf _ _
  obtain⟨r,h⟩:=c;exact⟨r,h,fun _=>O8 _,fun _=>O8 _⟩
 .have:¬O9.eqv (nd a.p) (nd b.p)=Pb:=by unfold nd;rw[O9.eqv];simp;omega
  rw[if_neg this];refine⟨decide ((a.p:Int)<b.p),by unfold nd;rw[LD.SD],fun h=> ?_,fun h=> ?_⟩
  .have:=of_decide_eq_true h;omega
  .have:=of_decide_eq_false h;omega
def lc (a b:Wy):Wy:=if LD.SD (bN b) (bN a)=lD Pb then b else a
theorem zw (a b:Wy):lc a b=a\/lc a b=b:=by unfold lc;split<;>simp
theorem zV (a b:Wy):(lc a b).p<=a.p/\(lc a b).p<=b.p:=by
 obtain⟨r,h,h1,c⟩:=En b a;unfold lc;rw[h];cases r with
 |true=>rw[if_pos rfl];exact⟨h1 rfl,O8 _⟩
 |false=>rw[if_neg (by simp)];exact⟨O8 _,c rfl⟩
abbrev Mp:=List (Rs×Wy)
def fq (M:Mp) (r:Rs):Option Wy:=(M.find? fun q=>decide (q.1=r)).map (·.2)
def kQ (M:Mp) (r:Rs) (w:Wy):Mp:=if(M.find? fun q=>decide (q.1=r)).isSome=Pb then M.map (fun q=>if q.1=r then(q.1,w) else q) else M++[(r,w)]
def gS (M:Mp) (r:Rs):Mp:=M.filter fun q=> !decide (q.1=r)
def Gt (M:Mp) (r:Rs) (p:Nat):Prop:=∃q∈M,q.1=r/\q.2.p<=p
def kN (O:Mp) (w:Wy):Mp:=kQ O w.r (lc w ((fq O w.r).getD w))
theorem jJ {M:Mp} {r:Rs} {w:Wy} (h:fq M r=lD w):(r,w)∈M:=by unfold fq at h;obtain⟨q,h1,b⟩:=Qz.mp h;have d:=Zr h1;have c:=Wi h1;have a:q.1=r:=of_decide_eq_true d;obtain⟨f,e⟩:=q;dsimp only at b a;subst b a;exact c
theorem sA {M:Mp} {r:Rs} (h:(M.find? fun q=>decide (q.1=r)).isSome≠Pb):∀q∈M,q.1≠r:=fun q a e=>h (by rw[R8];exact⟨q,a,decide_eq_true e⟩)
theorem GK {M:Mp} {r:Rs} {w:Wy} {q:Rs×Wy} (h:q∈kQ M r w):q=(r,w)\/(q∈M/\q.1≠r):=by
 unfold kQ at h;split at h
 .obtain⟨z,a,e⟩:=Pn.mp h
  by_cases k:z.1=r
  .rw[if_pos k] at e;subst e;exact .inl (by rw[k])
  .rw[if_neg k] at e;subst e;exact .inr ⟨a,k⟩
 .rename_i hn
  rcases Pw.mp h with h|h
  .exact .inr ⟨h,sA hn q h⟩
  .exact .inl (Pk.mp h)
theorem u3 {M:Mp} {r:Rs} {w:Wy}:(r,w)∈kQ M r w/\∀q∈M,q.1≠r->q∈kQ M r w:=by
 unfold kQ;split
 .rename_i h;rw[R8] at h;obtain⟨z,b,e⟩:=h;have e:=of_decide_eq_true e;exact⟨Pn.mpr ⟨z,b,by rw[if_pos e,e]⟩,fun q a k=>Pn.mpr ⟨q,a,by rw[if_neg k]⟩⟩
 .exact⟨PM _ (Pk.mpr rfl),fun q a _=>Qs _ a⟩
theorem Fj (M:Mp) (r:Rs) (w:Wy):(kQ M r w).map (·.1)=if r∈M.map (·.1) then M.map (·.1) else M.map (·.1)++[r]:=by
 unfold kQ;have b:(M.find? fun q=>decide (q.1=r)).isSome=Pb↔r∈M.map (·.1):=by rw[R8,Pn];exact⟨fun⟨q,h1,a⟩=>⟨q,h1,of_decide_eq_true a⟩,fun⟨q,h1,a⟩=>⟨q,h1,decide_eq_true a⟩⟩
 by_cases h:r∈M.map (·.1)
 .rw[if_pos (b.mpr h),if_pos h,Qf];apply UQ;intro q _;show(if q.1=r then(q.1,w) else q).1=q.1;split<;>rfl
 .rw[if_neg (fun z=>h (b.mp z)),if_neg h,PB];rfl
theorem KW {M:Mp} {r:Rs} {w:Wy} (h:(M.map (·.1)).Nodup):((kQ M r w).map (·.1)).Nodup:=by
 rw[Fj];split
 .exact h
 .rename_i hn;exact SW.mpr ⟨h,Qr.mpr ⟨S7,Sj⟩,fun a ha b c e=>hn (by rw[<-Pk.mp c,<-e];exact ha)⟩
theorem GG {M:Mp} {r:Rs} {w:Wy} (h:r∉M.map (·.1)):kQ M r w=M++[(r,w)]:=by unfold kQ;rw[if_neg];rw[R8];rintro⟨q,h1,a⟩;exact h (Pn.mpr ⟨q,h1,of_decide_eq_true a⟩)
theorem yx {M:Mp} (h:(M.map (·.1)).Nodup) {a b:Rs×Wy} (ha:a∈M) (hb:b∈M) (e:a.1=b.1):a=b:=by
 induction M with
 |nil=>cases ha
 |cons c r d=>
  rw[Pd,Qr] at h;rcases Py.mp ha with ka|ka<;>rcases Py.mp hb with kb|kb
  .rw[ka,kb]
  .exact absurd (Pn.mpr ⟨b,kb,by rw[<-e,ka]⟩) h.1
  .exact absurd (Pn.mpr ⟨a,ka,by rw[e,kb]⟩) h.1
  .exact d h.2 ka kb
structure YQ (B:List Wd) (q:Rs×Wy):Prop where
 k:q.2.r=q.1
 p:q.2.p=(wr B q.2.lo).length
 i:jr B q.2.lo
 j:jr B q.2.sh
 s:∃e∈B,∃c,e.2=c++q.1
 e:wr B q.2.lo=wr B q.2.sh++q.1
 n:q.2.lo≠[]/\q.2.sh≠[]
 u:q.2.lo.head?≠q.2.sh.head?
structure Iv (B:List Wd) (W O:Mp):Prop where
 wk:∀q∈W,YQ B q
 ok:∀q∈O,YQ B q
 wn:(W.map (·.1)).Nodup
 on:(O.map (·.1)).Nodup
 dj:∀a∈W,∀b∈O,a.1≠b.1
 le:∀a∈W,∀b∈O,a.2.p<=b.2.p
theorem Jl {O:Mp} {w:Wy} (hn:(O.map (·.1)).Nodup):Gt (kN O w) w.r w.p/\∀r p,Gt O r p->Gt (kN O w) r p:=by
 unfold kN;refine⟨⟨_,u3.1,rfl,(zV _ _).1⟩,?_⟩;rintro r p ⟨q,a,rfl,hp⟩;by_cases e:q.1=w.r
 .refine⟨_,u3.1,e.symm,?_⟩
  cases g:fq O w.r with
  |none=>exfalso;unfold fq at g;rw[Ug,Tz] at g;exact g q a (decide_eq_true e)
  |some z=>have:=yx hn a (jJ g) e;subst this;exact Pp (zV _ _).2 hp
 .exact⟨q,u3.2 q a e,rfl,hp⟩
theorem k9 {O:Mp} {w:Wy} {q:Rs×Wy} (h:q∈kN O w):q=(w.r,w)\/q∈O:=by
 unfold kN at h;rcases GK h with h|h
 .cases g:fq O w.r with
  |none=>
   rw[g] at h;have:lc w (Option.getD (Ld:Option Wy) w)=w:=by rcases zw w w with z|z<;>exact z
   rw[this] at h;exact .inl h
  |some z=>
   rw[g] at h;have:lc w ((lD z:Option Wy).getD w)=w\/lc w ((lD z:Option Wy).getD w)=z:=zw w z;rcases this with e|e
   .rw[e] at h;exact .inl h
   .rw[e] at h;subst h;exact .inr (jJ g)
 .exact .inr h.1
def g9 (O:Mp) (ws:List Wy):Mp:=ws.foldl kN O
theorem tM {B:List Wd} {W:Mp}:∀{ws:List Wy} {O:Mp},Iv B W O->(∀w∈ws,YQ B (w.r,w)/\(∀a∈W,a.1≠w.r)/\∀a∈W,a.2.p<=w.p)->Iv B W (g9 O ws)/\(∀w∈ws,Gt (g9 O ws) w.r w.p)/\∀r p,Gt O r p->Gt (g9 O ws) r p
 |[],O,h,_=>⟨h,fun _ z=>(by cases z),fun _ _ z=>z⟩
 |w::ws,O,h,g=>by
  obtain⟨v,u,t⟩:=g w (Pr ..);have l:Iv B W (kN O w):=by
   refine⟨h.wk,fun q o=> ?_,h.wn,KW h.on,fun a ha b d=> ?_,fun a ha b d=> ?_⟩
   .rcases k9 o with e|e
    .subst e;exact v
    .exact h.ok q e
   .rcases k9 d with e|e
    .subst e;exact u a ha
    .exact h.dj a ha b e
   .rcases k9 d with e|e
    .subst e;exact t a ha
    .exact h.le a ha b e
  obtain⟨j,i⟩:=Jl (O:=O) (w:=w) h.on;obtain⟨n,m,f⟩:=tM (ws:=ws) l fun z c=>g z (Pl _ c);refine⟨n,fun z c=> ?_,fun r p z=>f r p (i r p z)⟩;rcases Py.mp c with e|e
  .subst e;exact f _ _ j
  .exact m z e
theorem mV {B:List Wd} (l:BB B) {w:Wy} (h:w∈cO B):YQ B (w.r,w):=by
 obtain⟨e,g,h⟩:=Uh.mp h;obtain⟨f,b,h⟩:=QB.mp h;unfold bA at h;split at h
 .rename_i j
  cases h;obtain⟨c,i⟩:=jg.mp j.2;have n:=iZ l.nd b;have le:=iZ l.nd g;have d:wr B [f.1]=f.2:=by rw[dM,n,jK,PY];rfl
  have m:wr B [e.1]=e.2:=by rw[dM,le,jK,PY];rfl
  refine⟨rfl,by show f.2.length=_;rw[d],fun x a=> ?_,fun x a=> ?_,⟨f,b,e.2,?_⟩,?_,⟨by simp,by simp⟩,fun z=>j.1 (PK z).symm⟩
  .rw[Pk.mp a];exact Pn.mpr ⟨f,b,rfl⟩
  .rw[Pk.mp a];exact Pn.mpr ⟨e,g,rfl⟩
  .show f.2=e.2++f.2.drop e.2.length;rw[i,Rb]
  .show wr B [f.1]=wr B [e.1]++f.2.drop e.2.length;rw[d,m,i,Rb]
 .cases h
theorem pX {B:List Wd} (H:BB B) {a w:Wy} (ha:YQ B (a.r,a)) (h:w∈c9 B a):YQ B (w.r,w)/\a.p<=w.p:=by
 unfold c9 at h;split at h
 .cases h
 .obtain⟨e,m,h⟩:=QB.mp h
  have le:=iZ H.nd m;obtain⟨I,z,v,F,⟨g,G,c,E⟩,u,j,t⟩:=ha;dsimp only at z v F E u j t;have C:(a.sh++[e.1]).head? =a.sh.head? :=by obtain⟨x,y,l⟩:=List.exists_cons_of_ne_nil j.2;rw[l];rfl
  have d:wr B (a.sh++[e.1])=wr B a.sh++e.2:=by rw[kh,le];rfl
  have f:jr B (a.sh++[e.1]):=fun x i=>by
   rcases Pw.mp i with i|i
   .exact F x i
   .rw[Pk.mp i];exact Pn.mpr ⟨e,m,rfl⟩
  unfold nx at h;split at h
  .rename_i n
   cases h;obtain⟨o,b⟩:=jg.mp n;refine⟨⟨rfl,z,v,f,⟨g,G,c++e.2,?_⟩,?_,⟨j.1,by simp⟩,by show a.lo.head?≠(a.sh++[e.1]).head?;rw[C];exact t⟩,O8 _⟩
   .show g.2=c++e.2++a.r.drop e.2.length;rw[E,b,Rb,PR]
   .show wr B a.lo=wr B (a.sh++[e.1])++a.r.drop e.2.length;rw[u,d,b,Rb,PR]
  .split at h
   .rename_i n
    cases h;obtain⟨o,b⟩:=jg.mp n;have q:e.2.drop a.r.length=o:=by rw[b,Rb]
    have A:wr B (a.sh++[e.1])=wr B a.lo++o:=by rw[d,b,u,PR]
    refine⟨⟨rfl,?_,f,v,⟨e,m,a.r,?_⟩,?_,⟨by simp,j.1⟩,by show(a.sh++[e.1]).head?≠a.lo.head?;rw[C];exact Ne.symm t⟩,VD _ _⟩
    .show a.p+(e.2.drop a.r.length).length=_;rw[q];show a.p+o.length=(wr B (a.sh++[e.1])).length;rw[A,OZ,z]
    .show e.2=a.r++e.2.drop a.r.length;rw[q];exact b
    .show wr B (a.sh++[e.1])=wr B a.lo++e.2.drop a.r.length;rw[q];exact A
   .cases h
structure Full (B:List Wd) (W O:Mp):Prop where
 iv:Iv B W O
 fst:∀f∈cO B,Gt (W++O) f.r f.p
 nxt:∀a∈W,∀n∈c9 B a.2,Gt (W++O) n.r n.p
theorem Gt.app {W O b:Mp} (h:∀r p,Gt O r p->Gt b r p) {r:Rs} {p:Nat} (g:Gt (W++O) r p):Gt (W++b) r p:=by
 obtain⟨q,a,e,l⟩:=g;rcases Pw.mp a with a|a
 .exact⟨q,Qs _ a,e,l⟩
 .obtain⟨z,d,f,c⟩:=h r p ⟨q,a,e,l⟩;exact⟨z,PM _ d,f,c⟩
theorem DL {B:List Wd} (g:BB B):Full B [] (g9 [] (cO B)):=by have a:Iv B [] []:=⟨fun _ z=>(by cases z),fun _ z=>(by cases z),Sj,Sj,fun _ z=>(by cases z),fun _ z=>(by cases z)⟩;obtain⟨c,b,h⟩:=tM (ws:=cO B) a fun w d=>⟨mV g d,fun _ z=>(by cases z),fun _ z=>(by cases z)⟩;exact⟨c,fun f e=>b f e,fun _ z=>(by cases z)⟩
def yN (B:List Wd) (W:Mp) (b:Rs×Wy):List Wy:=(c9 B b.2).filter fun n=> !decide (n.r∈(W++[b]).map (·.1))
theorem Hv {B:List Wd} (E:BB B) {W O:Mp} (h:Full B W O) {b:Rs×Wy} (hb:b∈O) (hm:∀q∈O,b.2.p<=q.2.p):Full B (W++[b]) (g9 (gS O b.1) (yN B W b)):=by
 have u:=h.iv.ok b hb;have v:Iv B (W++[b]) (gS O b.1):=by
  have o:∀q∈gS O b.1,q∈O/\q.1≠b.1:=fun q d=>by obtain⟨h1,m⟩:=QD.mp d;exact⟨h1,fun e=>by rw[decide_eq_true e] at m;cases m⟩
  refine⟨fun q d=> ?_,fun q d=>h.iv.ok q (o q d).1,?_,h.iv.on.sublist ((XN).map _),fun a ha c j=> ?_,fun a ha c j=> ?_⟩
  .rcases Pw.mp d with d|d
   .exact h.iv.wk q d
   .rw[Pk.mp d];exact u
  .rw[PB];exact SW.mpr ⟨h.iv.wn,Qr.mpr ⟨S7,Sj⟩,fun x J y A e=>by obtain⟨a,ha,rfl⟩:=Pn.mp J;have A:y=b.1:=Pk.mp A;exact h.iv.dj a ha b hb (e.trans A)⟩
  .rcases Pw.mp ha with ha|ha
   .exact h.iv.dj a ha c (o c j).1
   .rw[Pk.mp ha];exact Ne.symm (o c j).2
  .rcases Pw.mp ha with ha|ha
   .exact h.iv.le a ha c (o c j).1
   .rw[Pk.mp ha];exact hm c (o c j).1
 have i:YQ B (b.2.r,b.2):=by rw[u.k];exact u
 obtain⟨I,H,G⟩:=tM (ws:=yN B W b) v fun w K=>by
  obtain⟨h1,m⟩:=QD.mp K;obtain⟨F,t⟩:=pX E i h1;refine⟨F,fun a ha e=> ?_,fun a ha=>Pp ?_ t⟩
  .rw[decide_eq_true (Pn.mpr ⟨a,ha,e⟩)] at m;cases m
  .rcases Pw.mp ha with ha|ha
   .exact h.iv.le a ha b hb
   .rw[Pk.mp ha];exact O8 _
 have C:∀r p,Gt (W++O) r p->Gt (W++[b]++g9 (gS O b.1) (yN B W b)) r p:=fun r p g=>by
  refine Gt.app G ?_;obtain⟨q,d,e,l⟩:=g;rcases Pw.mp d with d|d
  .exact⟨q,Qs _ (Qs _ d),e,l⟩
  .by_cases z:q.1=b.1
   .have:=yx h.iv.on d hb z;subst this;exact⟨q,Qs _ (PM _ (Pk.mpr rfl)),e,l⟩
   .exact⟨q,PM _ (QD.mpr ⟨d,by rw[decide_eq_false z];rfl⟩),e,l⟩
 refine⟨I,fun f L=>C _ _ (h.fst f L),fun a ha n hn=> ?_⟩;rcases Pw.mp ha with ha|ha
 .exact C _ _ (h.nxt a ha n hn)
 .rw[Pk.mp ha] at hn
  obtain⟨_,t⟩:=pX E i hn;by_cases z:n.r∈(W++[b]).map (·.1)
  .obtain⟨q,d,e⟩:=Pn.mp z
   refine⟨q,Qs _ d,e,Pp ?_ t⟩;rcases Pw.mp d with d|d
   .exact h.iv.le q d b hb
   .rw[Pk.mp d];exact O8 _
  .obtain⟨q,d,e,l⟩:=H n (QD.mpr ⟨hn,by rw[decide_eq_false z];rfl⟩);exact⟨q,PM _ d,e,l⟩
def Fn (B:List Wd):List Rs:=B.flatMap fun e=>[e.2,e.2.drop 1,e.2.drop 2,e.2.drop 3,e.2.drop 4,e.2.drop 5,e.2.drop 6]
theorem xP {B:List Wd} (f:BB B) {q:Rs×Wy} (h:YQ B q):q.1∈Fn B:=by
 obtain⟨e,a,c,b⟩:=h.s;have g:=f.s6 e a;have i:q.1=e.2.drop c.length:=by rw[b,Rb]
 have d:c.length<=6:=by rw[b,OZ] at g;omega
 refine Uh.mpr ⟨e,a,?_⟩;rw[i]
 match c.length,d with
 |0,_=>simp
 |1,_=>simp
 |2,_=>simp
 |3,_=>simp
 |4,_=>simp
 |5,_=>simp
 |6,_=>simp
 |n+7,h=>omega
theorem wH {α:Type} [DecidableEq α]:∀{a b:List α},a.Nodup->(∀x∈a,x∈b)->a.length<=b.length
 |[],_,_,_=>Qb _
 |x::a,b,hn,hs=>by rw[Qr] at hn;have:=wH (a:=a) (b:=b.erase x) hn.2 fun y c=>(List.mem_erase_of_ne (fun e:y=x=>hn.1 (by rw[<-e];exact c))).mpr (hs y (Pl _ c));have d:=hs x (Pr ..);rw[List.length_erase_of_mem d] at this;have:0<b.length:=WX d;rw[Pf];omega
theorem wj:∀B:List Wd,(Fn B).length=7*B.length
 |[]=>rfl
 |e::r=>by have:=wj r;unfold Fn at*;rw[Yv,OZ,this,Pf];simp;omega
theorem kO {B:List Wd} (f:BB B) {W O:Mp} (h:Iv B W O):W.length+O.length<=140:=by
 have nd:((W++O).map (·.1)).Nodup:=by rw[PB];refine SW.mpr ⟨h.wn,h.on,fun x d y g e=> ?_⟩;obtain⟨a,ha,rfl⟩:=Pn.mp d;obtain⟨b,i,rfl⟩:=Pn.mp g;exact h.dj a ha b i e
 have:=wH (b:=Fn B) nd fun x d=>by
  obtain⟨q,c,rfl⟩:=Pn.mp d;rcases Pw.mp c with c|c
  .exact xP f (h.wk q c)
  .exact xP f (h.ok q c)
 rw[wj,OX,OZ] at this;have:=f.Xg;omega
theorem ou {a b c d:Rs} (h:a++c=b++d) (e:a.length<=b.length):∃o,b=a++o/\c=o++d:=by
 have h1:b=a++b.drop a.length:=by
  have:=congrArg (List.take a.length) h;rw[ZY,List.take_append_of_le_length e] at this
  conv=>lhs;rw[<-QH a.length b]
  rw[<-this]
 refine⟨b.drop a.length,h1,?_⟩;rw[h1,PR] at h;exact Uc h
section
variable {B:List Wd} {G:Rs->Nat->Prop}
theorem MZ (I:BB B) (mono:∀r p q,G r p->p<=q->G r q)
  (E:∀r p,r≠[]->G r p->∀e∈B,(bg e.2 r=Pb->G (r.drop e.2.length) p)/\(¬bg e.2 r=Pb->bg r e.2=Pb->G (e.2.drop r.length) (p+(e.2.drop r.length).length))):
  ∀(n:Nat) (xs ys:List (List Nat)) (r:Rs) (p:Nat),xs.length+ys.length=n->jr B xs->jr B ys->wr B ys=r++wr B xs->G r p->G [] (p+(wr B xs).length):=by
 intro n
 induction n with
 |zero=>intro xs ys r p hn l j h g;have b:xs=[]:=SG.mp (by omega);have d:ys=[]:=SG.mp (by omega);subst b d;rw[jK,PY] at h;rw[<-h] at g;exact g
 |succ n v=>
  intro xs ys r p hn l j h g;by_cases i:r=[]
  .subst i;exact mono _ _ _ g (by omega)
  .cases ys with
   |nil=>rw[jK] at h;exact absurd (List.append_eq_nil_iff.mp h.symm).1 i
   |cons w ys=>
    obtain⟨s,A⟩:=gU (j w (Pr ..));have hm:=c8 A;have f:jr B ys:=fun z F=>j z (Pl _ F);rw[dM,A] at h;have h:s++wr B ys=r++wr B xs:=h;rw[Pf] at hn;by_cases C:s.length<=r.length
    .obtain⟨o,b,d⟩:=ou h C
     have t:bg s r=Pb:=jg.mpr ⟨o,b⟩;have a:=(E r p i g (w,s) hm).1 t;have u:r.drop s.length=o:=by rw[b,Rb]
     have a:G o p:=by rw[<-u];exact a
     exact v xs ys o p (by omega) l f d a
    .obtain⟨o,b,d⟩:=ou h.symm (by omega)
     have t:bg r s=Pb:=jg.mpr ⟨o,b⟩;have m:¬bg s r=Pb:=fun z=>by obtain⟨c,H⟩:=jg.mp z;rw[H,OZ] at C;omega
     have a:=(E r p i g (w,s) hm).2 m t;have u:s.drop r.length=o:=by rw[b,Rb]
     have a:G o (p+o.length):=by rw[<-u];exact a
     have:=v ys xs o (p+o.length) (by omega) f l d a;rw[d,OZ,<-WG];exact this
theorem Mj (m:BB B) (mono:∀r p q,G r p->p<=q->G r q) (h1:∀f∈cO B,G f.r f.p)
  (M:∀r p,r≠[]->G r p->∀e∈B,(bg e.2 r=Pb->G (r.drop e.2.length) p)/\(¬bg e.2 r=Pb->bg r e.2=Pb->G (e.2.drop r.length) (p+(e.2.drop r.length).length))):
  ∀(X Y:List (List Nat)),jr B X->jr B Y->X≠Y->wr B X=wr B Y->G [] (wr B X).length:=by
 have N:∀{a b:List Nat} {d c o:Rs},(a,d)∈B->(b,c)∈B->a≠b->c=d++o->G o c.length:=by
  intro a b d c o ha S j e;have:=h1 ⟨c.length,c.drop d.length,[b],[a]⟩ (Uh.mpr ⟨(a,d),ha,QB.mpr ⟨(b,c),S,by unfold bA;rw[if_pos ⟨j,jg.mpr ⟨o,e⟩⟩]⟩⟩);have T:c.drop d.length=o:=by rw[e,Rb]
  rw[<-T];exact this
 intro X
 induction X with
 |nil=>
  intro Y _ l j h;cases Y with
  |nil=>exact absurd rfl j
  |cons b Y=>obtain⟨s,L⟩:=gU (l b (Pr ..));rw[dM,L,jK] at h;have C:=congrArg QY h;have A:=m.s1 _ (c8 L);dsimp only at A;rw[Vh,OZ,Q0] at C;omega
 |cons a X O=>
  intro Y K l j h;obtain⟨d,t⟩:=gU (K a (Pr ..));have v:=c8 t;have i:jr B X:=fun z w=>K z (Pl _ w);cases Y with
  |nil=>rw[dM,t,jK] at h;have C:=congrArg QY h;have A:=m.s1 _ v;dsimp only at A;rw[Vh,OZ,Q0] at C;omega
  |cons b Y=>
   obtain⟨c,n⟩:=gU (l b (Pr ..));have J:=c8 n;have g:jr B Y:=fun z w=>l z (Pl _ w);have u:wr B (a::X)=d++wr B X:=by rw[dM,t];rfl
   have I:wr B (b::Y)=c++wr B Y:=by rw[dM,n];rfl
   have Q:=h;rw[u,I] at h;by_cases H:a=b
   .subst H;rw[t] at n;cases n;have:=O Y i g (fun z=>j (by rw[z])) (Uc h);exact mono _ _ _ this (by rw[u,OZ];omega)
   .by_cases P:d.length<=c.length
    .obtain⟨o,F,E⟩:=ou h P;have:=MZ m mono M _ Y X o c.length rfl g i E (N v J H F);rw[Q,I,OZ];exact this
    .obtain⟨o,F,E⟩:=ou h.symm (by omega);have:=MZ m mono M _ X Y o d.length rfl i g E (N J v (Ne.symm H) F);rw[u,OZ];exact this
end
theorem Jx {B:List Wd} (A:BB B) {W:Mp} (h:Full B W []) {X Y:List (List Nat)} (u:jr B X) (t:jr B Y) (C:X≠Y) (e:wr B X=wr B Y):Gt W [] (wr B X).length:=by
 have o:=h.fst;have m:=h.nxt;rw[PY] at o m;refine Mj A (G:=Gt W) (fun r p q ⟨z,h1,b,a⟩ l=>⟨z,h1,b,Pp a l⟩) o (fun r p v ⟨q,i,e,l⟩ f w=> ?_) X Y u t C e;have j:=(h.iv.wk q i).k;have c:q.2.r≠[]:=by rw[j,e];exact v
 have nm:∀{n:Wy},nx q.2 f=lD n->Gt W n.r n.p:=fun{n} hn=>m q i n (by unfold c9;rw[if_neg c];exact QB.mpr ⟨f,w,hn⟩);have er:q.2.r=r:=j.trans e;refine⟨fun g=> ?_,fun d g=> ?_⟩
 .have:=nm (n:=⟨q.2.p,q.2.r.drop f.2.length,q.2.lo,q.2.sh++[f.1]⟩) (by unfold nx;rw[if_pos (by rw[er];exact g)]);obtain⟨z,h1,b,a⟩:=this;exact⟨z,h1,by rw[b];show q.2.r.drop f.2.length=_;rw[er],Pp a l⟩
 .have:=nm (n:=⟨q.2.p+(f.2.drop q.2.r.length).length,f.2.drop q.2.r.length,q.2.sh++[f.1],q.2.lo⟩) (by unfold nx;rw[if_neg (by rw[er];exact d),if_pos (by rw[er];exact g)]);obtain⟨z,h1,b,a⟩:=this;refine⟨z,h1,by rw[b];show f.2.drop q.2.r.length=_;rw[er],Pp a ?_⟩;show q.2.p+(f.2.drop q.2.r.length).length<=_;rw[er];omega
theorem mN (a b:Rs):fK [sD a,sD b]= .ok (.fz (.bool (bg a b))):=by
 unfold fK ql;have c:=fT a;have ct:qp (sD b) Ld (lD (a.length:Int))=lD (.fz (sD (b.take a.length))):=by unfold sD;rw[xz,Tc]
 have eq:=oX (b.take a.length) a;exact jl (ρ:=[lD (.fz (sD a)),lD (.fz (sD b))]) rfl (cL (df (b:=bg a b) (jS (rv:= .fz (sD (b.take a.length))) (ae rfl) ei (cN (cX (rv:= .fz (nd a.length)) (aj (ae rfl) aC) rfl c) rfl) rfl ct) (ae rfl) rfl rfl eq) rfl rfl)
theorem sI (b:Rs) (n:Nat):qp (sD b) (lD (n:Int)) Ld=lD (.fz (sD (b.drop n))):=by unfold sD;rw[wJ,TV]
theorem MM {a b:List Nat} (ha:∀c∈a,c<1114112) (hb:∀c∈b,c<1114112):vE (tD a) (tD b)=lD (.fz (.bool (!decide (a=b)))):=by unfold vE tD;rw[if_pos,oz];unfold Ce;rw[O9.canLay0,O9.canLay0,nu ha,nu hb];rfl
theorem xY {B:List Wd} {i:Nat} {d:D} (h:(B.map wD)[i]? =lD d):∃e,B[i]? =lD e/\d=wD e:=by rw[Pg] at h;obtain⟨e,h1,a⟩:=Qz.mp h;exact⟨e,h1,a.symm⟩
theorem l6 {α:Type} {l:List α} {i:Nat} {e:α} (h:l[i]? =lD e):l.take (i+1)=l.take i++[e]:=by rw[Vi,h];rfl
theorem oW {α a:Type} (f:α->Option a) (l:List α):(l.filterMap f).length<=l.length:=List.length_filterMap_le f l
theorem EH {α a:Type} (f:α->Option a) (x:α):[x].filterMap f=match f x with|some w=>[w]|none=>[]:=by rw[RG,Ye];cases f x<;>rfl
theorem qz {α a:Type} (f:α->List a) (n:Nat) (h:∀x,(f x).length<=n):∀l:List α,(l.flatMap f).length<=n*l.length
 |[]=>by simp
 |x::r=>by have:=qz f n h r;have:=h x;rw[Yv,OZ,Pf,Nat.mul_add,Nat.mul_one];omega
theorem xV {B:List Wd} (b:BB B):(cO B).length<=400:=by have:=qz (fun e=>B.filterMap (bA e)) B.length (fun e=>oW _ _) B;have a:=b.Xg;have:B.length*B.length<=20*20:=TF a a;unfold cO;omega
theorem EB {B:List Wd} (l:BB B):eu [aF B]= .ok (.ow ((cO B).map bN)):=by
 refine jl (ρ:=[lD (.fz (aF B)),Ld,Ld,Ld,Ld,Ld]) rfl ?_;unfold jk;refine a5 (pv:= .ow []) (ρ3:=[lD (.fz (aF B)),lD (.ow []),Ld,Ld,Ld,Ld]) (by walk_at "evp") rfl rfl ?_;refine eU (fun i ρ=>∃n m c a,ρ=[lD (.fz (aF B)),lD (.ow (((B.take i).flatMap fun e=>B.filterMap (bA e)).map bN)),n,m,c,a]) (ds:=B.map wD) (ρ1:=[lD (.fz (aF B)),lD (.ow []),Ld,Ld,Ld,Ld]) (gK (d:=aF B) (ae rfl) rfl rfl) ⟨Ld,Ld,Ld,Ld,rfl⟩ ?_ ?_
 .rintro i d ρ o ⟨n,m,c,a,rfl⟩
  obtain⟨e,r,rfl⟩:=xY o;have A:=Pu r;refine⟨_,rfl,?_⟩;have C:((B.take i).flatMap fun e=>B.filterMap (bA e)).length<=400:=by
   have h1:=qz (fun e=>B.filterMap (bA e)) B.length (fun e=>oW _ _) (B.take i);have u:=l.Xg;have t:(B.take i).length<=20:=by rw[Qj];omega
   have:B.length*(B.take i).length<=20*20:=TF u t;omega
  have v:(B.take (i+1)).flatMap (fun e=>B.filterMap (bA e))=((B.take i).flatMap fun e=>B.filterMap (bA e))++B.filterMap (bA e):=by rw[l6 r,List.flatMap_append];simp
  generalize ((B.take i).flatMap fun e=>B.filterMap (bA e))=P at C v;refine yl (fun j ρ=>∃c a,ρ=[lD (.fz (aF B)),lD (.ow ((P++(B.take j).filterMap (bA e)).map bN)),lD (.fz (tD e.1)),lD (.fz (sD e.2)),c,a]) (ds:=B.map wD) (ρ1:=[lD (.fz (aF B)),lD (.ow (P.map bN)),lD (.fz (tD e.1)),lD (.fz (sD e.2)),c,a]) (gK (d:=aF B) (ae rfl) rfl rfl) ⟨c,a,by rw[UG,Ye,PY]⟩ ?_ ?_
  .rintro j d ρ o ⟨c,a,rfl⟩
   obtain⟨f,q,rfl⟩:=xY o;have z:=Pu q;refine⟨_,rfl,?_⟩;have h:P++(B.take (j+1)).filterMap (bA e)=P++(B.take j).filterMap (bA e)++(match bA e f with|some w=>[w]|none=>[]):=by rw[l6 q,W7,PR];rw[EH];cases bA e f<;>rfl
   have E:(P++(B.take j).filterMap (bA e)).length<=420:=by
    have h1:=oW (bA e) (B.take j);have u:=l.Xg;have t:(B.take j).length<=20:=by rw[Qj];omega
    rw[OZ];omega
   generalize P++(B.take j).filterMap (bA e)=M at h E;have ne:=MM (l.wc e A) (l.wc f z);have H:=mN e.2 f.2;refine nv (b:= !decide (e.1=f.1)&&bg e.2 f.2) (tZ (bu (df (ae rfl) (ae rfl) rfl rfl ne) rfl) fun _=>bu (i8 (aj (ae rfl) (aj (ae rfl) aC)) rfl rfl H) rfl) (fun g=> ?_) fun g=> ?_
   .rw[PN,Bool.not_eq_true',decide_eq_false_iff_not] at g
    have p:bA e f=lD ⟨f.2.length,f.2.drop e.2.length,[f.1],[e.1]⟩:=by unfold bA;rw[if_pos g]
    rw[p] at h;have l1:=fT f.2;have F:=fT e.2;have ct:=sI f.2 e.2.length;refine fZ (hV (d:=bN ⟨f.2.length,f.2.drop e.2.length,[f.1],[e.1]⟩) (x:=[lD (.fz (aF B)),lD (.ow (M.map bN++[bN ⟨f.2.length,f.2.drop e.2.length,[f.1],[e.1]⟩])),lD (.fz (tD e.1)),lD (.fz (sD e.2)),lD (.fz (tD f.1)),lD (.fz (sD f.2))]) rfl (dU (ds:=[nd f.2.length,sD (f.2.drop e.2.length),.tuple [tD f.1],.tuple [tD e.1]]) (aj (cX (rv:= .fz (nd f.2.length)) (aj (ae rfl) aC) rfl l1) (aj (jS (rv:= .fz (sD (f.2.drop e.2.length))) (ae rfl) (cN (cX (rv:= .fz (nd e.2.length)) (aj (ae rfl) aC) rfl F) rfl) ei rfl ct) (aj (dU (ds:=[tD f.1]) (aj (ae rfl) aC) rfl (P4 rfl)) (aj (dU (ds:=[tD e.1]) (aj (ae rfl) aC) rfl (P4 rfl)) aC)))) rfl (P4 rfl)) rfl rfl (by rw[OX];omega) rfl) ⟨_,_,by rw[h,PB];rfl⟩
   .have p:bA e f=Ld:=by
     unfold bA;rw[if_neg];rintro⟨h1,G⟩;rw[decide_eq_false h1,G] at g;cases g
    rw[p] at h;exact jh ⟨_,_,by rw[h,PY];rfl⟩
  .rintro ρ ⟨c,a,rfl⟩;refine⟨lD (.fz (tD e.1)),lD (.fz (sD e.2)),c,a,?_⟩;rw[v,OX,QF]
 .rintro ρ ⟨n,m,c,a,rfl⟩;rw[OX,QF];exact cL (eO rfl) rfl rfl
theorem M0 (w:Wy):dR (bN w) (.int 0)=lD (.fz (nd w.p))/\dR (bN w) (.int 1)=lD (.fz (sD w.r))/\dR (bN w) (.int 2)=lD (.fz (.tuple (w.lo.map tD)))/\dR (bN w) (.int 3)=lD (.fz (.tuple (w.sh.map tD))):=⟨rfl,rfl,rfl,rfl⟩
theorem Cu (a b:Nat):bZ (nd a) (nd b)=lD (.fz (nd (a+b))):=rfl
theorem GD {B:List Wd} (F:BB B) {w:Wy} (h1:w.sh≠[]) (P:w.sh.length<=1000):fG [aF B,bN w]= .ok (.ow ((c9 B w).map bN)):=by
 obtain⟨t,q,n,m⟩:=M0 w;refine jl (ρ:=[lD (.fz (aF B)),lD (.fz (bN w)),Ld,Ld,Ld,Ld,Ld,Ld]) rfl ?_;unfold jv;refine a5 (pv:= .fz (nd w.p)) (ρ3:=[lD (.fz (aF B)),lD (.fz (bN w)),lD (.fz (nd w.p)),Ld,Ld,Ld,Ld,Ld]) (bf (rv:= .fz (nd w.p)) (ae rfl) bI rfl rfl t) rfl rfl ?_;refine a5 (pv:= .fz (sD w.r)) (ρ3:=[lD (.fz (aF B)),lD (.fz (bN w)),lD (.fz (nd w.p)),lD (.fz (sD w.r)),Ld,Ld,Ld,Ld]) (bf (rv:= .fz (sD w.r)) (ae rfl) bI rfl rfl q) rfl rfl ?_;have G:=oX w.r [];refine kw (b:=decide (w.r=[])) (bu (df (dy:=sD []) (ae rfl) (dU (ds:=[]) aC rfl (Qb _)) rfl rfl G) rfl) (fun a=> ?_) fun a=>dB ?_
 .have e:c9 B w=[]:=by unfold c9;rw[if_pos (of_decide_eq_true a)]
  rw[e];exact pV (pv:= .ow []) (by walk_at "evp") rfl rfl
 have H:c9 B w=B.filterMap (nx w):=by unfold c9;rw[if_neg (of_decide_eq_false a)]
 rw[H];refine a5 (pv:= .ow []) (ρ3:=[lD (.fz (aF B)),lD (.fz (bN w)),lD (.fz (nd w.p)),lD (.fz (sD w.r)),lD (.ow []),Ld,Ld,Ld]) (by walk_at "evp") rfl rfl ?_;refine eU (fun i ρ=>∃j h g,ρ=[lD (.fz (aF B)),lD (.fz (bN w)),lD (.fz (nd w.p)),lD (.fz (sD w.r)),lD (.ow (((B.take i).filterMap (nx w)).map bN)),j,h,g]) (ds:=B.map wD) (ρ1:=[lD (.fz (aF B)),lD (.fz (bN w)),lD (.fz (nd w.p)),lD (.fz (sD w.r)),lD (.ow []),Ld,Ld,Ld]) (gK (d:=aF B) (ae rfl) rfl rfl) ⟨Ld,Ld,Ld,rfl⟩ ?_ ?_
 .rintro i d ρ E ⟨j,h,g,rfl⟩
  obtain⟨e,C,rfl⟩:=xY E;refine⟨_,rfl,?_⟩;have c:(B.take (i+1)).filterMap (nx w)=(B.take i).filterMap (nx w)++(match nx w e with|some w=>[w]|none=>[]):=by rw[l6 C,W7];rw[EH];cases nx w e<;>rfl
  have u:((B.take i).filterMap (nx w)).length<=20:=by have h1:=oW (nx w) (B.take i);have O:=F.Xg;rw[Qj] at h1;omega
  generalize (B.take i).filterMap (nx w)=M at c u;have L:=mN e.2 w.r;have K:=mN w.r e.2;have l1:=fT e.2;have A:=fT w.r;have J:=sI w.r e.2.length;have I:=sI e.2 w.r.length;have v:=fT (e.2.drop w.r.length);have o:bZ (.tuple (w.sh.map tD)) (.tuple [tD e.1])=lD (.fz (.tuple ((w.sh++[e.1]).map tD))):=by show(if w.sh.map tD≠[]/\(w.sh.map tD).length+1<=1000000 then _ else _)=_;rw[if_pos ⟨by intro z;exact h1 (List.map_eq_nil_iff.mp z),by rw[OX];omega⟩,PB];rfl
  have N:=Cu w.p (e.2.drop w.r.length).length;refine nv (b:=bg e.2 w.r) (bu (i8 (aj (ae rfl) (aj (ae rfl) aC)) rfl rfl L) rfl) (fun a=> ?_) fun a=> ?_
  .have f:nx w e=lD ⟨w.p,w.r.drop e.2.length,w.lo,w.sh++[e.1]⟩:=by unfold nx;rw[if_pos a]
   rw[f] at c;refine fZ (hV (d:=bN ⟨w.p,w.r.drop e.2.length,w.lo,w.sh++[e.1]⟩) (x:=[lD (.fz (aF B)),lD (.fz (bN w)),lD (.fz (nd w.p)),lD (.fz (sD w.r)),lD (.ow (M.map bN++[bN ⟨w.p,w.r.drop e.2.length,w.lo,w.sh++[e.1]⟩])),lD (.fz (tD e.1)),lD (.fz (sD e.2)),g]) rfl (dU (ds:=[nd w.p,sD (w.r.drop e.2.length),.tuple (w.lo.map tD),.tuple ((w.sh++[e.1]).map tD)]) (aj (ae rfl) (aj (jS (rv:= .fz (sD (w.r.drop e.2.length))) (ae rfl) (cN (cX (rv:= .fz (nd e.2.length)) (aj (ae rfl) aC) rfl l1) rfl) ei rfl J) (aj (bf (rv:= .fz (.tuple (w.lo.map tD))) (ae rfl) bI rfl rfl n) (aj (bf (rv:= .fz (.tuple ((w.sh++[e.1]).map tD))) (dx:= .tuple (w.sh.map tD)) (dy:= .tuple [tD e.1]) (bf (rv:= .fz (.tuple (w.sh.map tD))) (ae rfl) bI rfl rfl m) (dU (ds:=[tD e.1]) (aj (ae rfl) aC) rfl (P4 rfl)) rfl rfl o) aC)))) rfl (P4 rfl)) rfl rfl (by rw[OX];omega) rfl) ⟨_,_,_,by rw[c,PB];rfl⟩
  .refine nv (b:=bg w.r e.2) (bu (i8 (aj (ae rfl) (aj (ae rfl) aC)) rfl rfl K) rfl) (fun l=> ?_) fun l=> ?_
   .have f:nx w e=lD ⟨w.p+(e.2.drop w.r.length).length,e.2.drop w.r.length,w.sh++[e.1],w.lo⟩:=by unfold nx;rw[if_neg (by rw[a];simp),if_pos l]
    rw[f] at c;refine a5 (pv:= .fz (sD (e.2.drop w.r.length))) (ρ3:=[lD (.fz (aF B)),lD (.fz (bN w)),lD (.fz (nd w.p)),lD (.fz (sD w.r)),lD (.ow (M.map bN)),lD (.fz (tD e.1)),lD (.fz (sD e.2)),lD (.fz (sD (e.2.drop w.r.length)))]) (jS (rv:= .fz (sD (e.2.drop w.r.length))) (ae rfl) (cN (cX (rv:= .fz (nd w.r.length)) (aj (ae rfl) aC) rfl A) rfl) ei rfl I) rfl rfl ?_;refine fZ (hV (d:=bN ⟨w.p+(e.2.drop w.r.length).length,e.2.drop w.r.length,w.sh++[e.1],w.lo⟩) (x:=[lD (.fz (aF B)),lD (.fz (bN w)),lD (.fz (nd w.p)),lD (.fz (sD w.r)),lD (.ow (M.map bN++[bN ⟨w.p+(e.2.drop w.r.length).length,e.2.drop w.r.length,w.sh++[e.1],w.lo⟩])),lD (.fz (tD e.1)),lD (.fz (sD e.2)),lD (.fz (sD (e.2.drop w.r.length)))]) rfl (dU (ds:=[nd (w.p+(e.2.drop w.r.length).length),sD (e.2.drop w.r.length),.tuple ((w.sh++[e.1]).map tD),.tuple (w.lo.map tD)]) (aj (bf (rv:= .fz (nd (w.p+(e.2.drop w.r.length).length))) (ae rfl) (cX (rv:= .fz (nd (e.2.drop w.r.length).length)) (aj (ae rfl) aC) rfl v) rfl rfl N) (aj (ae rfl) (aj (bf (rv:= .fz (.tuple ((w.sh++[e.1]).map tD))) (dx:= .tuple (w.sh.map tD)) (dy:= .tuple [tD e.1]) (bf (rv:= .fz (.tuple (w.sh.map tD))) (ae rfl) bI rfl rfl m) (dU (ds:=[tD e.1]) (aj (ae rfl) aC) rfl (P4 rfl)) rfl rfl o) (aj (bf (rv:= .fz (.tuple (w.lo.map tD))) (ae rfl) bI rfl rfl n) aC)))) rfl (P4 rfl)) rfl rfl (by rw[OX];omega) rfl) ⟨_,_,_,by rw[c,PB];rfl⟩
   .have f:nx w e=Ld:=by unfold nx;rw[if_neg (by rw[a];simp),if_neg (by rw[l];simp)]
    rw[f] at c;exact jh ⟨_,_,_,by rw[c,PY];rfl⟩
 .rintro ρ ⟨j,h,g,rfl⟩;rw[OX,QF];exact cL (eO rfl) rfl rfl
def Oy:Option D->SV->SV
 |some d,_=> .fz d
 |none,z=>z
section
variable {ρ ρ1:aX} {ω ω1 ω2 ω3:aW} {x y z:SV} {i:Nat} {d:D} {kvs:List (D×D)}
theorem jH (h:ω[i]? =lD (.dd kvs)):gZ ω (.rf i)=lD (i,kvs):=by unfold gZ;dsimp only;rw[h]
theorem oK {neg:Bool} {fk fd:cE} {k:D} (a:fk ρ ω= .ok x ω1) (b:fd ρ ω1= .ok (.rf i) ω2) (h1:ik x=lD k) (c:ω2[i]? =lD (.dd kvs)):pA neg fk fd ρ ω= .ok (.fz (.bool ((bS kvs k).isSome !=neg))) ω2:=by unfold pA;rw[a,RS.bind_ok,b,RS.bind_ok,h1];show((RS.Qi ω2 (gZ ω2 (.rf i))).bind _)=_;rw[jH c];rfl
theorem pB {fd fk:cE} {k:D} (b:fd ρ ω= .ok (.rf i) ω1) (a:fk ρ ω1= .ok x ω2) (h1:ik x=lD k) (e:ω2[i]? =lD (.dd kvs)) (c:bS kvs k=lD d):iR fd fk ρ ω= .ok (.fz d) ω2:=by unfold iR;rw[b,RS.bind_ok,a,RS.bind_ok,h1];show((RS.Qi ω2 (gZ ω2 (.rf i))).bind _)=_;rw[jH e];show((RS.Qi ω2 (bS kvs k)).bind _)=_;rw[c];rfl
theorem vX {fd fk a:cE} {k:D} (b:a ρ ω= .ok (.fz d) ω1) (f:fd ρ ω1= .ok (.rf i) ω2) (e:fk ρ ω2= .ok x ω3) (h1:ik x=lD k) (g:ω3[i]? =lD (.dd kvs)) (c:kvs.length<1000000):pF fd fk a ρ ω= .ok (.nx ρ) (ω3.set i (.dd (jP kvs k d))):=by unfold pF;rw[b,RS.bind_ok,f,RS.bind_ok,e,RS.bind_ok,h1];show((RS.Qi ω3 (gZ ω3 (.rf i))).bind _)=_;rw[jH g];show(if kvs.length<1000000 then _ else _)=_;rw[if_pos c]
theorem Bw {fd fk fx:cE} {k:D} {f:List (D×D)} (c:fd ρ ω= .ok (.rf i) ω1) (h0:ω1[i]? =lD (.dd f)) (b:fk ρ ω1= .ok x ω2) (a:fx ρ ω2= .ok z ω3) (h1:ik x=lD k) (e:ω3[i]? =lD (.dd kvs)):ox fd fk fx ρ ω= .ok (Oy (bS kvs k) z) ω3:=by unfold ox;rw[c,RS.bind_ok,jH h0];show((fk ρ ω1).bind _)=_;rw[b,RS.bind_ok,a,RS.bind_ok,h1];show((RS.Qi ω3 (gZ ω3 (.rf i))).bind _)=_;rw[jH e];show RS.ok (match bS kvs k with|some d=>SV.fz d|none=>z) ω3=_;cases bS kvs k<;>rfl
theorem E7 {fd fk:cE} {k:D} {f:List (D×D)} (b:fd ρ ω= .ok (.rf i) ω1) (h0:ω1[i]? =lD (.dd f)) (a:fk ρ ω1= .ok x ω2) (h1:ik x=lD k) (e:ω2[i]? =lD (.dd kvs)) (c:bS kvs k=lD d):u5 fd fk ρ ω= .ok (.fz d) (ω2.set i (.dd (kI kvs k))):=by unfold u5;rw[b,RS.bind_ok,jH h0];show((fk ρ ω1).bind _)=_;rw[a,RS.bind_ok,h1];show((RS.Qi ω2 (gZ ω2 (.rf i))).bind _)=_;rw[jH e];show((RS.Qi ω2 (bS kvs k)).bind _)=_;rw[c];rfl
theorem Gz {fd:cE} (a:fd ρ ω= .ok (.rf i) ω1) (b:ω1[i]? =lD (.dd kvs)):AC fd ρ ω= .ok (.fz (.bool (!kvs.isEmpty))) ω1:=by unfold AC;rw[a,RS.bind_ok,jH b];rfl
theorem DR {fd:cE} (b:fd ρ ω= .ok (.rf i) ω1) (c:ω1[i]? =lD (.dd kvs)) (a:LD.V9 (kvs.map (·.2))=Pb) (hm:(kvs.map (·.2))[LD.WM (kvs.map (·.2))]? =lD d):uB fd ρ ω= .ok (.fz d) ω1:=by unfold uB;rw[b,RS.bind_ok,jH c];show(if LD.V9 (kvs.map (·.2))=Pb then((RS.Qi ω1 ((kvs.map (·.2))[LD.WM (kvs.map (·.2))]?)).bind _) else _)=_;rw[if_pos a,hm];rfl
theorem lR {F:qN} {n:Nat} {fa:AR} {xs:List SV} (ha:fa ρ ω= .ok xs ω1) (hn:xs.length=n) (a:F xs ω1= .ok x ω2):kC F n fa ρ ω= .ok x ω2:=by unfold kC;rw[ha,RS.bind_ok,if_pos hn,a,pq]
end
def d8 (M:Mp):List (D×D):=M.map fun q=>(sD q.1,bN q.2)
theorem gX (a b:Rs):O9.eqv (sD a) (sD b)=decide (a=b):=by unfold sD;rw[O9.eqv];exact tm a b
theorem je (M:Mp) (r:Rs):bS (d8 M) (sD r)=(fq M r).map bN:=by
 unfold bS fq d8
 induction M with
 |nil=>rfl
 |cons q M a=>
  rw[Pd,PL,PL,gX];by_cases e:q.1=r
  .rw[decide_eq_true e];rfl
  .rw[decide_eq_false e];exact a
theorem EV (M:Mp) (r:Rs):((d8 M).find? fun kv=>O9.eqv kv.1 (sD r)).isSome=(M.find? fun q=>decide (q.1=r)).isSome:=by
 unfold d8
 induction M with
 |nil=>rfl
 |cons q M a=>
  rw[Pd,PL,PL,gX];by_cases e:q.1=r
  .rw[decide_eq_true e];rfl
  .rw[decide_eq_false e];exact a
theorem zu (M:Mp) (r:Rs) (w:Wy):jP (d8 M) (sD r) (bN w)=d8 (kQ M r w):=by
 unfold jP kQ;rw[EV];split
 .unfold d8
  rw[Qf,Qf];apply UQ;intro q _;show(if O9.eqv (sD q.1) (sD r)=Pb then(sD q.1,bN w) else(sD q.1,bN q.2))=_;rw[gX];by_cases e:q.1=r
  .rw[if_pos (decide_eq_true e)];show _=(sD (if q.1=r then(q.1,w) else q).1,bN (if q.1=r then(q.1,w) else q).2);rw[if_pos e]
  .rw[if_neg (by simpa using e)];show _=(sD (if q.1=r then(q.1,w) else q).1,bN (if q.1=r then(q.1,w) else q).2);rw[if_neg e]
 .unfold d8;rw[PB];rfl
theorem Dp (M:Mp) (r:Rs):kI (d8 M) (sD r)=d8 (gS M r):=by unfold kI gS d8;rw[List.filter_map];congr 1;apply List.filter_congr;intro q _;show(!O9.eqv (sD q.1) (sD r))=_;rw[gX]
theorem z8:∀l:List Int,LD.kds (l.map O9.int)=Pb
 |[]=>by rw[Qe,LD.kds]
 |i::r=>by rw[Pd,LD.kds,LD.kd,z8 r];rfl
theorem IZ:∀l:Rs,LD.kds (l.map kD)=Pb
 |[]=>by rw[Qe,LD.kds]
 |i::r=>by rw[Pd,LD.kds,IZ r];unfold kD;rw[LD.kd,z8];rfl
theorem fS (r:Rs):ik (.fz (sD r))=lD (sD r):=by show(if LD.keyD (sD r)=Pb then lD (sD r) else Ld)=_;rw[if_pos];unfold sD;rw[LD.keyD,IZ,Sy];apply decide_eq_true;rw[O9.depth];have:=qm r;omega
theorem lZ:∀{L:List (List Nat)},(∀l∈L,∀c∈l,c<1114112)->O9.canLayAll0 (L.map tD)=Pb
 |[],_=>by rw[Qe,O9.canLayAll0]
 |l::r,h=>by rw[Pd,O9.canLayAll0,lZ fun x a=>h x (Pl _ a)];unfold tD;rw[O9.canLay0,nu (h l (Pr ..))];rfl
theorem oi:∀L:List (List Nat),O9.depthAll (L.map tD)=0
 |[]=>by rw[Qe,O9.depthAll]
 |l::r=>by rw[Pd,O9.depthAll,oi r];unfold tD;rw[O9.depth];rfl
def kt (L:List (List Nat)):Prop:=∀l∈L,∀c∈l,c<1114112
theorem eI {B:List Wd} (f:BB B) {L:List (List Nat)} (h:jr B L):kt L:=fun l a c d=>by obtain⟨e,b,rfl⟩:=Pn.mp (h l a);exact f.wc e b c d
theorem Lk {w:Wy} (h1:kt w.lo) (a:kt w.sh):(bN w).canLay0=Pb/\(bN w).depth<=32:=by
 unfold bN sD nd;constructor
 .rw[O9.canLay0,O9.canLayAll0,O9.canLayAll0,O9.canLayAll0,O9.canLayAll0,O9.canLayAll0,O9.canLay0,O9.canLay0,O9.canLay0,O9.canLay0,o7,lZ h1,lZ a];rfl
 .rw[O9.depth,O9.depthAll,O9.depthAll,O9.depthAll,O9.depthAll,O9.depthAll,O9.depth,O9.depth,O9.depth,O9.depth,oi,oi];have:=qm w.r;omega
theorem DQ {L:List Wy} (h:∀w∈L,kt w.lo/\kt w.sh):LD.V9 (L.map bN)=Pb:=by unfold LD.V9;rw[Qk];intro a ha;obtain⟨w,c,rfl⟩:=Pn.mp ha;obtain⟨h1,f⟩:=Lk (h w c).1 (h w c).2;rw[h1,decide_eq_true f,Sy,Sy,Qk];intro b e;obtain⟨v,_,rfl⟩:=Pn.mp e;obtain⟨r,d,_⟩:=En w v;rw[d];rfl
theorem AN (L:List Wy):∀k,k<L.length->∃(m:Nat) (b:Wy),argBest (LD.WC (L.map bN)) k=m/\m<=k/\L[m]? =lD b/\∀(j:Nat) (w:Wy),j<=k->L[j]? =lD w->b.p<=w.p
 |0,h=>⟨0,L[0],rfl,O8 _,Pq h,fun j w d e=>by
   have:j=0:=by omega
   subst this;rw[Pq h] at e;cases e;exact O8 _⟩
 |k+1,h=>by
  obtain⟨m,b,q,t,g,f⟩:=AN L k (by omega);have a:L[k+1]? =lD L[k+1]:=Pq h;have i:LD.WC (L.map bN) (k+1) m=(LD.SD (bN L[k+1]) (bN b)).getD Ph:=by unfold LD.WC;rw[Si,Si,Pg,Pg,a,g];rfl
  obtain⟨r,o,n,l⟩:=En L[k+1] b;rw[o] at i;have c:argBest (LD.WC (L.map bN)) (k+1)=if r=Pb then k+1 else m:=by show(if LD.WC (L.map bN) (k+1) (argBest (LD.WC (L.map bN)) k)=Pb then k+1 else argBest (LD.WC (L.map bN)) k)=_;rw[q,i];rfl
  cases r with
  |true=>
   rw[if_pos rfl] at c;refine⟨k+1,L[k+1],c,O8 _,a,fun j w d e=> ?_⟩;by_cases z:j=k+1
   .subst z;rw[a] at e;cases e;exact O8 _
   .exact Pp (n rfl) (f j w (by omega) e)
  |false=>
   rw[if_neg (by simp)] at c;refine⟨m,b,c,by omega,g,fun j w d e=> ?_⟩;by_cases z:j=k+1
   .subst z;rw[a] at e;cases e;exact l rfl
   .exact f j w (by omega) e
theorem Jm {O:Mp} (f:O≠[]):∃b∈O,((d8 O).map (·.2))[LD.WM ((d8 O).map (·.2))]? =lD (bN b.2)/\∀q∈O,b.2.p<=q.2.p:=by
 have g:(d8 O).map (·.2)=(O.map (·.2)).map bN:=by unfold d8;rw[Qf,Qf];rfl
 rw[g];have l:0<O.length:=List.length_pos_iff.mpr f;obtain⟨m,b,i,n,d,h⟩:=AN (O.map (·.2)) (O.length - 1) (by rw[OX];omega);rw[Pg] at d;obtain⟨q,a,rfl⟩:=Qz.mp d;refine⟨q,Pu a,?_,fun z e=> ?_⟩
 .unfold LD.WM;rw[OX,OX,i,Pg,Pg,a];rfl
 .obtain⟨j,c⟩:=S2.mp e;have:=(O0.mp c).1;exact h j z.2 (by omega) (by rw[Pg,c];rfl)
theorem oB (M:Mp):(d8 M).length=M.length:=by unfold d8;rw[OX]
theorem D4 (M:Mp) (r:Rs) (w:Wy):(kQ M r w).length<=M.length+1:=by
 unfold kQ;split
 .rw[OX];omega
 .rw[OZ];exact O8 _
theorem wQ:∀(ws:List Wy) (O:Mp),(g9 O ws).length<=O.length+ws.length
 |[],O=>O8 _
 |w::ws,O=>by have h1:=wQ ws (kN O w);have a:=D4 O w.r (lc w ((fq O w.r).getD w));show(g9 (kN O w) ws).length<=_;unfold kN at h1⊢;rw[Pf];omega
theorem fP {α:Type} {l:List α} {i j:Nat} {x:α} (h:i≠j):(l.set i x)[j]? =l[j]? :=Sh h
theorem qI {α:Type} {l:List α} {i:Nat} {x y:α} (h:l[i]? =lD y):(l.set i x)[i]? =lD x:=by rw[RM (O0.mp h).1]
theorem DS {α:Type} {l:List α} {i:Nat} {x:α} (h:l[i]? =lD x):l.set i x=l:=by obtain⟨a,rfl⟩:=O0.mp h;exact List.set_getElem_self a
theorem xZ {α b:Type} (f:α->b->α) (a:α) (l:List b) (x:b):(l++[x]).foldl f a=f (l.foldl f a) x:=by rw[Yt];rfl
theorem Kr {L:List Wy} {i:Nat} {d:D} (h:(L.map bN)[i]? =lD d):∃w,L[i]? =lD w/\d=bN w:=by rw[Pg] at h;obtain⟨e,h1,a⟩:=Qz.mp h;exact⟨e,h1,a.symm⟩
theorem Hz {O:Mp} {w:Wy} (a:kt w.lo/\kt w.sh) (c:∀q∈O,kt q.2.lo/\kt q.2.sh):∀q∈kN O w,kt q.2.lo/\kt q.2.sh:=fun q b=>by
 rcases k9 b with e|e
 .subst e;exact a
 .exact c q e
theorem wU:∀{ws:List Wy} {O:Mp},(∀w∈ws,kt w.lo/\kt w.sh)->(∀q∈O,kt q.2.lo/\kt q.2.sh)->∀q∈g9 O ws,kt q.2.lo/\kt q.2.sh
 |[],_,_,h=>h
 |w::ws,O,hw,hO=>wU (ws:=ws) (O:=kN O w) (fun z a=>hw z (Pl _ a)) (Hz (hw w (Pr ..)) hO)
theorem wS {O:Mp} {ws:List Wy} {ω:aW} {i j:Nat} (b:i≠j) (hi:ω[i]? =lD (.dd (d8 O))) (H:ω[j]? =lD (.lst ((ws.map bN).map .fz))) (B:∀w∈ws,kt w.lo/\kt w.sh) (K:∀q∈O,kt q.2.lo/\kt q.2.sh) (Q:O.length+ws.length<=1000):
  lH [.rf i,.rf j] ω= .ok (.fz .none) ((ω.set j .dead).set i (.dd (d8 (g9 O ws)))):=by
 obtain⟨x,a,e,rfl,rfl⟩:=kT (n:=4) (g:=oJ) (xs:=[.rf i,.rf j]) (ω:=ω) (ρ:=[lD (.rf i),lD (.rf j),Ld,Ld]) (T:=fun x a=>x= .fz .none/\a=(ω.set j .dead).set i (.dd (d8 (g9 O ws)))) rfl (by
  unfold oJ;refine mX (fun n ρ a=>(∃l f,ρ=[lD (.rf i),lD (.rf j),l,f])/\a=(ω.set j .dead).set i (.dd (d8 (g9 O (ws.take n))))) (ds:=ws.map bN) (ω1:=ω.set j .dead) (JG (i:=j) (bi rfl) H) ⟨⟨Ld,Ld,rfl⟩,?_⟩ ?_ ?_
  .rw[UG];show ω.set j .dead=(ω.set j .dead).set i (.dd (d8 O));have h:(ω.set j .dead)[i]? =lD (.dd (d8 O)):=(fP (Ne.symm b)).trans hi;exact(DS h).symm
  .rintro n d ρ a J ⟨⟨l,f,rfl⟩,rfl⟩
   obtain⟨w,u,rfl⟩:=Kr J;have S:=(O0.mp u).1;have c:=wU (ws:=ws.take n) (O:=O) (fun w hm=>B w (Te hm)) K;have o:(g9 O (ws.take n)).length<=1000:=by have:=wQ (ws.take n) O;rw[Qj] at this;omega
   have M:g9 O (ws.take (n+1))=kN (g9 O (ws.take n)) w:=by rw[l6 u];unfold g9;rw[xZ]
   rw[M];generalize g9 O (ws.take n)=P at c o;have p:((ω.set j .dead).set i (.dd (d8 P)))[i]? =lD (.dd (d8 P)):=qI ((fP (Ne.symm b)).trans hi);refine⟨[lD (.rf i),lD (.rf j),lD (.fz (bN w)),f],_,rfl,?_⟩;have E:=(M0 w).2.1;refine bX (x:= .fz (sD w.r)) (ω1:=(ω.set j .dead).set i (.dd (d8 P))) (ρ1:=[lD (.rf i),lD (.rf j),lD (.fz (bN w)),lD (.fz (sD w.r))]) (aw (bf (rv:= .fz (sD w.r)) (ae rfl) bI rfl rfl E)) rfl ?_;have A:=B w (Pu u);have I:∃v:Wy,Oy (bS (d8 P) (sD w.r)) (.fz (bN w))= .fz (bN v)/\v=(fq P w.r).getD w/\kt v.lo/\kt v.sh:=by
    rw[je];cases g:fq P w.r with
    |none=>exact⟨w,rfl,rfl,A⟩
    |some v=>exact⟨v,rfl,rfl,c _ (jJ g)⟩
   obtain⟨v,ev,t,N⟩:=I;have C:=Bw (ρ:=[lD (.rf i),lD (.rf j),lD (.fz (bN w)),lD (.fz (sD w.r))]) (fd:=bw 0) (fk:=aq (aa 3)) (fx:=aq (aa 2)) (bi rfl) p (aw (ae rfl)) (aw (ae rfl)) (fS w.r) p;rw[ev] at C;have F:zi [bN w,bN v]=lD (.fz (bN (lc w v))):=by
    have G:LD.V9 [bN w,bN v]=Pb:=DQ (L:=[w,v]) fun z m=>by
     rcases Py.mp m with e|m
     .subst e;exact A
     .rw[Pk.mp m];exact N
    show(if LD.V9 [bN w,bN v]=Pb then lD (RV.fz (if LD.SD (bN v) (bN w)=lD Pb then bN v else bN w)) else Ld)=_;rw[if_pos G];unfold lc;split<;>rfl
   refine sB (vX (d:=bN (lc w v)) (k:=sD w.r) (IS (xs:=[.fz (bN w),.fz (bN v)]) (ds:=[bN w,bN v]) (aR (aw (ae rfl)) (aR C ce)) rfl F) (bi rfl) (aw (ae rfl)) (fS w.r) p (by rw[oB];omega)) ⟨⟨_,_,rfl⟩,?_⟩;rw[List.set_set,zu];unfold kN;rw[<-t]
  .rintro ρ a ⟨⟨l,f,rfl⟩,rfl⟩;rw[OX,QF];exact⟨rfl,rfl⟩)
 exact e
def Ny (B:List Wd) (W:Mp) (w:Wy):Prop:=w∈cO B\/∃a∈W,w∈c9 B a.2
inductive Rc (B:List Wd):Wy->Prop
 |fst {w}:w∈cO B->Rc B w
 |nxt {a w}:Rc B a->w∈c9 B a->Rc B w
structure Bd (B:List Wd) (W O:Mp):Prop where
 w:∀q∈W,q.2.p<=6+6*W.length
 o:∀q∈O,q.2.p<=6+6*W.length
 gw:∀q∈W,Ny B W q.2/\Rc B q.2
 go:∀q∈O,Ny B W q.2/\Rc B q.2
theorem pH {B:List Wd} (b:BB B):∀{L:List (List Nat)},jr B L->L.length<=(wr B L).length
 |[],_=>Qb _
 |w::L,h=>by obtain⟨s,a⟩:=gU (h w (Pr ..));have h1:1<=s.length:=b.s1 _ (c8 a);have d:=pH b (L:=L) fun z c=>h z (Pl _ c);rw[dM,a,Pf,OZ];show L.length+1<=s.length+_;omega
theorem uU {B:List Wd} (a:BB B) {q:Rs×Wy} (h:YQ B q):q.2.lo.length<=q.2.p/\q.2.sh.length<=q.2.p:=by have h1:=pH a h.i;have c:=pH a h.j;have b:=congrArg QY h.e;rw[OZ] at b;have:=h.p;omega
theorem Ko {B:List Wd} (c:BB B) {a w:Wy} (h:w∈c9 B a):w.p<=a.p+6:=by
 unfold c9 at h;split at h
 .cases h
 .obtain⟨e,b,h⟩:=QB.mp h
  have d:=c.s6 e b;unfold nx at h;split at h
  .cases h;exact VD _ _
  .split at h
   .cases h;show a.p+(e.2.drop a.r.length).length<=_;rw[QE];omega
   .cases h
theorem jw:∀{ws:List Wy} {O:Mp} {q:Rs×Wy},q∈g9 O ws->q∈O\/∃w∈ws,q=(w.r,w)
 |[],_,_,h=> .inl h
 |w::ws,O,q,h=>by
  rcases jw (ws:=ws) (O:=kN O w) h with h|⟨z,hz,e⟩
  .rcases k9 h with e|e
   .exact .inr ⟨w,Pr ..,e⟩
   .exact .inl e
  .exact .inr ⟨z,Pl _ hz,e⟩
theorem BJ {B:List Wd} (d:BB B):∀q∈g9 [] (cO B),q.2.p<=6+6*([]:Mp).length:=fun q b=>by
 rcases jw b with h|⟨w,a,rfl⟩
 .cases h
 .obtain⟨e,g,a⟩:=Uh.mp a
  obtain⟨f,c,a⟩:=QB.mp a;unfold bA at a;split at a
  .cases a;have:=d.s6 f c;show f.2.length<=6+6*0;omega
  .cases a
theorem D8 {B:List Wd} (b:BB B):Bd B [] (g9 [] (cO B)):=⟨fun _ z=>(by cases z),(BJ b),fun _ z=>(by cases z),fun q a=>by
 rcases jw a with h|⟨w,hw,rfl⟩
 .cases h
 .exact⟨.inl hw,.fst hw⟩⟩
theorem G5 {B:List Wd} (i:BB B) {W O:Mp} (h:Bd B W O) {b:Rs×Wy} (hb:b∈O):Bd B (W++[b]) (g9 (gS O b.1) (yN B W b)):=by
 have f:(W++[b]).length=W.length+1:=by rw[OZ];rfl
 have e:∀{w:Wy},Ny B W w->Ny B (W++[b]) w:=fun h=>h.imp id fun⟨a,h1,g⟩=>⟨a,Qs _ h1,g⟩;refine⟨fun q c=> ?_,fun q c=> ?_,fun q c=> ?_,fun q c=> ?_⟩
 .rw[f]
  rcases Pw.mp c with c|c
  .have:=h.w q c;omega
  .rw[Pk.mp c];have:=h.o b hb;omega
 .rw[f]
  rcases jw c with c|⟨w,d,rfl⟩
  .have:=h.o q (QD.mp c).1;omega
  .have h1:=Ko i (QD.mp d).1;have g:=h.o b hb;show w.p<=_;omega
 .rcases Pw.mp c with c|c
  .exact⟨e (h.gw q c).1,(h.gw q c).2⟩
  .rw[Pk.mp c];exact⟨e (h.go b hb).1,(h.go b hb).2⟩
 .rcases jw c with c|⟨w,d,rfl⟩
  .have:=h.go q (QD.mp c).1;exact⟨e this.1,this.2⟩
  .have d:=(QD.mp d).1;exact⟨.inr ⟨b,PM _ (Pk.mpr rfl),d⟩,.nxt (h.go b hb).2 d⟩
theorem KR {B:List Wd} (b:BB B) {W O:Mp} (h:Iv B W O):(∀q∈W,kt q.2.lo/\kt q.2.sh)/\∀q∈O,kt q.2.lo/\kt q.2.sh:=
 ⟨fun q a=>⟨eI b (h.wk q a).i,eI b (h.wk q a).j⟩,fun q a=>⟨eI b (h.ok q a).i,eI b (h.ok q a).j⟩⟩
theorem yO {c:sG} {b:gF} {N C:aX->aW->Prop} {T:SV->aW->Prop} (I:Nat->aX->aW->Prop) (hs:∀m ρ ω,I m ρ ω->(c ρ ω= .ok Ph ω/\N ρ ω)\/(c ρ ω= .ok Pb ω/\S8 (b ρ ω) (fun ρ' ω'=>∃m',m'<m/\I m' ρ' ω') (fun _ _=>False) T)):∀(n m:Nat) (ρ:aX) (ω:aW),m<n->I m ρ ω->S8 (qX c b n ρ ω) N C T
 |0,m,_,_,h,_=>by omega
 |n+1,m,ρ,ω,h,h0=>by
  rcases hs m ρ ω h0 with⟨h1,a⟩|⟨h1,a⟩
  .refine⟨?_⟩;unfold qX;rw[h1,RS.bind_ok,if_neg Pt];exact a
  .have a:=a.out
   unfold qX;refine .eq (r':=(b ρ ω).bind fun e d=>match e with
    | .nx ρ2=>qX c b n ρ2 d
    | .ct ρ2=>qX c b n ρ2 d
    | .bk ρ2=> .ok (.nx ρ2) d
    | .rt x=> .ok (.rt x) d) (by rw[h1,RS.bind_ok,if_pos rfl]<;>rfl) ?_
   cases q:b ρ ω with
   |bad=>rw[q] at a;exact a.elim
   |er x o=>rw[q] at a;exact a.elim
   |ok e o=>
    rw[q] at a;cases e with
    |nx r=>obtain⟨m',hm,f⟩:=a;exact yO I hs n m' r o (by omega) f
    |ct r=>exact a.elim
    |rt v=>exact⟨a⟩
    |bk r=>exact a.elim
theorem kK {gt:vG} {ft:sG} {fe:cE} {ω:aW} {α:Type} (e:α->D) (f:α->SV) (p:α->Bool) (I:aX->Prop):∀(xs:List α) (ρ:aX) (a:List SV),I ρ->a.length+xs.length<=1000000->(∀x∈xs,∀ρ,I ρ->∃ρ',gt (.fz (e x)) ρ ω= .ok ρ' ω/\ft ρ' ω= .ok (p x) ω/\fe ρ' ω= .ok (f x) ω/\I ρ')->cV gt ft fe (xs.map e) ρ ω a= .ok (a++(xs.filter p).map f) ω
 |[],ρ,a,_,_,_=>by show RS.ok a ω=_;rw[List.filter_nil,Qe,PY]
 |x::r,ρ,a,h0,hl,hs=>by
  obtain⟨ρ',h1,g,d,c⟩:=hs x Pr ρ h0;rw[Pf] at hl;show((gt (.fz (e x)) ρ ω).bind _)=_;rw[h1,RS.bind_ok,g,RS.bind_ok];cases hp:p x with
  |true=>rw[if_pos rfl,d,RS.bind_ok,if_pos (by omega),kK e f p I r ρ' _ c (by rw[OZ,Qm];omega) fun y b=>hs y (Pl _ b),QG,if_pos hp,PR];rfl
  |false=>rw[if_neg Pt,kK e f p I r ρ' _ c (by omega) fun y b=>hs y (Pl _ b),QG,if_neg (by rw[hp];exact Pt)]
theorem A7 (M:Mp) (r:Rs):(fq M r).isSome=decide (r∈M.map (·.1)):=by
 unfold fq;rw[RA];by_cases h:r∈M.map (·.1)
 .rw[decide_eq_true h,R8];obtain⟨q,h1,a⟩:=Pn.mp h;exact⟨q,h1,decide_eq_true a⟩
 .rw[decide_eq_false h]
  cases q:(M.find? fun q=>decide (q.1=r)).isSome with
  |false=>rfl
  |true=>rw[R8] at q;obtain⟨z,h1,a⟩:=q;exact absurd (Pn.mpr ⟨z,h1,of_decide_eq_true a⟩) h
theorem tX {M:Mp} (h:(M.map (·.1)).Nodup) {q:Rs×Wy} (a:q∈M):fq M q.1=lD q.2:=by
 cases g:fq M q.1 with
 |none=>have:=A7 M q.1;rw[g,decide_eq_true (Pn.mpr ⟨q,a,rfl⟩)] at this;cases this
 |some w=>have:=yx h a (jJ g) rfl;rw[this]
theorem jf {α:Type} {l m:List α} {i:Nat} {x:α} (h:l[i]? =lD x):(l++m)[i]? =lD x:=by rw[Pz (O0.mp h).1];exact h
theorem oP {α:Type} {l:List α} {i:Nat} {x:α} (h:l[i]? =lD x):i<l.length:=(O0.mp h).1
theorem Bv {B:List Wd} (a:BB B) (w:Wy):(c9 B w).length<=20:=by
 unfold c9;split
 .exact Qb _
 .exact Pp (oW _ _) a.Xg
structure Tn (B:List Wd) (a b m:Nat) (ρ:aX) (ω:aW):Prop where
 ex:∃(W O:Mp) (t3:Option SV),ρ=[lD (.fz (aF B)),lD (.rf a),lD (.rf b),t3]/\ω[a]? =lD (.dd (d8 W))/\ω[b]? =lD (.dd (d8 O))/\Full B W O/\Bd B W O/\m=150 - W.length
theorem nr {B:List Wd} (c:BB B) (b:aW):∃(W:Mp) (f:aW),bH [.fz (aF B)] b= .ok (.rf b.length) f/\f[b.length]? =lD (.dd (d8 W))/\Full B W []/\Bd B W []:=by
 have fo:=EB c;obtain⟨x,f,e,W,rfl,h1,M,h3⟩:=kT (n:=4) (g:=dN) (xs:=[.fz (aF B)]) (ω:=b) (ρ:=[lD (.fz (aF B)),Ld,Ld,Ld]) (T:=fun x f=>∃W,x= .rf b.length/\f[b.length]? =lD (.dd (d8 W))/\Full B W []/\Bd B W []) rfl (by
  unfold dN;refine bX (x:= .rf b.length) (ω1:=b++[.dd []]) (ρ1:=[lD (.fz (aF B)),lD (.rf b.length),Ld,Ld]) rfl rfl ?_;have l1:(b++[Cell.dd []]).length=b.length+1:=by rw[OZ];rfl
  refine bX (x:= .rf (b.length+1)) (ω1:=b++[.dd []]++[.dd []]) (ρ1:=[lD (.fz (aF B)),lD (.rf b.length),lD (.rf (b.length+1)),Ld]) (by unfold ua;rw[l1]) rfl ?_;have l2:(b++[Cell.dd []]++[Cell.dd []]).length=b.length+2:=by rw[OZ,l1];rfl
  have Y:(b++[Cell.dd []]++[Cell.dd []])[b.length]? =lD (.dd (d8 [])):=jf aU;have P:(b++[Cell.dd []]++[Cell.dd []])[b.length+1]? =lD (.dd (d8 [])):=by rw[<-l1];exact aU
  generalize b++[Cell.dd []]++[Cell.dd []]=ω1 at l2 Y P;have lf:=xV c;have fl:aq (cr eu 1 (af (aa 0) au)) [lD (.fz (aF B)),lD (.rf b.length),lD (.rf (b.length+1)),Ld] ω1= .ok (.rf ω1.length) (ω1++[.lst (((cO B).map bN).map .fz)]):=pZ (cH (rv:= .ow ((cO B).map bN)) (aj (ae rfl) aC) rfl rfl fo);have N:(ω1++[Cell.lst (((cO B).map bN).map .fz)])[ω1.length]? =lD (.lst (((cO B).map bN).map .fz)):=aU;have of:=wS (i:=b.length+1) (j:=ω1.length) (ω:=ω1++[Cell.lst (((cO B).map bN).map .fz)]) (O:=[]) (ws:=cO B) (by omega) (jf P) N (fun w p=>⟨eI c (mV c p).i,eI c (mV c p).j⟩) (fun _ z=>(by cases z)) (by show 0+_<=_;omega);refine uG (x:= .fz .none) (lR (xs:=[.rf (b.length+1),.rf ω1.length]) (aR (bi rfl) (aR fl ce)) rfl of) ?_;refine gl (yO (Tn B b.length (b.length+1)) (fun m ρ ω hT=> ?_) 1000000 150 _ _ (by omega) ⟨[],_,Ld,rfl,?_,?_,DL c,D8 c,rfl⟩)
  .obtain⟨W,O,t3,rfl,ha,E,u,L,rfl⟩:=hT.ex
   have l16:=kO c u.iv;have ne:=Gz (fd:=bw 2) (ρ:=[lD (.fz (aF B)),lD (.rf b.length),lD (.rf (b.length+1)),t3]) (bi rfl) E;cases O with
   |nil=>exact .inl ⟨ci ne,jz (bi rfl) ⟨W,rfl,ha,u,L⟩⟩
   |cons S Z=>
    refine .inr ⟨ci ne,?_⟩;obtain⟨q,v,hm,hp⟩:=Jm (O:=S::Z) (by simp);generalize S::Z=O at*;obtain⟨cw,X⟩:=KR c u.iv;have A:=u.iv.ok q v;obtain⟨_,G,_,_⟩:=M0 q.2;rw[A.k] at G;have H:LD.V9 ((d8 O).map (·.2))=Pb:=by
     have ec:(d8 O).map (·.2)=(O.map (·.2)).map bN:=by unfold d8;rw[Qf,Qf];rfl
     rw[ec];exact DQ fun w p=>by obtain⟨z,K,rfl⟩:=Pn.mp p;exact X z K
    refine bX (x:= .fz (bN q.2)) (ω1:=ω) (ρ1:=[lD (.fz (aF B)),lD (.rf b.length),lD (.rf (b.length+1)),lD (.fz (bN q.2))]) (DR (bi rfl) E H hm) rfl ?_;have gq:bS (d8 O) (sD q.1)=lD (bN q.2):=by rw[je,tX u.iv.on v];rfl
    have l:=E7 (fd:=bw 2) (fk:=aq (aH dR (aa 3) (pC (.int 1)))) (ρ:=[lD (.fz (aF B)),lD (.rf b.length),lD (.rf (b.length+1)),lD (.fz (bN q.2))]) (bi rfl) E (aw (bf (rv:= .fz (sD q.1)) (ae rfl) bI rfl rfl G)) (fS q.1) E gq;rw[Dp] at l;have t:(ω.set (b.length+1) (.dd (d8 (gS O q.1))))[b.length]? =lD (.dd (d8 W)):=(fP (by omega)).trans ha;have C:(ω.set (b.length+1) (.dd (d8 (gS O q.1))))[b.length+1]? =lD (.dd (d8 (gS O q.1))):=qI E;generalize ω.set (b.length+1) (.dd (d8 (gS O q.1)))=ω2 at l t C;have nw:q.1∉W.map (·.1):=fun z=>by obtain⟨a,h1,M⟩:=Pn.mp z;exact u.iv.dj a h1 q v M
    have pt:=vX (fd:=bw 1) (fk:=aq (aH dR (aa 3) (pC (.int 1)))) (d:=bN q.2) l (bi rfl) (aw (bf (rv:= .fz (sD q.1)) (ae rfl) bI rfl rfl G)) (fS q.1) t (by rw[oB];omega);rw[zu,GG nw] at pt;refine MQ pt ?_;have h:(ω2.set b.length (.dd (d8 (W++[(q.1,q.2)]))))[b.length]? =lD (.dd (d8 (W++[q]))):=qI t;have F:(ω2.set b.length (.dd (d8 (W++[(q.1,q.2)]))))[b.length+1]? =lD (.dd (d8 (gS O q.1))):=(fP (by omega)).trans C;generalize ω2.set b.length (.dd (d8 (W++[(q.1,q.2)])))=ω3 at h F;have sl:=uU c A;have pb:=L.o q v;have I:=GD c A.n.2 (by omega);have nl:=Bv c q.2;have it:jM (iK (cr fG 2 (af (aa 0) (af (aa 3) au)))) [lD (.fz (aF B)),lD (.rf b.length),lD (.rf (b.length+1)),lD (.fz (bN q.2))] ω3= .ok ((c9 B q.2).map bN) ω3:=iH (gK (d:= .list ((c9 B q.2).map bN)) (cH (rv:= .ow ((c9 B q.2).map bN)) (aj (ae rfl) (aj (ae rfl) aC)) rfl rfl I) rfl rfl);have U:=kK (gt:=ju 0) (ft:=eZ (pA Pb (aq (aH dR (aa 0) (pC (.int 1)))) (bw 1))) (fe:=aq (aa 0)) (ω:=ω3) bN (fun w=>SV.fz (bN w)) (fun n=> !decide (n.r∈(W++[q]).map (·.1))) (fun ρ=>∃Q,ρ=[Q,lD (.rf b.length)]) (c9 B q.2) [Ld,lD (.rf b.length)] [] ⟨Ld,rfl⟩ (by show 0+_<=_;omega) (by rintro w p ρ ⟨Q,rfl⟩;refine⟨[lD (.fz (bN w)),lD (.rf b.length)],rfl,?_,aw (ae rfl),_,rfl⟩;have:=oK (neg:=Pb) (fk:=aq (aH dR (aa 0) (pC (.int 1)))) (fd:=bw 1) (ρ:=[lD (.fz (bN w)),lD (.rf b.length)]) (aw (bf (rv:= .fz (sD w.r)) (ae rfl) bI rfl rfl (M0 w).2.1)) (bi rfl) (fS w.r) h;rw[je,RA,A7,Ww] at this;exact ci this);rw[Us] at U;have cl:=HB (n:=1) (fj:=[1]) (ρ:=[lD (.fz (aF B)),lD (.rf b.length),lD (.rf (b.length+1)),lD (.fz (bN q.2))]) it U;have nf:(yN B W q).length<=20:=Pp (UB _ _) nl;have N:(ω3++[Cell.lst (((c9 B q.2).filter fun n=> !decide (n.r∈(W++[q]).map (·.1))).map fun w=>SV.fz (bN w))])[ω3.length]? =lD (.lst (((yN B W q).map bN).map .fz)):=by rw[Qf];exact aU
    have ol:(gS O q.1).length<=140:=Pp (UB _ _) (by omega);have J:YQ B (q.2.r,q.2):=by rw[A.k];exact A
    have of:=wS (i:=b.length+1) (j:=ω3.length) (O:=gS O q.1) (ws:=yN B W q) (by have:=oP F;omega) (jf F) N (fun w p=>by have:=(pX c J (QD.mp p).1).1;exact⟨eI c this.i,eI c this.j⟩) (fun z K=>X z (QD.mp K).1) (by omega);refine tN (x:= .fz .none) (lR (xs:=[.rf (b.length+1),.rf ω3.length]) (aR (bi rfl) (aR cl ce)) rfl of) ⟨150 - (W++[q]).length,by rw[OZ,Qm];omega,⟨W++[q],_,_,rfl,?_,?_,Hv c u v hp,G5 c L v,rfl⟩⟩
    .rw[fP (by omega),fP (by have:=oP h;omega)];exact jf h
    .exact qI ((fP (by have:=oP F;omega)).trans (jf F))
  .rw[fP (by omega),fP (by omega)];exact jf Y
  .exact qI ((fP (by omega)).trans (jf P)))
 exact⟨W,f,e,h1,M,h3⟩
def qT {α:Type} [DecidableEq α] (lt:α->α->Bool):List α->List α->Bool
 |[],[]=>Ph
 |[],_::_=>Pb
 |_::_,[]=>Ph
 |x::xs,y::ys=>if x=y then qT lt xs ys else lt x y
structure ZD {α:Type} (lt:α->α->Bool):Prop where
 Zj:∀a,lt a a=Ph
 tr:∀a b c,lt a b=Pb->lt b c=Pb->lt a c=Pb
 Yf:∀a b,lt a b=Ph->lt b a=Ph->a=b
theorem ZD.aei {α:Type} {lt:α->α->Bool} (h:ZD lt) {a b:α} (k:lt a b=Pb):lt b a=Ph:=by
 cases q:lt b a with
 |false=>rfl
 |true=>have:=h.tr a b a k q;rw[h.Zj] at this;cases this
theorem ZD.lex {α:Type} [DecidableEq α] {lt:α->α->Bool} (h:ZD lt):ZD (qT lt) where
 Zj:=fun a=>by
  induction a with
  |nil=>rfl
  |cons x a f=>rw[qT,if_pos rfl];exact f
 tr:=fun a=>by
  induction a with
  |nil=>
   intro b c h1 d;cases b with
   |nil=>cases h1
   |cons y b=>cases c with
    |nil=>cases d
    |cons z c=>rfl
  |cons x a f=>
   intro b c h1 d;cases b with
   |nil=>cases h1
   |cons y b=>cases c with
    |nil=>cases d
    |cons z c=>
     rw[qT] at h1 d⊢;by_cases i:x=y
     .subst i
      rw[if_pos rfl] at h1;by_cases g:x=z
      .rw[if_pos g] at d⊢;exact f b c h1 d
      .rw[if_neg g] at d⊢;exact d
     .rw[if_neg i] at h1
      by_cases g:y=z
      .subst g;rw[if_neg i];exact h1
      .rw[if_neg g] at d;have:=h.tr x y z h1 d;rw[if_neg (fun e=>by rw[e,h.Zj] at this;cases this)];exact this
 Yf:=fun a=>by
  induction a with
  |nil=>intro b h1 _;cases b with
   |nil=>rfl
   |cons y b=>cases h1
  |cons x a f=>
   intro b h1 d;cases b with
   |nil=>cases d
   |cons y b=>
    rw[qT] at h1 d;by_cases e:x=y
    .subst e;rw[if_pos rfl] at h1 d;rw[f b h1 d]
    .rw[if_neg e] at h1;rw[if_neg (Ne.symm e)] at d;exact absurd (h.Yf x y h1 d) e
def Nt (a b:Int):Bool:=decide (a<b)
theorem Mo:ZD Nt where
 Zj:=fun a=>decide_eq_false (Int.lt_irrefl a)
 tr:=fun a b c h1 d=>decide_eq_true (abC (of_decide_eq_true h1) (of_decide_eq_true d))
 Yf:=fun a b h1 d=>by have:=of_decide_eq_false h1;have:=of_decide_eq_false d;omega
abbrev Ls:Rs->Rs->Bool:=qT (qT Nt)
theorem Ag:ZD Ls:=Mo.lex.lex
theorem DD:∀a b:List Int,LD.Rq (a.map O9.int) (b.map O9.int)=lD (qT Nt a b)
 |[],[]=>by rw[Qe,LD.Rq];rfl
 |[],_::_=>by rw[Qe,Pd,LD.Rq];rfl
 |_::_,[]=>by rw[Qe,Pd,LD.Rq];rfl
 |x::a,y::b=>by
  rw[Pd,Pd,LD.Rq,qT];have e:O9.eqv (.int x) (.int y)=decide (x=y):=by rw[O9.eqv];by_cases h:x=y<;>simp[h]
  rw[e];by_cases h:x=y
  .rw[if_pos (decide_eq_true h),if_pos h];exact DD a b
  .rw[if_neg (by rw[decide_eq_false h];exact Pt),if_neg h,LD.SD];rfl
theorem LO (x y:List Int):O9.eqv (kD x) (kD y)=decide (x=y):=by unfold kD;rw[O9.eqv];exact JK x y
theorem Cr:∀a b:Rs,LD.Rq (a.map kD) (b.map kD)=lD (Ls a b)
 |[],[]=>by rw[Qe,LD.Rq];rfl
 |[],_::_=>by rw[Qe,Pd,LD.Rq];rfl
 |_::_,[]=>by rw[Qe,Pd,LD.Rq];rfl
 |x::a,y::b=>by
  rw[Pd,Pd,LD.Rq,LO];show _=lD (if x=y then Ls a b else qT Nt x y);by_cases h:x=y
  .rw[if_pos (decide_eq_true h),if_pos h];exact Cr a b
  .rw[if_neg (by rw[decide_eq_false h];exact Pt),if_neg h];unfold kD;rw[LD.SD];exact DD x y
abbrev Rp:=Rs×Nat
def c7 (a:Rp):D:= .tuple [sD a.1,nd a.2]
def Ji (a b:Rp):Bool:=if a.1=b.1 then decide (a.2<b.2) else Ls a.1 b.1
theorem xc:ZD Ji where
 Zj:=fun a=>by unfold Ji;rw[if_pos rfl];exact decide_eq_false (Qq _)
 tr:=fun a b c h1 d=>by
  unfold Ji at*;by_cases g:a.1=b.1
  .rw[if_pos g] at h1
   rw[g];by_cases f:b.1=c.1
   .rw[if_pos f] at d⊢;exact decide_eq_true (RP (of_decide_eq_true h1) (of_decide_eq_true d))
   .rw[if_neg f] at d⊢;exact d
  .rw[if_neg g] at h1
   by_cases f:b.1=c.1
   .rw[<-f,if_neg g];exact h1
   .rw[if_neg f] at d;have:=Ag.tr _ _ _ h1 d;rw[if_neg (fun e=>by rw[e,Ag.Zj] at this;cases this)];exact this
 Yf:=fun a b h1 d=>by
  unfold Ji at*;by_cases e:a.1=b.1
  .rw[if_pos e] at h1;rw[if_pos e.symm] at d;have:=of_decide_eq_false h1;have:=of_decide_eq_false d;exact Prod.ext e (by omega)
  .rw[if_neg e] at h1;rw[if_neg (Ne.symm e)] at d;exact absurd (Ag.Yf _ _ h1 d) e
theorem rN (a b:Rp):LD.SD (c7 a) (c7 b)=lD (Ji a b):=by
 unfold c7 Ji;rw[LD.SD,LD.Rq,gX];by_cases e:a.1=b.1
 .rw[if_pos (decide_eq_true e),if_pos e,LD.Rq]
  by_cases c:a.2=b.2
  .have:O9.eqv (nd a.2) (nd b.2)=Pb:=by rw[c];unfold nd;rw[O9.eqv];simp
   rw[if_pos this,LD.Rq,c];simp
  .have:¬O9.eqv (nd a.2) (nd b.2)=Pb:=by unfold nd;rw[O9.eqv];simp;omega
   rw[if_neg this];unfold nd;rw[LD.SD];congr 1;exact decide_eq_decide.mpr (by omega)
 .rw[if_neg (by rw[decide_eq_false e];exact Pt),if_neg e];unfold sD;rw[LD.SD];exact Cr _ _
theorem KC (a:Rp):(c7 a).canLay0=Pb/\(c7 a).depth<=32:=by
 unfold c7 sD nd;constructor
 .rw[O9.canLay0,O9.canLayAll0,O9.canLayAll0,O9.canLayAll0,O9.canLay0,O9.canLay0,o7];rfl
 .rw[O9.depth,O9.depthAll,O9.depthAll,O9.depthAll,O9.depth,O9.depth];have:=qm a.1;omega
theorem zj (L:List Rp):LD.Zg (L.map c7) where
 ok:=by unfold LD.V9;rw[Qk];intro a ha;obtain⟨x,_,rfl⟩:=Pn.mp ha;obtain⟨h1,d⟩:=KC x;rw[h1,decide_eq_true d,Sy,Sy,Qk];intro b e;obtain⟨y,_,rfl⟩:=Pn.mp e;rw[rN];rfl
 Zj:=fun a ha=>by obtain⟨x,_,rfl⟩:=Pn.mp ha;rw[rN,xc.Zj]
 tr:=fun a ha b e c f h1 d=>by obtain⟨x,_,rfl⟩:=Pn.mp ha;obtain⟨y,_,rfl⟩:=Pn.mp e;obtain⟨z,_,rfl⟩:=Pn.mp f;rw[rN] at*;rw[xc.tr x y z (PK h1) (PK d)]
 Yf:=fun a ha b e h1 d=>by obtain⟨x,_,rfl⟩:=Pn.mp ha;obtain⟨y,_,rfl⟩:=Pn.mp e;rw[rN] at h1 d;rw[xc.Yf x y (PK h1) (PK d)]
 tup:=fun a ha=>by obtain⟨x,_,rfl⟩:=Pn.mp ha;exact⟨_,_,rfl⟩
theorem tj {α:Type} {lt:α->α->Bool} (h:ZD lt):∀l:List α,∃m:List α,m.Perm l/\m.Pairwise fun a b=>lt b a=Ph
 |[]=>⟨[],.refl _,.nil⟩
 |x::l=>by
  obtain⟨m,p,s⟩:=tj h l;have ins:∀m:List α,m.Pairwise (fun a b=>lt b a=Ph)->∃k:List α,k.Perm (x::m)/\k.Pairwise fun a b=>lt b a=Ph:=by
   intro m
   induction m with
   |nil=>intro _;exact⟨[x],.refl _,WK _ _⟩
   |cons y m i=>
    intro s;obtain⟨e,d⟩:=Rt.mp s;cases q:lt y x with
    |false=>
     refine⟨x::y::m,.refl _,Rt.mpr ⟨fun z c=> ?_,s⟩⟩;rcases Py.mp c with rfl|c
     .exact q
     .cases q2:lt z x with
      |false=>rfl
      |true=>
       cases q3:lt x y with
       |true=>have:=h.tr z x y q2 q3;rw[e z c] at this;cases this
       |false=>rw[h.Yf x y q3 q,e z c] at q2;cases q2
    |true=>
     obtain⟨k,p,f⟩:=i d;refine⟨y::k,(p.cons y).trans (.swap x y m),Rt.mpr ⟨fun z c=> ?_,f⟩⟩;rcases Py.mp (p.mem_iff.mp c) with rfl|c
     .exact h.aei q
     .exact e z c
  obtain⟨k,g,d⟩:=ins m s;exact⟨k,g.trans (p.cons x),d⟩
structure Sol (B:List Wd) (L:List Rp):Prop where
 up:L.Pairwise fun a b=>Ls a.1 b.1=Pb
 fst:∀f∈cO B,∃a∈L,a.1=f.r/\a.2<=f.p
 nxt:∀a∈L,∀e∈B,a.1≠[]->(bg e.2 a.1=Pb->∃b∈L,b.1=a.1.drop e.2.length/\b.2<=a.2)/\(bg a.1 e.2=Pb->∃b∈L,b.1=e.2.drop a.1.length/\b.2<=a.2+(e.2.length - a.1.length))
 org:∀a∈L,(∃f∈cO B,f.r=a.1/\f.p=a.2)\/∃b∈L,b.1≠[]/\∃e∈B,(bg e.2 b.1=Pb/\a=(b.1.drop e.2.length,b.2))\/(bg b.1 e.2=Pb/\a=(e.2.drop b.1.length,b.2+(e.2.length - b.1.length)))
 len:L.length<=140
 suf:∀a∈L,a.1∈Fn B
def rp (q:Rs×Wy):Rp:=(q.1,q.2.p)
theorem j7 {α c b:Type} {f:c->Option b} {g:α->c} {h:α->b}:∀{l:List α},(∀x∈l,f (g x)=lD (h x))->ar f (l.map g)=lD (l.map h)
 |[],_=>rfl
 |a::l,k=>by rw[Pd];unfold ar;rw[k a Pr];dsimp only;rw[j7 fun x d=>k x (Pl _ d)];rfl
theorem rY {ρ:aX} {ω:aW} {n:Nat} {d:D} (h:ρ[n]? =lD (lD (.fz d))):aq (aa n) ρ ω= .ok (.fz d) ω:=aw (ae (by unfold dI;rw[Pg,h];rfl))
theorem Mx {ρ:aX} {ω:aW} {n j i:Nat} {d:D} {k:bT} {kvs:List (bT×SV)} (neg:Bool) (h1:ρ[n]? =lD (lD (.fz d))) (c:ρ[j]? =lD (lD (.rf i))) (a:nX (.fz d)=lD k) (b:ω[i]? =lD (.R9 kvs)):qB neg (aq (aa n)) (bw j) ρ ω= .ok (.fz (.bool ((cR kvs k).isSome !=neg))) ω:=Ef (rY h1) (bi c) a b
theorem IL {ρ:aX} {ω:aW} {n j i:Nat} {d:D} {k:bT} {kvs:List (bT×SV)} {y:SV} (h1:ρ[n]? =lD (lD (.fz d))) (e:ρ[j]? =lD (lD (.rf i))) (a:nX (.fz d)=lD k) (c:ω[i]? =lD (.R9 kvs)) (b:cR kvs k=lD y):pc (bw j) (aq (aa n)) ρ ω= .ok y ω:=Ae (bi e) (rY h1) a c b
section
variable {B:List Wd}
theorem GL (a b:List (List Int)) (h:a.length+b.length<=1000000):Aq (sD a) (sD b)=lD (.fz (sD (a++b))):=by show(if(a.map kD).length+(b.map kD).length<=1000000 then lD (RV.fz (.tuple (a.map kD++b.map kD))) else Ld)=_;rw[OX,OX,if_pos h,<-PB];rfl
theorem yH (h:BB B) {ws:List (List Nat)} (hi:jr B ws) (o:ws.length<=1000):∃ω',dY [.fz (aF B),.fz (.list (ws.map tD))] []= .ok (.fz (sD (wr B ws))) ω':=by
 have f:=wz B h.nd;generalize hM:e9 [] (KN B)=M at f;obtain⟨ω',e,_⟩:∃ω',dY [.fz (aF B),.fz (.list (ws.map tD))] []= .ok (.fz (sD (wr B ws))) ω'/\True:=by
  refine Fm (ρ:=[lD (.fz (aF B)),lD (.fz (.list (ws.map tD))),Ld,Ld,Ld]) rfl ?_;refine bX (zU (x:= .fz (aF B)) (ω1:=[]) (aw (ae rfl)) (v5 B)) rfl ?_;rw[hM];refine bX (x:= .fz (sD [])) (ω1:=[Cell.R9 M]) (aw (d:=sD []) rfl) rfl ?_;refine gl (mX (fun k ρ ω=>ω=[Cell.R9 M]/\∃x4,ρ=[lD (.fz (aF B)),lD (.fz (.list (ws.map tD))),lD (.rf 0),lD (.fz (sD (wr B (ws.take k)))),x4]) (ds:=ws.map tD) (ω1:=[Cell.R9 M]) (iH (ρ':=dI [lD (.fz (aF B)),lD (.fz (.list (ws.map tD))),lD (.rf 0),lD (.fz (sD [])),Ld]) rfl) ⟨rfl,Ld,rfl⟩ ?_ ?_)
  .rintro k d ρ ω a ⟨rfl,x4,rfl⟩
   rw[Pg] at a;cases hw:ws[k]? with
   |none=>rw[hw] at a;cases a
   |some w=>
    rw[hw] at a;cases a;refine⟨_,_,rfl,?_⟩;obtain⟨s,c⟩:=gU (hi w (Pu hw));have g:cR M (.inr (tx w))=lD (.fz (sD s)):=by rw[f,c];rfl
    have m:qB Pb (aq (aa 4)) (bw 2) [lD (.fz (aF B)),lD (.fz (.list (ws.map tD))),lD (.rf 0),lD (.fz (sD (wr B (ws.take k)))),lD (.fz (tD w))] [Cell.R9 M]= .ok (.fz (.bool Ph)) [Cell.R9 M]:=by rw[Ef (x:= .fz (tD w)) (k:= .inr (tx w)) (i:=0) (kvs:=M) (ω1:=[Cell.R9 M]) (ω2:=[Cell.R9 M]) (aw (ae rfl)) (bi rfl) rfl rfl,g];rfl
    refine jD (ci m) (fW ?_);have p:s.length<=6:=h.s6 _ (c8 c);have b:=CA h (ws.take k);rw[Qj] at b;refine sB (E3 (x:= .fz (sD (wr B (ws.take k)))) (y:= .fz (sD s)) (z:= .fz (sD (wr B (ws.take k)++s))) (ω3:=[]) rfl (Ae (x:= .fz (tD w)) (k:= .inr (tx w)) (i:=0) (kvs:=M) (ω1:=[Cell.R9 M]) (bi rfl) (aw (ae rfl)) rfl rfl g) (gC (GL _ _ (by omega)))) ⟨rfl,lD (.fz (tD w)),?_⟩;have j:ws.take (k+1)=ws.take k++[w]:=by obtain⟨n,l⟩:=O0.mp hw;rw[QU n,l]
    rw[j,kh,c];rfl
  .rintro ρ' ω' ⟨rfl,x4,rfl⟩;rw[OX,QF];exact jz (aw (ae rfl)) ⟨rfl,trivial⟩
 exact⟨ω',e⟩
def N6 (B:List Wd) (l:List (List Int)):Prop:=∃ws,jr B ws/\wr B ws=l
def rc (kvs:List (bT×SV)) (q:Nat):Prop:=(cR kvs (.inl (q:Int))).isSome=Pb
theorem ji {kvs:List (bT×SV)} {k q:Nat} {x:SV}:rc (gR kvs (.inl (k:Int)) x) q↔q=k\/rc kvs q:=by
 unfold rc;rw[lm];by_cases h:q=k
 .subst h;rw[if_pos rfl];exact⟨fun _=> .inl rfl,fun _=>rfl⟩
 .rw[if_neg (fun z=>h (by have:=Sum.inl.inj z;omega))];exact⟨fun z=> .inr z,fun z=>z.resolve_left h⟩
structure LW (B:List Wd) (ss:List (List Int)) (kvs:List (bT×SV)):Prop where
 z:rc kvs 0
 g:∀q:Nat,0<q->∀x,cR kvs (.inl (q:Int))=lD x->q<=ss.length/\∃w s,x= .fz (tD w)/\dG B w=lD s/\s.length<=q/\(ss.drop (q - s.length)).take s.length=s/\rc kvs (q - s.length)
theorem LW.put {ss:List (List Int)} {kvs:List (bT×SV)} (l:LW B ss kvs) {p:Nat} {w:List Nat} {s:List (List Int)} (f:rc kvs p) (d:dG B w=lD s) (h1:1<=s.length) (hm:(ss.drop p).take s.length=s):LW B ss (gR kvs (.inl ((p+s.length:Nat):Int)) (.fz (tD w))):=by
 refine⟨ji.mpr (.inr l.z),fun q e x a=> ?_⟩;rw[lm] at a;by_cases h:q=p+s.length
 .subst h
  rw[if_pos rfl] at a;cases a;have t:s.length<=ss.length - p:=by have:=congrArg QY hm;rw[Qj,QE] at this;omega
  refine⟨by omega,w,s,rfl,d,by omega,?_,?_⟩
  .rw[Ve];exact hm
  .rw[Ve];exact ji.mpr (.inr f)
 .rw[if_neg (fun z=>h (by have:=Sum.inl.inj z;omega))] at a;obtain⟨r,b,c,o,n,m,j,i⟩:=l.g q e x a;exact⟨r,b,c,o,n,m,j,ji.mpr (.inr i)⟩
def On (B:List Wd) (ss:List (List Int)) (kvs:List (bT×SV)) (p:Nat):Prop:=rc kvs p->∀e∈B,(ss.drop p).take e.2.length=e.2->rc kvs (p+e.2.length)
theorem Js (a b:Nat):bZ (nd a) (nd b)=lD (.fz (nd (a+b))):=rfl
theorem Mf (h:BB B) (ss:List (List Int)) (hl:ss.length<=1000) (a:aW):∃kvs,cn [.fz (aF B),.fz (sD ss)] a= .ok (.rf a.length) (a++[.R9 kvs])/\LW B ss kvs/\∀p,p<ss.length->On B ss kvs p:=by
 obtain⟨x,m,e,kvs,rfl,rfl,h1,F⟩:∃x m,cn [.fz (aF B),.fz (sD ss)] a= .ok x m/\∃kvs,x= .rf a.length/\m=a++[.R9 kvs]/\LW B ss kvs/\∀p,p<ss.length->On B ss kvs p:=by
  refine kT (n:=7) (g:=fQ) (xs:=[.fz (aF B),.fz (sD ss)]) (T:=fun x m=>∃kvs,x= .rf a.length/\m=a++[.R9 kvs]/\LW B ss kvs/\∀p,p<ss.length->On B ss kvs p) (ρ:=[lD (.fz (aF B)),lD (.fz (sD ss)),Ld,Ld,Ld,Ld,Ld]) rfl ?_;refine bX (Gq (ps:=[(.inl 0,.fz .none)]) (ω1:=a) (D3 (x:= .fz (.int 0)) (y:= .fz .none) (ω1:=a) (ω2:=a) (aw rfl) rfl (aw rfl) G1) (by decide)) rfl ?_;have E:∀kvs:List (bT×SV),(a++[Cell.R9 kvs])[a.length]? =lD (.R9 kvs):=fun kvs=>aU;have N:∀P J:List (bT×SV),(a++[Cell.R9 P]).set a.length (.R9 J)=a++[.R9 J]:=fun P J=>by rw[W5 _ _ (O8 _),Tu];rfl
  have X:g8 dZ (af (jn fu (af (aa 1) au)) au) [lD (.fz (aF B)),lD (.fz (sD ss)),Ld,Ld,Ld,Ld,Ld]= .ok (qO (P9 ss.length),[lD (.fz (aF B)),lD (.fz (sD ss)),Ld,Ld,Ld,Ld,Ld]):=by have e1:=fT ss;have M:=tI (n:=ss.length) (by omega);walk_at "ev"
  refine gl (mX (fun p ρ ω=>∃kvs I u t o,ω=a++[.R9 kvs]/\kvs.length<=1+20*p/\LW B ss kvs/\(∀j,j<p->On B ss kvs j)/\ρ=[lD (.fz (aF B)),lD (.fz (sD ss)),lD (.rf a.length),I,u,t,o]) (iH X) ⟨[(.inl 0,.fz .none)],Ld,Ld,Ld,Ld,rfl,by decide,⟨rfl,fun q S x Q=> ?_⟩,fun j C=>by omega,rfl⟩ ?_ ?_)
  .have:cR [((.inl 0:bT),SV.fz .none)] (.inl (q:Int))=Ld:=by
    unfold cR;rw[PL,decide_eq_false (fun z=>by have:=Sum.inl.inj z;omega)];rfl
   rw[this] at Q;cases Q
  .rintro p d ρ ω Z ⟨kvs,I,u,t,o,rfl,hk,lw,on,rfl⟩
   obtain⟨c,K,rfl⟩:=eK Z;obtain⟨Y,rfl⟩:p<ss.length/\c=p:=by obtain⟨h1,F⟩:=O0.mp K;rw[PZ] at h1;rw[RN] at F;exact⟨h1,F.symm⟩
   refine⟨_,_,rfl,?_⟩;have d1:qB Ph (aq (aa 3)) (bw 2) [lD (.fz (aF B)),lD (.fz (sD ss)),lD (.rf a.length),lD (.fz (nd c)),u,t,o] (a++[.R9 kvs])= .ok (.fz (.bool (cR kvs (.inl (c:Int))).isSome)) (a++[.R9 kvs]):=by refine(Mx Ph (i:=a.length) (kvs:=kvs) (k:= .inl (c:Int)) (d:=nd c) rfl rfl rfl (E kvs)).trans ?_;rw[ZW]
   refine A0 (ci d1) (fun v=> ?_) (fun v=> ?_)
   .have L:rc kvs c:=v
    refine mX (fun j ρ ω=>∃l u t o,ω=a++[.R9 l]/\l.length<=kvs.length+j/\LW B ss l/\(∀q,rc kvs q->rc l q)/\(∀q,q<c+1->rc l q->rc kvs q)/\(∀e∈B.take j,(ss.drop c).take e.2.length=e.2->rc l (c+e.2.length))/\ρ=[lD (.fz (aF B)),lD (.fz (sD ss)),lD (.rf a.length),lD (.fz (nd c)),u,t,o]) (ds:=B.map wD) (ω1:=a++[.R9 kvs]) (iH (ρ':=dI [lD (.fz (aF B)),lD (.fz (sD ss)),lD (.rf a.length),lD (.fz (nd c)),u,t,o]) rfl) ⟨kvs,u,t,o,rfl,O8 _,lw,fun q z=>z,fun q _ z=>z,fun e w=>by simp at w,rfl⟩ ?_ ?_
    .rintro j d ρ ω C ⟨l,u,t,o,rfl,G,lw2,up,dn,hm,rfl⟩
     rw[Pg] at C;cases hw:B[j]? with
     |none=>rw[hw] at C;cases C
     |some e=>
      rw[hw] at C;cases C;have w:e∈B:=Pu hw;refine⟨[lD (.fz (aF B)),lD (.fz (sD ss)),lD (.rf a.length),lD (.fz (nd c)),lD (.fz (tD e.1)),lD (.fz (sD e.2)),o],_,rfl,?_⟩;have e1:=fT e.2;have M:=Js c e.2.length;refine bX (x:= .fz (nd (c+e.2.length))) (ω1:=a++[.R9 l]) (aw (d:=nd (c+e.2.length)) (by walk_at "evp")) rfl ?_;have U:=LY ss c (c+e.2.length) (by omega);rw[SK] at U;have e4:=oX ((ss.drop c).take e.2.length) e.2;have O:B.take (j+1)=B.take j++[e]:=by obtain⟨G,M⟩:=O0.mp hw;rw[QU G,M]
      refine A0 (b:=decide ((ss.drop c).take e.2.length=e.2)) (ω1:=a++[.R9 l]) (fE (by show a9 _ _=_;have e3':qp (sD ss) (lD ((c:Nat):Int)) (lD ((c+e.2.length:Nat):Int))=lD (.fz (sD ((ss.drop c).take e.2.length))):=U;walk_at "ev")) (fun v=> ?_) (fun v=> ?_)
      .have v:=of_decide_eq_true v
       refine sB (F8 (x:= .fz (nd (c+e.2.length))) (y:= .fz (tD e.1)) (k:= .inl ((c+e.2.length:Nat):Int)) (i:=a.length) (kvs:=l) (ω1:=a++[.R9 l]) (ω2:=a++[.R9 l]) (aw (ae rfl)) (bi rfl) (aw (ae rfl)) rfl (E l) (by have:=(O0.mp hw).1;have:=h.Xg;omega)) ?_;refine⟨_,lD (.fz (tD e.1)),lD (.fz (sD e.2)),lD (.fz (nd (c+e.2.length))),N _ _,?_,lw2.put (up c L) (iZ h.nd w) (h.s1 e w) v,fun q z=>ji.mpr (.inr (up q z)),fun q S z=> ?_,fun f r A=> ?_,rfl⟩
       .have:=F5 l (.inl ((c+e.2.length:Nat):Int)) (.fz (tD e.1));omega
       .have h1:=h.s1 e w
        rcases ji.mp z with z|z
        .omega
        .exact dn q S z
       .rw[O] at r
        rcases Pw.mp r with r|r
        .exact ji.mpr (.inr (hm f r A))
        .rw[Pk.mp r];exact ji.mpr (.inl rfl)
      .have v:=of_decide_eq_false v
       refine jZ ⟨l,lD (.fz (tD e.1)),lD (.fz (sD e.2)),lD (.fz (nd (c+e.2.length))),rfl,by omega,lw2,up,dn,fun f r A=> ?_,rfl⟩;rw[O] at r;rcases Pw.mp r with r|r
       .exact hm f r A
       .rw[Pk.mp r] at A;exact absurd A v
    .rintro ρ' m ⟨l,u,t,o,rfl,G,lw2,up,dn,hm,rfl⟩
     rw[OX] at G hm;rw[QF] at hm;have hB:=h.Xg;refine⟨l,_,u,t,o,rfl,by omega,lw2,fun j C H e w A=> ?_,rfl⟩;by_cases q:j=c
     .subst q;exact hm e w A
     .exact up _ (on j (by omega) (dn j (by omega) H) e w A)
   .refine jZ ⟨kvs,_,u,t,o,rfl,by omega,lw,fun j C H e w A=> ?_,rfl⟩
    by_cases q:j=c
    .subst q;have:(cR kvs (.inl (j:Int))).isSome=Pb:=H;rw[v] at this;cases this
    .exact on j (by omega) H e w A
  .rintro ρ' m ⟨kvs,I,u,t,o,rfl,hk,lw,on,rfl⟩;rw[fA,PZ] at on;exact jz (bi rfl) ⟨kvs,rfl,rfl,lw,on⟩
 exact⟨kvs,e,h1,F⟩
theorem j6 {α:Type} {l:List α} {k:Nat} {a:α} (h:l[k]? =lD a):l.take (k+1)=l.take k++[a]:=by obtain⟨b,e⟩:=O0.mp h;rw[QU b,e]
theorem xQ (B:List Wd) (a b:List (List Nat)):wr B (a++b)=wr B a++wr B b:=by unfold wr;rw[PB,XO]
theorem KS {ss:List (List Int)} {kvs:List (bT×SV)} (h:BB B) (l:LW B ss kvs) (j:∀p,p<ss.length->On B ss kvs p) (c:N6 B ss):rc kvs ss.length:=by
 obtain⟨a,hi,e⟩:=c;have b:∀k,k<=a.length->rc kvs (wr B (a.take k)).length:=by
  intro k
  induction k with
  |zero=>intro _;exact l.z
  |succ k m=>
   intro n;have i:k<a.length:=n;have f:a[k]? =lD a[k]:=Pq i;obtain⟨s,d⟩:=gU (hi _ (Pu f));have q:=j6 f;have o:a=a.take k++(a[k]::a.drop (k+1)):=by rw[<-QA i,QH]
   have g:ss=wr B (a.take k)++(s++wr B (a.drop (k+1))):=by
    rw[<-e]
    conv=>lhs;rw[o]
    rw[xQ,dM,d];rfl
   have mem:=c8 d;have h1:1<=s.length:=h.s1 _ mem;have r:(wr B (a.take k)).length+s.length<=ss.length:=by rw[g,OZ,OZ];omega
   have:=j (wr B (a.take k)).length (by omega) (m (by omega)) _ mem (by show(ss.drop _).take s.length=s;rw[g,Rb,ZY]);rw[q,kh,d,OZ];exact this
 have:=b a.length (O8 _);rw[QF,e] at this;exact this
theorem Hn (h:BB B) (ss:List (List Int)) (G:ss.length<=1000):(¬N6 B ss)\/∃ws i ω',jr B ws/\ws.length<=ss.length/\wr B ws=ss/\cc [.fz (aF B),.fz (sD ss)] []= .ok (.rf i) ω'/\ω'[i]? =lD (.lst ((ws.map tD).map .fz)):=by
 have A:=wz B h.nd;generalize hM:e9 [] (KN B)=M at A;obtain⟨kvs,L,u,C⟩:=Mf h ss G [Cell.R9 M];have o:∃x ω',cc [.fz (aF B),.fz (sD ss)] []= .ok x ω'/\((x= .fz .none/\¬rc kvs ss.length)\/∃i ws,x= .rf i/\jr B ws/\ws.length<=ss.length/\wr B ws=ss/\ω'[i]? =lD (.lst ((ws.map tD).map .fz))):=by
  refine kT (n:=7) (g:=gA) (xs:=[.fz (aF B),.fz (sD ss)]) (T:=fun x ω'=>(x= .fz .none/\¬rc kvs ss.length)\/∃i ws,x= .rf i/\jr B ws/\ws.length<=ss.length/\wr B ws=ss/\ω'[i]? =lD (.lst ((ws.map tD).map .fz))) (ρ:=[lD (.fz (aF B)),lD (.fz (sD ss)),Ld,Ld,Ld,Ld,Ld]) rfl ?_;refine bX (zU (x:= .fz (aF B)) (ω1:=[]) (rY rfl) (v5 B)) rfl ?_;rw[hM];have cl:kC cn 2 (bp (aq (aa 0)) (bp (aq (aa 1)) d5)) [lD (.fz (aF B)),lD (.fz (sD ss)),lD (.rf 0),Ld,Ld,Ld,Ld] [Cell.R9 M]= .ok (.rf 1) [Cell.R9 M,Cell.R9 kvs]:=by unfold kC;rw[aR (x:= .fz (aF B)) (xs:=[.fz (sD ss)]) (ω1:=[Cell.R9 M]) (ω2:=[Cell.R9 M]) (rY rfl) (aR (x:= .fz (sD ss)) (xs:=[]) (ω1:=[Cell.R9 M]) (ω2:=[Cell.R9 M]) (rY rfl) ce),RS.bind_ok,if_pos (show[SV.fz (aF B),SV.fz (sD ss)].length=2 from rfl),L];rfl
  refine bX cl rfl ?_;have U:=fT ss;refine bX (x:= .fz (nd ss.length)) (ω1:=[Cell.R9 M,Cell.R9 kvs]) (aw (d:=nd ss.length) (by walk_at "evp")) rfl ?_;have Q:qB Pb (aq (aa 4)) (bw 3) [lD (.fz (aF B)),lD (.fz (sD ss)),lD (.rf 0),lD (.rf 1),lD (.fz (nd ss.length)),Ld,Ld] [Cell.R9 M,Cell.R9 kvs]= .ok (.fz (.bool ((cR kvs (.inl (ss.length:Int))).isSome !=Pb))) [Cell.R9 M,Cell.R9 kvs]:=Mx Pb (d:=nd ss.length) (k:= .inl (ss.length:Int)) rfl rfl rfl rfl;refine Fo (ci Q) (fun l=> ?_) (fun l=> ?_)
  .refine CM (aw rfl) (.inl ⟨rfl,fun z=> ?_⟩);have z:(cR kvs (.inl (ss.length:Int))).isSome=Pb:=z;rw[z] at l;cases l
  .have H:rc kvs ss.length:=by
    show(cR kvs (.inl (ss.length:Int))).isSome=Pb;cases q:(cR kvs (.inl (ss.length:Int))).isSome with
    |true=>rfl
    |false=>rw[q] at l;cases l
   refine fW ?_;refine bX (pZ (ds:=[]) (f:=eX au) rfl) rfl ?_;refine gl ?_;refine yO (fun m ρ ω=>∃a t,ρ=[lD (.fz (aF B)),lD (.fz (sD ss)),lD (.rf 0),lD (.rf 1),lD (.fz (nd m)),lD (.rf 2),t]/\ω=[Cell.R9 M,Cell.R9 kvs,Cell.lst ((a.map tD).map .fz)]/\rc kvs m/\m<=ss.length/\jr B a/\a.length<=ss.length - m/\wr B a.reverse=ss.drop m) ?_ 1000000 ss.length _ _ (by omega) ⟨[],Ld,rfl,rfl,H,O8 _,fun w b=>(by cases b),by simp,by simp[jK]⟩;rintro m ρ ω ⟨a,t,rfl,rfl,hm,hml,hi,hal,b⟩;have K:J1 (nd m) (.int 0)=lD (.fz (.bool (decide ((0:Int)<m)))):=rfl;by_cases h0:m=0
   .subst h0;refine .inl ⟨fE (by walk_at "ev"),?_⟩;refine jz (HR (i:=2) (xs:=(a.map tD).map .fz) (ω1:=[Cell.R9 M,Cell.R9 kvs,Cell.lst ((a.map tD).map .fz)]) (bi rfl) rfl) (.inr ⟨3,a.reverse,rfl,fun w b=>hi w (Ue.mp b),by rw[QW];omega,b,?_⟩);show lD (Cell.lst ((a.map tD).map SV.fz).reverse)=_;rw[Ud,Ud]
   .have P:decide ((0:Int)<m)=Pb:=decide_eq_true (by omega)
    rw[P] at K;refine .inr ⟨fE (by walk_at "ev"),?_⟩;cases hx:cR kvs (.inl (m:Int)) with
    |none=>unfold rc at hm;rw[hx] at hm;cases hm
    |some x=>
     obtain⟨_,w,s,rfl,r,X,S,F⟩:=u.g m (by omega) x hx;refine bX (IL (d:=nd m) (k:= .inl (m:Int)) (kvs:=kvs) (i:=1) (y:= .fz (tD w)) rfl rfl rfl rfl hx) rfl ?_;refine uG (yW (xs:=(a.map tD).map .fz) (ys:=(a.map tD).map .fz) (x:= .fz (tD w)) (i:=2) (ω2:=[Cell.R9 M,Cell.R9 kvs,Cell.lst ((a.map tD).map .fz)]) (bi rfl) rfl (rY rfl) rfl (by rw[OX,OX];omega)) ?_;have I:cR M (.inr (tx w))=lD (.fz (sD s)):=by rw[A,r];rfl
     have O:=fT s;have N:v7 (nd m) (nd s.length)=lD (.fz (nd (m - s.length))):=by show lD (RV.fz (.int ((m:Int) - (s.length:Int))))=lD (RV.fz (.int ((m - s.length:Nat):Int)));rw[show((m - s.length:Nat):Int)=(m:Int) - (s.length:Int) by omega]
     have mem:=c8 r;have h1:1<=s.length:=h.s1 _ mem;refine sB (E3 (x:= .fz (nd m)) (y:= .fz (nd s.length)) (z:= .fz (nd (m - s.length))) (ω3:=[]) rfl (IS (xs:=[.fz (sD s)]) (ds:=[sD s]) (aR (IL (d:=tD w) (k:= .inr (tx w)) (kvs:=M) (i:=0) (y:= .fz (sD s)) rfl rfl rfl rfl I) ce) rfl O) (gC N)) ⟨m - s.length,by omega,a++[w],lD (.fz (tD w)),rfl,?_,F,by omega,fun v j=> ?_,?_,?_⟩
     .rw[PB,PB];rfl
     .rcases Pw.mp j with j|j
      .exact hi v j
      .rw[Pk.mp j];exact Pn.mpr ⟨_,mem,rfl⟩
     .rw[OZ,Qm];omega
     .rw[Sw,List.reverse_singleton,List.singleton_append,dM,r,b];show s++ss.drop m=ss.drop (m - s.length);have:=QH s.length (ss.drop (m - s.length));rw[S,ZX,show m - s.length+s.length=m by omega] at this;exact this
 obtain⟨x,ω',e,(⟨rfl,E⟩|⟨i,ws,rfl,hi,p,b,J⟩)⟩:=o
 .exact .inl fun c=>E (KS h u C c)
 .exact .inr ⟨ws,i,ω',hi,p,b,e,J⟩
theorem Ll {a b:List Nat} (ha:∀c∈a,c<1114112) (hb:∀c∈b,c<1114112):kW (tD a) (tD b)=lD (.fz (.bool (decide (a=b)))):=by
 have d:(Ce (tD a)&&(tD b).canLay0)=Pb:=by show((O9.strOk (tx a)&&decide (0<=64))&&O9.strOk (tx b))=Pb;rw[nu ha,nu hb];rfl
 unfold kW;rw[if_pos d,show O9.eqv (tD a) (tD b)=_ from oz a b]
theorem BB.nm (h:BB B):∀l∈B.map (·.1),∀c∈l,c<1114112:=fun l a=>by obtain⟨e,b,rfl⟩:=Pn.mp a;exact h.wc e b
theorem He (a b:List (List Int)) (h:a.length+b.length<=1000):wC (sD a) (sD b)=lD (.fz (sD (a++b))):=by have:=CW (a.map kD) (b.map kD) (by rw[OX,OX];exact h);rw[<-PB] at this;exact this
theorem eV (h:BB B) {ws:List (List Nat)} (hi:jr B ws) (M:(wr B ws).length<=1000):bG [aF B,.list (ws.map tD)]= .ok (.fz (sD (wr B ws))):=by
 unfold bG;refine jl (ρ:=[lD (.fz (aF B)),lD (.fz (.list (ws.map tD))),Ld,Ld,Ld,Ld]) rfl ?_;unfold gm;refine a5 (pv:= .fz (sD [])) (ρ3:=[lD (.fz (aF B)),lD (.fz (.list (ws.map tD))),lD (.fz (sD [])),Ld,Ld,Ld]) rfl rfl rfl ?_;refine eU (fun k ρ=>∃u g c,ρ=[lD (.fz (aF B)),lD (.fz (.list (ws.map tD))),lD (.fz (sD (wr B (ws.take k)))),u,g,c]) (ds:=ws.map tD) (ρ1:=[lD (.fz (aF B)),lD (.fz (.list (ws.map tD))),lD (.fz (sD [])),Ld,Ld,Ld]) rfl ⟨Ld,Ld,Ld,rfl⟩ ?_ ?_
 .rintro k d ρ n ⟨u,g,c,rfl⟩
  rw[Pg] at n;cases hw:ws[k]? with
  |none=>rw[hw] at n;cases n
  |some w=>
   rw[hw] at n;cases n;have J:=(O0.mp hw).1;have t:=hi w (Pu hw);have m:(wr B (ws.take k)).length+((dG B w).getD []).length<=1000:=by
    have z:wr B ws=wr B (ws.take (k+1))++wr B (ws.drop (k+1)):=by rw[<-xQ,QH]
    rw[j6 hw,kh] at z;have:=congrArg QY z;rw[OZ,OZ] at this;omega
   refine⟨[lD (.fz (aF B)),lD (.fz (.list (ws.map tD))),lD (.fz (sD (wr B (ws.take k)))),lD (.fz (tD w)),g,c],rfl,?_⟩;refine yl (fun j ρ=>∃g c,ρ=[lD (.fz (aF B)),lD (.fz (.list (ws.map tD))),lD (.fz (sD (wr B (ws.take k)++(dG (B.take j) w).getD []))),lD (.fz (tD w)),g,c]) (ds:=B.map wD) (ρ1:=[lD (.fz (aF B)),lD (.fz (.list (ws.map tD))),lD (.fz (sD (wr B (ws.take k)))),lD (.fz (tD w)),g,c]) rfl ⟨g,c,by rw[UG];show _=[_,_,lD (PV.fz (sD (wr B (ws.take k)++[]))),_,_,_];rw[PY]⟩ ?_ ?_
   .rintro j d ρ o ⟨g,c,rfl⟩
    rw[Pg] at o;cases he:B[j]? with
    |none=>rw[he] at o;cases o
    |some e=>
     rw[he] at o;cases o;have F:e∈B:=Pu he;refine⟨[lD (.fz (aF B)),lD (.fz (.list (ws.map tD))),lD (.fz (sD (wr B (ws.take k)++(dG (B.take j) w).getD []))),lD (.fz (tD w)),lD (.fz (tD e.1)),lD (.fz (sD e.2))],rfl,?_⟩;have N:=Ll (h.wc e F) (h.nm w t);have C:B.take (j+1)=B.take j++[e]:=j6 he;have E:∀(A:List Wd),dG (A++[e]) w=match dG A w with|some s=>lD s|none=>if e.1=w then lD e.2 else Ld:=by
      intro A
      induction A with
      |nil=>rfl
      |cons a r I=>
       rw[Y8,mj,mj];by_cases q:a.1=w
       .rw[if_pos q,if_pos q]
       .rw[if_neg q,if_neg q,I]
     refine nv (b:=decide (e.1=w)) (by walk_at "ev") (fun l=> ?_) (fun l=> ?_)
     .have l:=of_decide_eq_true l
      have hn:dG (B.take j) w=Ld:=by refine mz fun z=> ?_;obtain⟨f,K,q⟩:=Pn.mp z;obtain⟨i,v,rfl⟩:=Xn.mp K;rw[Qj] at v;rw[Vj] at q;obtain⟨L,G⟩:=O0.mp he;have:=Q1.mp h.nd i j (by rw[OX];omega) (by rw[OX];exact L) (by omega);rw[Ub,Ub,G] at this;exact this (q.trans l.symm)
      have H:dG B w=lD e.2:=by rw[<-l];exact iZ h.nd F
      rw[H] at m;have G:=He (wr B (ws.take k)) e.2 m;refine yQ (pv:= .fz (sD (wr B (ws.take k)++e.2))) (ρ3:=[lD (.fz (aF B)),lD (.fz (.list (ws.map tD))),lD (.fz (sD (wr B (ws.take k)++e.2))),lD (.fz (tD w)),lD (.fz (tD e.1)),lD (.fz (sD e.2))]) (by rw[hn];show aH wC (aa 2) (aa 5) [lD (.fz (aF B)),lD (.fz (.list (ws.map tD))),lD (.fz (sD (wr B (ws.take k)++[]))),lD (.fz (tD w)),lD (.fz (tD e.1)),lD (.fz (sD e.2))]=_;rw[PY];walk_at "evp") rfl rfl ⟨lD (.fz (tD e.1)),lD (.fz (sD e.2)),?_⟩;rw[C,E,hn,if_pos l];rfl
     .have l:=of_decide_eq_false l
      refine jh ⟨lD (.fz (tD e.1)),lD (.fz (sD e.2)),?_⟩;have:dG (B.take (j+1)) w=dG (B.take j) w:=by
       rw[C,E];cases dG (B.take j) w with
       |some s=>rfl
       |none=>exact if_neg l
      rw[this]
   .rintro p ⟨g,c,rfl⟩;rw[OX,QF];exact⟨_,g,c,by rw[j6 hw,kh]⟩
 .rintro p ⟨u,g,c,rfl⟩;rw[OX,QF];exact cL (ae rfl) rfl rfl
theorem yD (h:BB B):mF (dX (gT 2 (l8 (gN 0) (l8 (gN 1) yf))) e8 (aa 0) (B.map wD) [Ld,Ld] [])= .ok ((B.map (·.1)).map fun l=>O9.str (tx l)):=by have:=h.Xg;rw[Qf];refine n5 (fun ρ=>∃o p,ρ=[o,p]) B (by omega) ⟨Ld,Ld,rfl⟩ ?_;rintro e _ ρ ⟨o,p,rfl⟩;exact⟨_,GB rfl rfl (ae rfl) rfl rfl,_,_,rfl⟩
theorem xJ (h:BB B) {ws:List (List Nat)} (hi:jr B ws) (o:ws.length<=1000):de [.list (ws.map tD),aF B]= .ok (.fz (.bool Pb)):=by
 unfold de;refine jl (ρ:=[lD (.fz (.list (ws.map tD))),lD (.fz (aF B))]) rfl ?_;unfold kL;have m:mF (dX (gN 0) e8 (yI (uO "str" (aa 0)) (aH Lr (aa 0) (jp 2 [] (iK (aa 1)) (gT 2 (l8 (gN 0) (l8 (gN 1) yf))) e8 (aa 0)))) (ws.map tD) [Ld,lD (.fz (aF B))] [])= .ok (ws.map fun _=>O9.bool Pb):=by refine Ai (f:=tD) (g:=fun _=>O9.bool Pb) ws (by omega) rfl fun w c=> ?_;have d:=JU (w:=w) (L:=B.map (·.1)) (h.nm w (hi w c)) h.nm;rw[decide_eq_true (hi w c)] at d;have j:=df (f:=Lr) (fa:=aa 0) (fb:=jp 2 [] (iK (aa 1)) (gT 2 (l8 (gN 0) (l8 (gN 1) yf))) e8 (aa 0)) (ρ:=[lD (.fz (tD w)),lD (.fz (aF B))]) (dx:= .str (tx w)) (dy:= .list ((B.map (·.1)).map fun l=>O9.str (tx l))) (ae rfl) (lI (ds:=B.map wD) rfl rfl (yD h)) rfl rfl d;exact oC (a:=Pb) (b:=Pb) (bu (uY (ae rfl) rfl rfl) rfl) fun _=>j
 have i:uO "list" (aa 0) [lD (.fz (.list (ws.map tD))),lD (.fz (aF B))]= .ok (.fz (.bool Pb),[lD (.fz (.list (ws.map tD))),lD (.fz (aF B))]):=uY (n:= "list") (t:= "list") (ae rfl) rfl rfl;refine kw (b:=Ph) (kl (a:=Pb) (bu i rfl)) (fun q=>by cases q) (fun _=> ?_);refine dB ?_;have e:FU [.list (ws.map fun _=>O9.bool Pb)]=lD (.fz (.bool (ws.all fun _=>Pb))):=Ck (fun _=>Pb) ws;rw[show(ws.all fun _=>Pb)=Pb from Qk.mpr fun _ _=>rfl] at e;exact cL (pv:= .fz (.bool Pb)) (Cp (aj (lI (ds:=ws.map tD) rfl rfl m) aC) rfl e) rfl rfl
end
theorem Fy {B:List Wd} (r:BB B) {W:Mp} {ω1:aW} (e:bH [.fz (aF B)] []= .ok (.rf 0) ω1) (h1:ω1[0]? =lD (.dd (d8 W))) (o:Full B W []):∃(L:List Rp) (j:Nat) (c:aW),dJ [.fz (aF B)] []= .ok (.rf j) c/\c[j]? =lD (.lst ((L.map c7).map .fz))/\L.Perm (W.map rp):=by
 obtain⟨L,p,s⟩:=tj xc (W.map rp);refine⟨L,ω1.length+1,ω1++[.lst ((W.map fun q=>c7 (rp q)).map .fz)]++[.lst ((L.map c7).map .fz)],?_,by rw[show ω1.length+1=(ω1++[Cell.lst ((W.map fun q=>c7 (rp q)).map .fz)]).length by simp];exact aU,p⟩;unfold dJ oA;have u:LD.Uz (d8 W)=lD (W.map fun q=>c7 (rp q)):=by
  unfold LD.Uz;have l1:=kO r o.iv;rw[if_pos (by rw[oB];omega)];have m:(d8 W).map (·.1)=W.map fun q=>sD q.1:=by unfold d8;rw[Qf];rfl
  rw[m];refine j7 fun q v=> ?_;unfold LD.restOf;rw[je,tX o.iv.wn v];rfl
 have rk:LD.U5 1 [lD (.fz (aF B)),lD (.rf 0)] ω1= .ok (.rf ω1.length) (ω1++[.lst ((W.map fun q=>c7 (rp q)).map .fz)]):=by unfold LD.U5;show((RS.Qi ω1 (gZ ω1 (.rf 0))).bind _)=_;rw[jH h1];show((RS.Qi ω1 (LD.Uz (d8 W))).bind _)=_;rw[u];rfl
 have m:(W.map fun q=>c7 (rp q))=(W.map rp).map c7:=by rw[Qf];rfl
 have t:LD.U7 (W.map fun q=>c7 (rp q))=L.map c7:=by rw[m];refine LD.VN (zj _) (p.map c7) ?_;unfold LD.Srt;exact SX.mpr (s.imp fun{a b} h=>by rw[rN,h])
 have n:LD.Wf (LD.U5 1) [lD (.fz (aF B)),lD (.rf 0)] ω1= .ok (.rf (ω1.length+1)) (ω1++[.lst ((W.map fun q=>c7 (rp q)).map .fz)]++[.lst ((L.map c7).map .fz)]):=by
  unfold LD.Wf;rw[rk,RS.bind_ok];have la:LD.VI (ω1++[.lst ((W.map fun q=>c7 (rp q)).map .fz)]) (.rf ω1.length)=lD ((W.map fun q=>c7 (rp q)).map .fz):=by unfold LD.VI;dsimp only;rw[show(ω1++[Cell.lst ((W.map fun q=>c7 (rp q)).map .fz)])[ω1.length]? =lD (.lst ((W.map fun q=>c7 (rp q)).map .fz)) from aU]
  rw[la];show((RS.Qi _ (ar mJ ((W.map fun q=>c7 (rp q)).map .fz))).bind _)=_;rw[show ar mJ ((W.map fun q=>c7 (rp q)).map SV.fz)=lD (W.map fun q=>c7 (rp q)) by have:=j7 (f:=mJ) (g:=SV.fz) (h:=fun d=>d) (l:=W.map fun q=>c7 (rp q)) fun _ _=>rfl;rw[this,aaY]];have l1:=kO r o.iv;refine Eq.trans (if_pos ⟨by rw[m];exact zj _,by rw[OX];omega⟩) ?_;rw[t];simp
 exact FH rfl (Cj (DA (i:=1) (ρ1:=[lD (.fz (aF B)),lD (.rf 0)]) (lR (xs:=[.fz (aF B)]) (aR (aw (ae rfl)) ce) rfl e) rfl) (xq n))
section
variable {ρ ρ1:aX} {ω ω1 ω2 ω3:aW} {x y z:SV} {i:Nat} {d:D} {ds:List D}
theorem dH {F:qN} {n:Nat} {fa:AR} {xs:List SV} (ha:fa ρ ω= .ok xs ω1) (a:jq F n xs ω1= .ok x ω2):gJ F n fa ρ ω= .ok x ω2:=by unfold gJ;rw[ha,RS.bind_ok,a];rfl
theorem E4 {f:List D->Option RV} {fa:AR} {xs:List SV} {a:List D} (ha:fa ρ ω= .ok xs ω1) (hs:ar (sh ω1) xs=lD ds) (h:f ds=lD (.ow a)):Cw f fa ρ ω= .ok (.rf ω1.length) (ω1++[.lst (a.map .fz)]):=by unfold Cw;rw[ha,RS.bind_ok];unfold HI;rw[hs];show((RS.Qi ω1 (f ds)).bind fun rv ω1=>jo ω1 rv)=_;rw[h];rfl
theorem Ds (n:Nat):∀ds:List D,ar (kS n ω) (ds.map .fz)=lD ds
 |[]=>rfl
 |d::r=>by rw[Pd];unfold ar;rw[show kS n ω (.fz d)=lD d by cases n<;>rfl];dsimp only;rw[Ds n r]
theorem pJ (n:Nat) (h:ω[i]? =lD (.lst (ds.map .fz))):kS (n+1) ω (.rf i)=lD (.list ds):=by unfold kS;rw[h];dsimp only;rw[Ds];rfl
theorem kM (h:ω[i]? =lD (.lst (ds.map .fz))):sh ω (.rf i)=lD (.list ds):=by unfold sh;dsimp only;rw[h];dsimp only;rw[oE];rfl
theorem La {fe:cE} {ps:List (D×D)} (f:fe ρ ω= .ok (.rf i) ω1) (b:ω1[i]? =lD (.lst (ds.map .fz))) (h:ar LD.UL ds=lD ps) (hn:ps.length<1000000):LD.ZN fe ρ ω= .ok (.rf ω1.length) (ω1++[.dd (LD.mgD [] ps)]):=by
 have e:LD.Vw ω1 (.rf i)=lD ps:=by
  unfold LD.Vw;dsimp only;rw[b];dsimp only;have:ar G9 (ds.map SV.fz)=lD ds:=by
   clear b h
   induction ds with
   |nil=>rfl
   |cons a r c=>rw[Pd];unfold ar;rw[show G9 (SV.fz a)=lD a from rfl];dsimp only;rw[c]
  rw[this];exact h
 unfold LD.ZN;rw[f,RS.bind_ok,e];exact if_pos hn
theorem og {f:FE} {ρ':aO} (h:f (dI ρ)= .ok (.ow ds,ρ')):oT (aq f) ρ ω= .ok (.fz (.list ds)) (ω++[.dead]):=u7 (pZ h) (by rw[u6 aU];simp)
end
theorem AX {B:List Wd} (r:BB B):∃(W:Mp) (L:List Rp) (j:Nat) (a:aW),Full B W []/\Bd B W []/\L.Perm (W.map rp)/\dJ [.fz (aF B)] []= .ok (.rf j) a/\a[j]? =lD (.lst ((L.map c7).map .fz))/\
  ((fq W []=Ld/\∃ω',aV [.fz (aF B)] []= .ok (.fz .none) ω')\/∃w i j ω',fq W []=lD w/\aV [.fz (aF B)] []= .ok (.tp [.rf i,.rf j]) ω'/\i≠j/\ω'[i]? =lD (.lst ((w.lo.map tD).map .fz))/\ω'[j]? =lD (.lst ((w.sh.map tD).map .fz))):=by
 obtain⟨W,ω1,d,b,q,C⟩:=nr r [];have d:bH [.fz (aF B)] []= .ok (.rf 0) ω1:=d;have b:ω1[0]? =lD (.dd (d8 W)):=b;obtain⟨L,j,a,z,A,p⟩:=Fy r d b q;refine⟨W,L,j,a,q,C,p,z,A,?_⟩;obtain⟨x,ω',e,h⟩:=kT (n:=2) (g:=ke) (xs:=[.fz (aF B)]) (ω:=[]) (ρ:=[lD (.fz (aF B)),Ld]) (T:=fun x ω'=>(fq W []=Ld/\x= .fz .none)\/∃w i j,fq W []=lD w/\x= .tp [.rf i,.rf j]/\i≠j/\ω'[i]? =lD (.lst ((w.lo.map tD).map .fz))/\ω'[j]? =lD (.lst ((w.sh.map tD).map .fz))) rfl (by
  unfold ke;refine bX (x:= .rf 0) (ω1:=ω1) (ρ1:=[lD (.fz (aF B)),lD (.rf 0)]) (lR (xs:=[.fz (aF B)]) (aR (aw (ae rfl)) ce) rfl d) rfl ?_;have o:aq (bV au) [lD (.fz (aF B)),lD (.rf 0)] ω1= .ok (.fz (sD [])) ω1:=aw (dU (ds:=[]) aC rfl (Qb _));have c:=oK (neg:=Pb) (fd:=bw 1) (ρ:=[lD (.fz (aF B)),lD (.rf 0)]) o (bi rfl) (fS []) b;rw[je,RA] at c;cases g:fq W [] with
  |none=>rw[g] at c;exact JJ (ci c) (CM (aw bI) (.inl ⟨rfl,rfl⟩))
  |some w=>
   rw[g] at c;refine jD (ci c) (fW ?_);have t:bS (d8 W) (sD [])=lD (bN w):=by rw[je,g];rfl
   have F:=pB (fd:=bw 1) (ρ:=[lD (.fz (aF B)),lD (.rf 0)]) (bi rfl) o (fS []) b t;obtain⟨_,_,v,u⟩:=M0 w;have l:(ω1++[Cell.lst ((w.lo.map tD).map .fz)])[0]? =lD (.dd (d8 W)):=jf b;have f:aq (bV au) [lD (.fz (aF B)),lD (.rf 0)] (ω1++[Cell.lst ((w.lo.map tD).map .fz)])= .ok (.fz (sD [])) (ω1++[Cell.lst ((w.lo.map tD).map .fz)]):=aw (dU (ds:=[]) aC rfl (Qb _));have m:=pB (fd:=bw 1) (ρ:=[lD (.fz (aF B)),lD (.rf 0)]) (bi rfl) f (fS []) l t;have H:Cw qZ (bp (rF (iR (bw 1) (aq (bV au))) (aq (pC (.int 2)))) d5) [lD (.fz (aF B)),lD (.rf 0)] ω1= .ok (.rf ω1.length) (ω1++[.lst ((w.lo.map tD).map .fz)]):=E4 (xs:=[.fz (.tuple (w.lo.map tD))]) (ds:=[.tuple (w.lo.map tD)]) (aR (uo F (aw bI) v) ce) rfl rfl;have G:Cw qZ (bp (rF (iR (bw 1) (aq (bV au))) (aq (pC (.int 3)))) d5) [lD (.fz (aF B)),lD (.rf 0)] (ω1++[Cell.lst ((w.lo.map tD).map .fz)])= .ok (.rf (ω1++[Cell.lst ((w.lo.map tD).map .fz)]).length) (ω1++[Cell.lst ((w.lo.map tD).map .fz)]++[.lst ((w.sh.map tD).map .fz)]):=E4 (xs:=[.fz (.tuple (w.sh.map tD))]) (ds:=[.tuple (w.sh.map tD)]) (aR (uo m (aw bI) u) ce) rfl rfl;have l1:(ω1++[Cell.lst ((w.lo.map tD).map SV.fz)]).length=ω1.length+1:=by rw[OZ];rfl
   refine jz (x:= .tp [.rf ω1.length,.rf (ω1++[Cell.lst ((w.lo.map tD).map .fz)]).length]) (L6 (xs:=[.rf ω1.length,.rf (ω1++[Cell.lst ((w.lo.map tD).map .fz)]).length]) (aR H (aR G ce)) (P4 rfl) rfl rfl) (.inr ⟨w,_,_,rfl,rfl,by rw[l1];omega,jf aU,aU⟩))
 rcases h with⟨h1,rfl⟩|⟨w,i,j,h1,rfl,E⟩
 .exact .inl ⟨h1,ω',e⟩
 .exact .inr ⟨w,i,j,ω',h1,e,E⟩
def jd (L:List Rp):List (D×D):=L.map fun a=>(sD a.1,nd a.2)
theorem Iu:∀(C A:List Rp),((A++C).map (·.1)).Nodup->LD.mgD (jd A) (jd C)=jd (A++C)
 |[],A,_=>by rw[PY];rfl
 |c::C,A,h=>by
  show LD.mgD (jP (jd A) (sD c.1) (nd c.2)) (jd C)=_;have e:jP (jd A) (sD c.1) (nd c.2)=jd (A++[c]):=by
   unfold jP;rw[if_neg]
   .unfold jd;rw[PB];rfl
   .intro z;obtain⟨f,d⟩:=Q3.mp z;have h1:=Wi d;have b:=Zr d;obtain⟨a,ha,rfl⟩:=Pn.mp h1;have b:O9.eqv (sD a.1) (sD c.1)=Pb:=b;rw[gX] at b;rw[PB,SW] at h;exact h.2.2 a.1 (Pn.mpr ⟨a,ha,rfl⟩) c.1 (Pn.mpr ⟨c,Pr,rfl⟩) (of_decide_eq_true b)
  rw[e,Iu C (A++[c]) (by rw[PR];exact h),PR];rfl
theorem DF:∀{L:List Rp},(L.map (·.1)).Nodup->∀a∈L,bS (jd L) (sD a.1)=lD (nd a.2)
 |b::L,h,a,ha=>by
  have e:bS (jd (b::L)) (sD a.1)=if b.1=a.1 then lD (nd b.2) else bS (jd L) (sD a.1):=by
   unfold bS jd;rw[Pd,PL,gX];by_cases q:b.1=a.1
   .rw[decide_eq_true q,if_pos q];rfl
   .rw[decide_eq_false q,if_neg q]
  rw[e];obtain⟨h1,c⟩:=Qr.mp h;rcases Py.mp ha with rfl|ha
  .rw[if_pos rfl]
  .rw[if_neg (fun z=>h1 (Pn.mpr ⟨a,ha,z.symm⟩))];exact DF c a ha
theorem Gm (r:Rs):LD.keyD (sD r)=Pb:=by
 have:=fS r;by_cases h:LD.keyD (sD r)=Pb
 .exact h
 .have z:ik (.fz (sD r))=Ld:=if_neg h;rw[z] at this;cases this
theorem GA (L:List Rp):ar LD.UL (L.map c7)=lD (jd L):=j7 fun a _=>by show(if LD.keyD (sD a.1)=Pb then lD (sD a.1,nd a.2) else Ld)=_;rw[if_pos (Gm a.1)]
theorem ue:∀a b:List (List Nat),O9.eqvAll (a.map tD) (b.map tD)=decide (a=b)
 |[],[]=>rfl
 |[],_::_=>rfl
 |_::_,[]=>rfl
 |x::r,y::t=>by
  show(O9.eqv (.str (tx x)) (.str (tx y))&&O9.eqvAll (r.map tD) (t.map tD))=_;rw[oz,ue r t];by_cases h1:x=y
  .by_cases c:r=t
   .rw[decide_eq_true h1,decide_eq_true c,decide_eq_true (by rw[h1,c])];rfl
   .rw[decide_eq_false c,decide_eq_false (fun z=>c (Sm z).2),V6]
  .rw[decide_eq_false h1,decide_eq_false (fun z=>h1 (Sm z).1)];rfl
theorem CK {a b:List (List Nat)} (ha:kt a) (hb:kt b):(Ce (.list (a.map tD))&&O9.canLay0 (.list (b.map tD)))=Pb:=by show((O9.canLayAll0 (a.map tD)&&decide (O9.depthAll (a.map tD)+1<=64))&&O9.canLayAll0 (b.map tD))=Pb;rw[oi,lZ ha,lZ hb];rfl
theorem zo {a b:List (List Nat)} (ha:kt a) (hb:kt b):kW (.list (a.map tD)) (.list (b.map tD))=lD (.fz (.bool (decide (a=b)))):=by unfold kW;rw[if_pos (CK ha hb),show O9.eqv (.list (a.map tD)) (.list (b.map tD))=_ from ue a b]
theorem GU {a b:List (List Nat)} (ha:kt a) (hb:kt b):vE (.list (a.map tD)) (.list (b.map tD))=lD (.fz (.bool (!decide (a=b)))):=by unfold vE;rw[if_pos (CK ha hb),show O9.eqv (.list (a.map tD)) (.list (b.map tD))=_ from ue a b]
theorem ML (a b:Nat):kW (nd a) (nd b)=lD (.fz (.bool (decide (a=b)))):=by rw[iQ];congr 3;exact decide_eq_decide.mpr (by omega)
theorem BC {B:List Wd} (c:BB B) {w:Wy} (d:YQ B ([],w)) (I:w.p<=1000):cQ [aF B,.tuple [.list (w.lo.map tD),.list (w.sh.map tD)],nd w.p]= .ok (.fz (.bool Pb)):=by
 have g:jr B w.lo:=d.i;have f:jr B w.sh:=d.j;have H:w.p=(wr B w.lo).length:=d.p;have n:wr B w.lo=wr B w.sh:=by have:=d.e;rw[PY] at this;exact this
 have l1:=pH c g;have m:=pH c f;rw[<-n] at m;have E:=xJ c g (by omega);have C:=xJ c f (by omega);have A:=eV c g (by omega);have v:=eV c f (by rw[<-n];omega);have ne:w.lo≠w.sh:=fun z=>d.u (by show w.lo.head? =w.sh.head?;rw[z]);have t:=zo (eI c g) (eI c f);rw[decide_eq_false ne] at t;have r:=oX (wr B w.lo) (wr B w.sh);rw[decide_eq_true n] at r;have G:=fT (wr B w.lo);have o:=ML (wr B w.lo).length w.p;rw[decide_eq_true H.symm] at o;have l:dR (.tuple [.list (w.lo.map tD),.list (w.sh.map tD)]) (.int 0)=lD (.fz (.list (w.lo.map tD))):=rfl;have h:dR (.tuple [.list (w.lo.map tD),.list (w.sh.map tD)]) (.int 1)=lD (.fz (.list (w.sh.map tD))):=rfl;have m:fu [.tuple [.list (w.lo.map tD),.list (w.sh.map tD)]]=lD (.fz (nd 2)):=rfl;have F:vE (nd 2) (.int 2)=lD (.fz (.bool Ph)):=rfl;refine jl (ρ:=[lD (.fz (aF B)),lD (.fz (.tuple [.list (w.lo.map tD),.list (w.sh.map tD)])),lD (.fz (nd w.p)),Ld]) rfl ?_;unfold ej;refine kw (b:= !Pb||false) (mB (kl (bu (uY (ae rfl) rfl rfl) rfl)) fun _=>bu (df (cX (rv:= .fz (nd 2)) (aj (ae rfl) aC) rfl m) bI rfl rfl F) rfl) (fun q=>by cases q) fun _=>dB ?_;refine kw (b:= !Pb||(!Pb||false)) (mB (kl (bu (i8 (aj (bf (rv:= .fz (.list (w.lo.map tD))) (ae rfl) bI rfl rfl l) (aj (ae rfl) aC)) rfl rfl E) rfl)) fun _=>mB (kl (bu (i8 (aj (bf (rv:= .fz (.list (w.sh.map tD))) (ae rfl) bI rfl rfl h) (aj (ae rfl) aC)) rfl rfl C) rfl)) fun _=>bu (df (bf (rv:= .fz (.list (w.lo.map tD))) (ae rfl) bI rfl rfl l) (bf (rv:= .fz (.list (w.sh.map tD))) (ae rfl) bI rfl rfl h) rfl rfl t) rfl) (fun q=>by cases q) fun _=>dB ?_;refine a5 (pv:= .fz (sD (wr B w.lo))) (ρ3:=[lD (.fz (aF B)),lD (.fz (.tuple [.list (w.lo.map tD),.list (w.sh.map tD)])),lD (.fz (nd w.p)),lD (.fz (sD (wr B w.lo)))]) (cH (rv:= .fz (sD (wr B w.lo))) (aj (ae rfl) (aj (bf (rv:= .fz (.list (w.lo.map tD))) (ae rfl) bI rfl rfl l) aC)) rfl rfl A) rfl rfl ?_;exact cL (oC (a:=Pb) (b:=Pb) (bu (df (ae rfl) (cH (rv:= .fz (sD (wr B w.sh))) (aj (ae rfl) (aj (bf (rv:= .fz (.list (w.sh.map tD))) (ae rfl) bI rfl rfl h) aC)) rfl rfl v) rfl rfl r) rfl) fun _=>df (cX (rv:= .fz (nd (wr B w.lo).length)) (aj (ae rfl) aC) rfl G) (ae rfl) rfl rfl o) rfl rfl
theorem Kd {L:List Rp} {r:Rs} (h:∀a∈L,a.1≠r):bS (jd L) (sD r)=Ld:=by unfold bS jd;rw[Ug,Tz];intro c b;obtain⟨a,ha,rfl⟩:=Pn.mp b;show¬O9.eqv (sD a.1) (sD r)=Pb;rw[gX,decide_eq_true_eq];exact h a ha
theorem Af {M:Mp} {r:Rs} (h:fq M r=Ld):∀q∈M,q.1≠r:=by unfold fq at h;rw[Ug] at h;exact sA (by rw[h];simp)
theorem sR (a b:Bool):vE (.bool a) (.bool b)=lD (.fz (.bool (!(a==b)))):=by cases a<;>cases b<;>rfl
theorem FL {n:Nat} (h:0<n):F3 n (-1)=lD (n - 1):=by unfold F3;rw[if_neg (by omega)];rw[show(if -(n:Int)<= -1 then _ else _)=_ from if_pos (by omega)];congr 1;omega
theorem FJ {ds:List D} {d:D}:dR (.tuple (ds++[d])) (.int (-1))=lD (.fz d):=by show(kU (ds++[d]) (-1)).map RV.fz=_;unfold kU;rw[FL (by simp)];show((ds++[d])[(ds++[d]).length - 1]?).map RV.fz=_;rw[OZ,Qm,Ve,PH (O8 _),Tu];rfl
theorem wG {B:List Wd} (m:BB B) (h1:1<=B.length) {W:Mp} {L:List Rp} {j:Nat} {c:aW} (C:Full B W []) (X:Bd B W []) (p:L.Perm (W.map rp)) (S:dJ [.fz (aF B)] []= .ok (.rf j) c) (U:c[j]? =lD (.lst ((L.map c7).map .fz)))
  (Q:(fq W []=Ld/\∃ω',aV [.fz (aF B)] []= .ok (.fz .none) ω')\/∃w i j ω',fq W []=lD w/\aV [.fz (aF B)] []= .ok (.tp [.rf i,.rf j]) ω'/\i≠j/\ω'[i]? =lD (.lst ((w.lo.map tD).map .fz))/\ω'[j]? =lD (.lst ((w.sh.map tD).map .fz))):
  ∃ω',bq [.fz (aF B)] []= .ok (.fz (.bool Pb)) ω':=by
 have aix:=kO m C.iv;have hl:L.length<=140:=by rw[p.length_eq,OX];omega
 have f:(L.map (·.1)).Nodup:=by
  have:(L.map (·.1)).Perm (W.map (·.1)):=by have:=p.map (·.1);rwa [Qf] at this
  exact this.nodup_iff.mpr C.iv.wn
 obtain⟨ω',e,_⟩:∃ω',bq [.fz (aF B)] []= .ok (.fz (.bool Pb)) ω'/\True:=by
  refine Fm (ρ:=[lD (.fz (aF B)),Ld,Ld,Ld]) rfl ?_;unfold iU;have c1:jq dJ 1 [.fz (aF B)] []= .ok (.rf 0) [.lst ((L.map c7).map .fz)]:=by show(match dJ [.fz (aF B)] [] with| .ok x ω'=>dQ x ω' []| .er x _=> .er x []| .bad=> .bad)=_;rw[S];show(match sh c (.rf j) with|some (.list ds)=>jo [] (.ow ds)|_=> .bad)=_;rw[kM U];rfl
  have I:=La (fe:=gJ dJ 1 (bp (aq (aa 0)) d5)) (ρ:=[lD (.fz (aF B)),Ld,Ld,Ld]) (ω:=[]) (ω1:=[.lst ((L.map c7).map .fz)]) (i:=0) (dH (xs:=[.fz (aF B)]) (aR (aw (ae rfl)) ce) c1) rfl (GA L) (by unfold jd;rw[OX];omega);rw[show LD.mgD [] (jd L)=jd L from Iu L [] f] at I;refine bX (x:= .rf 1) (ω1:=[.lst ((L.map c7).map .fz),.dd (jd L)]) (ρ1:=[lD (.fz (aF B)),lD (.rf 1),Ld,Ld]) I rfl ?_;refine gl (mX (fun _ ρ ω=>∃(r l:Option SV) (J:aW),ρ=[lD (.fz (aF B)),lD (.rf 1),r,l]/\ω= .lst ((L.map c7).map .fz):: .dd (jd L)::J) (ds:=[nd 0,nd 1]) (ω1:=[.lst ((L.map c7).map .fz),.dd (jd L)]) (iH (lS (ds:=[.int 2]) (aj bI aC) rfl rfl)) ⟨Ld,Ld,[],rfl,rfl⟩ ?_ ?_)
  .rintro k d ρ ω hd ⟨r,l,J,rfl,rfl⟩
   refine⟨[lD (.fz (aF B)),lD (.rf 1),lD (.fz d),l],.lst ((L.map c7).map .fz):: .dd (jd L)::J,rfl,?_⟩;have t:∀(a b:Option SV) (ω:aW),aq (bV au) [lD (.fz (aF B)),lD (.rf 1),a,b] ω= .ok (.fz (sD [])) ω:=fun a b ω=>aw (dU (ds:=[]) aC rfl (Qb _));rcases Q with⟨hn,ω',E⟩|⟨w,i,j,ω',P,E,A,hi,VR⟩
   .have F:jq aV 1 [.fz (aF B)] (.lst ((L.map c7).map .fz):: .dd (jd L)::J)= .ok (.fz .none) (.lst ((L.map c7).map .fz):: .dd (jd L)::J):=by
     show(match aV [.fz (aF B)] [] with| .ok x ω'=>dQ x ω' _| .er x _=> .er x _| .bad=> .bad)=_;rw[E];rfl
    refine bX (x:= .fz .none) (ρ1:=[lD (.fz (aF B)),lD (.rf 1),lD (.fz d),lD (.fz .none)]) (dH (xs:=[.fz (aF B)]) (aR (aw (ae rfl)) ce) F) rfl ?_;have Y:bS (jd L) (sD [])=Ld:=Kd fun a ha=>by obtain⟨q,T,rfl⟩:=Pn.mp (p.mem_iff.mp ha);exact Af hn q T
    have h:=oK (neg:=Pb) (fk:=aq (bV au)) (fd:=bw 1) (ρ:=[lD (.fz (aF B)),lD (.rf 1),lD (.fz d),lD (.fz .none)]) (ω:= .lst ((L.map c7).map .fz):: .dd (jd L)::J) (t _ _ _) (i:=1) (bi rfl) (fS []) rfl;rw[Y] at h;have v:sO .none .none=lD (.fz (.bool Pb)):=rfl;have u:Eu .none .none=lD (.fz (.bool Ph)):=rfl;refine jD (ci (jG (x:= .fz (.bool Pb)) (y:= .fz (.bool Pb)) (jG (bi rfl) (aw bI) (gC v)) h (gC (sR Pb Pb)))) (fW ?_);exact yt (ci (jG (bi rfl) (aw bI) (gC u))) (jZ ⟨_,_,J,rfl,rfl⟩)
   .have F:jq aV 1 [.fz (aF B)] (.lst ((L.map c7).map .fz):: .dd (jd L)::J)= .ok (.tp [.rf (J.length+2),.rf (J.length+3)]) (.lst ((L.map c7).map .fz):: .dd (jd L)::(J++[.lst ((w.lo.map tD).map .fz),.lst ((w.sh.map tD).map .fz)])):=by
     show(match aV [.fz (aF B)] [] with| .ok x ω'=>dQ x ω' _| .er x _=> .er x _| .bad=> .bad)=_;rw[E];show(match wv ω' (J.length+2) [.rf i,.rf j] with|some (l',cs,js)=>if js.Nodup then RS.ok (SV.tp l') (_++cs.map M9) else .bad|none=> .bad)=_;have g:wv ω' (J.length+2) [.rf i,.rf j]=lD ([.rf (J.length+2),.rf (J.length+3)],[w.lo.map tD,w.sh.map tD],[i,j]):=by unfold wv;rw[kM hi];dsimp only;unfold wv;rw[kM VR];rfl
     rw[g];exact if_pos (by simp[A])
    refine bX (x:= .tp [.rf (J.length+2),.rf (J.length+3)]) (ρ1:=[lD (.fz (aF B)),lD (.rf 1),lD (.fz d),lD (.tp [.rf (J.length+2),.rf (J.length+3)])]) (dH (xs:=[.fz (aF B)]) (aR (aw (ae rfl)) ce) F) rfl ?_;have o:(Cell.lst ((L.map c7).map .fz)::Cell.dd (jd L)::(J++[Cell.lst ((w.lo.map tD).map .fz),Cell.lst ((w.sh.map tD).map .fz)]))[J.length+2]? =lD (.lst ((w.lo.map tD).map .fz)):=by rw[QQ,QQ];simp
    have n:(Cell.lst ((L.map c7).map .fz)::Cell.dd (jd L)::(J++[Cell.lst ((w.lo.map tD).map .fz),Cell.lst ((w.sh.map tD).map .fz)]))[J.length+3]? =lD (.lst ((w.sh.map tD).map .fz)):=by rw[QQ,QQ];simp
    generalize hJ:J++[Cell.lst ((w.lo.map tD).map SV.fz),Cell.lst ((w.sh.map tD).map .fz)]=J2 at o n;have hm:=jJ P;have z:=C.iv.wk _ hm;have hp:w.p<=6+6*W.length:=X.w _ hm;have O:((([]:Rs),w.p):Rp)∈L:=p.mem_iff.mpr (Pn.mpr ⟨_,hm,rfl⟩);have H:bS (jd L) (sD [])=lD (nd w.p):=DF f _ O;have rt:kS 6 (Cell.lst ((L.map c7).map .fz)::Cell.dd (jd L)::J2) (.tp [.rf (J.length+2),.rf (J.length+3)])=lD (.tuple [.list (w.lo.map tD),.list (w.sh.map tD)]):=by unfold kS;have e1:=pJ 4 o;have Z:=pJ 4 n;show(ar _ [AV.rf (J.length+2),AV.rf (J.length+3)]).map _=_;unfold ar;rw[show AV.sv (AV.rf (J.length+2))= .rf (J.length+2) from rfl,e1];dsimp only;unfold ar;rw[show AV.sv (AV.rf (J.length+3))= .rf (J.length+3) from rfl,Z];rfl
    have h:=oK (neg:=Pb) (fk:=aq (bV au)) (fd:=bw 1) (ρ:=[lD (.fz (aF B)),lD (.rf 1),lD (.fz d),lD (.tp [.rf (J.length+2),.rf (J.length+3)])]) (ω:= .lst ((L.map c7).map .fz):: .dd (jd L)::J2) (t _ _ _) (i:=1) (bi rfl) (fS []) rfl;rw[H] at h;have dg:=pB (fk:=aq (bV au)) (fd:=bw 1) (ρ:=[lD (.fz (aF B)),lD (.rf 1),lD (.fz d),lD (.tp [.rf (J.length+2),.rf (J.length+3)])]) (ω:= .lst ((L.map c7).map .fz):: .dd (jd L)::J2) (i:=1) (bi rfl) (t _ _ _) (fS []) rfl H;have v:sO (.tuple [.list (w.lo.map tD),.list (w.sh.map tD)]) .none=lD (.fz (.bool Ph)):=rfl;have u:Eu (.tuple [.list (w.lo.map tD),.list (w.sh.map tD)]) .none=lD (.fz (.bool Pb)):=rfl;refine jD (ci (jG (x:= .fz (.bool Ph)) (y:= .fz (.bool Ph)) (jG (bi rfl) (aw bI) (yG (.inl rfl) rt rfl v rfl)) h (gC (sR Ph Ph)))) (fW ?_);refine Kz (ci (jG (bi rfl) (aw bI) (yG (.inl rfl) rt rfl u rfl))) ?_;have lt:=BC m z (by omega);have cl:BT cQ 3 (bp (aq (aa 0)) (bp (bw 3) (bp (iR (bw 1) (aq (bV au))) d5))) [lD (.fz (aF B)),lD (.rf 1),lD (.fz d),lD (.tp [.rf (J.length+2),.rf (J.length+3)])] (.lst ((L.map c7).map .fz):: .dd (jd L)::J2)= .ok (.fz (.bool Pb)) (.lst ((L.map c7).map .fz):: .dd (jd L)::J2):=by
     unfold BT;rw[aR (x:= .fz (aF B)) (xs:=[.tp [.rf (J.length+2),.rf (J.length+3)],.fz (nd w.p)]) (aw (ae rfl)) (aR (x:= .tp [.rf (J.length+2),.rf (J.length+3)]) (bi rfl) (aR dg ce)),RS.bind_ok];unfold vU;rw[if_pos (show[SV.fz (aF B),.tp [.rf (J.length+2),.rf (J.length+3)],.fz (nd w.p)].length=3 from rfl)];have:ar (kS 6 (Cell.lst ((L.map c7).map .fz)::Cell.dd (jd L)::J2)) [SV.fz (aF B),.tp [.rf (J.length+2),.rf (J.length+3)],.fz (nd w.p)]=lD [aF B,.tuple [.list (w.lo.map tD),.list (w.sh.map tD)],nd w.p]:=by unfold ar;rw[show kS 6 (Cell.lst ((L.map c7).map .fz)::Cell.dd (jd L)::J2) (.fz (aF B))=lD (aF B) from rfl];dsimp only;unfold ar;rw[rt];rfl
     show gO ((RS.Qi _ (ar (kS 6 (Cell.lst ((L.map c7).map .fz)::Cell.dd (jd L)::J2)) [SV.fz (aF B),.tp [.rf (J.length+2),.rf (J.length+3)],.fz (nd w.p)])).bind _)=_;rw[this];show gO (match cQ [aF B,.tuple [.list (w.lo.map tD),.list (w.sh.map tD)],nd w.p] with| .ok rv=>kB _ rv|_=> .bad)=_;rw[lt];rfl
    refine jD (lB (b:=Pb) (ci cl)) (fW ?_);have b0:dR (aF B) (.int 0)=lD (.fz (wD B[0])):=MN (by omega) (by rw[Pg];show(B[0]?).map wD=_;rw[Pq h1];rfl);have G:∀e:Wd,dR (wD e) (.int 0)=lD (.fz (tD e.1)):=fun _=>rfl;have N:D2 (.int 1)=lD (.fz (.int (-1))):=rfl;have bl:dR (aF B) (.int (-1))=lD (.fz (wD B[B.length - 1])):=by
     have e:B.map wD=(B.take (B.length - 1)).map wD++[wD B[B.length - 1]]:=by
      have:B=B.take (B.length - 1)++[B[B.length - 1]]:=by rw[<-QU (show B.length - 1<B.length by omega),show B.length - 1+1=B.length by omega,QF]
      conv=>lhs;rw[this]
      rw[PB];rfl
     unfold aF;rw[e];exact FJ
    have ll:w.lo.length<=w.p:=(uU m z).1;have ls:w.sh.length<=w.p:=(uU m z).2;have M:∀ω:aW,L10.rF (bw 3) (aq (pC (.int 0))) [lD (.fz (aF B)),lD (.rf 1),lD (.fz d),lD (.tp [.rf (J.length+2),.rf (J.length+3)])] ω= .ok (.rf (J.length+2)) ω:=fun ω=>by unfold L10.rF;rw[bi (x:= .tp [.rf (J.length+2),.rf (J.length+3)]) rfl,RS.bind_ok,aw (d:= .int 0) bI,RS.bind_ok];rfl
    have K:∀ω:aW,L10.rF (bw 3) (aq (pC (.int 1))) [lD (.fz (aF B)),lD (.rf 1),lD (.fz d),lD (.tp [.rf (J.length+2),.rf (J.length+3)])] ω= .ok (.rf (J.length+3)) ω:=fun ω=>by unfold L10.rF;rw[bi (x:= .tp [.rf (J.length+2),.rf (J.length+3)]) rfl,RS.bind_ok,aw (d:= .int 1) bI,RS.bind_ok];rfl
    refine uG (yW (x:= .fz (tD B[0].1)) (M _) o (aw (bf (rv:= .fz (tD B[0].1)) (dx:=wD B[0]) (bf (rv:= .fz (wD B[0])) (ae rfl) bI rfl rfl b0) bI rfl rfl (G _))) o (by rw[OX,OX];omega)) ?_;refine tN (yW (x:= .fz (tD (B[B.length - 1]).1)) (ys:=(w.sh.map tD).map .fz) (K _) (by rw[fP (by omega)];exact n) (aw (bf (rv:= .fz (tD (B[B.length - 1]).1)) (dx:=wD B[B.length - 1]) (bf (rv:= .fz (wD B[B.length - 1])) (dy:= .int (-1)) (ae rfl) (Di (rv:= .fz (.int (-1))) bI rfl N) rfl rfl bl) bI rfl rfl (G _))) (by rw[fP (by omega)];exact n) (by rw[OX,OX];omega)) ?_;exact⟨_,_,_,rfl,by rw[show J.length+2=(J.length+1)+1 from rfl,show J.length+3=(J.length+2)+1 from rfl];rfl⟩
  .rintro ρ ω ⟨r,l,J,rfl,rfl⟩;exact jz (aw bI) ⟨rfl,trivial⟩
 exact⟨ω',e⟩
def oD (B:List Wd):List Wd:=(B.drop 1++B.take 1).map fun e=>(e.1,e.2.reverse)
theorem tR {B:List Wd} {e:Wd} (h:e∈oD B):∃f∈B,e=(f.1,f.2.reverse):=by
 obtain⟨f,a,rfl⟩:=Pn.mp h;refine⟨f,?_,rfl⟩;rcases Pw.mp a with a|a
 .exact Xq a
 .exact Te a
theorem lg (B:List Wd):(B.drop 1++B.take 1).Perm B:=UC.trans (by rw[QH])
theorem Kk {B:List Wd} (h:BB B):BB (oD B) where
 Xg:=by unfold oD;rw[OX,(lg B).length_eq];exact h.Xg
 nd:=by
  have e:(oD B).map (·.1)=(B.drop 1++B.take 1).map (·.1):=by unfold oD;rw[Qf];rfl
  rw[e];exact((lg B).map (·.1)).nodup_iff.mpr h.nd
 s1:=fun e b=>by obtain⟨f,a,rfl⟩:=tR b;show 1<=f.2.reverse.length;rw[QW];exact h.s1 f a
 s6:=fun e b=>by obtain⟨f,a,rfl⟩:=tR b;show f.2.reverse.length<=6;rw[QW];exact h.s6 f a
 wc:=fun e b=>by obtain⟨f,a,rfl⟩:=tR b;exact h.wc f a
theorem LL {B:List Wd} {i:Int} (h0:0<=i) (h:i.toNat<B.length):dR (aF B) (.int i)=lD (.fz (wD B[i.toNat])):=MN h0 (by rw[Pg,Pq h];rfl)
theorem vF (c:List Int) (a b:Nat):(l9 c (lD (a:Int)) (lD (b:Int))).length<=b - a:=by unfold l9;rw[HT.sIx_nat,HT.sIx_nat,Qj,QE];omega
theorem zb (xs:List D) (p:Nat):qp (.list xs) Ld (lD (p:Int))=lD (.ow (xs.take p)):=by
 have h:lD (RV.fz (.tuple (gg xs Ld (lD (p:Int)))))=lD (.fz (.tuple (xs.take p))):=xz xs p;have:gg xs Ld (lD (p:Int))=xs.take p:=by injection h with h;injection h with h;injection h
 show lD (RV.ow (gg xs Ld (lD (p:Int))))=_;rw[this]
theorem LC (a:Nat):L3.NL (nd a) (.int 190)=lD (.fz (.bool (decide (a<=190)))):=by show lD (RV.fz (.bool (decide ((a:Int)<=190))))=_;congr 3;exact decide_eq_decide.mpr (by omega)
theorem wR {B:List Wd} (K:BB B) (h1:1<=B.length) (cs:List Int) (N:cs.length<=63) {b:Int} (J:1<=b) (I:b<=7):∃ws,jr B ws/\(wr B ws).length<=190/\eG [aF B,.list (cs.map .int),.int b]= .ok (.ow (ws.map tD)):=by
 obtain⟨rv,e,ws,hi,j,rfl⟩:=g7 (ds:=[aF B,.list (cs.map .int),.int b]) (n:=8) (g:=gc) (ρ:=[lD (.fz (aF B)),lD (.fz (.list (cs.map .int))),lD (.fz (.int b)),Ld,Ld,Ld,Ld,Ld]) (T:=fun v=>∃ws,jr B ws/\(wr B ws).length<=190/\v= .ow (ws.map tD)) rfl (by
  unfold gc;refine a5 (pv:= .ow []) (ρ3:=[lD (.fz (aF B)),lD (.fz (.list (cs.map .int))),lD (.fz (.int b)),lD (.ow []),Ld,Ld,Ld,Ld]) (by walk_at "evp") rfl rfl ?_;refine a5 (pv:= .fz (.int 0)) (ρ3:=[lD (.fz (aF B)),lD (.fz (.list (cs.map .int))),lD (.fz (.int b)),lD (.ow []),lD (.fz (nd 0)),Ld,Ld,Ld]) bI rfl rfl ?_;refine eU (fun i ρ=>∃ws p m l,jr B ws/\(wr B ws).length<=190/\ws.length<=i/\ρ=[lD (.fz (aF B)),lD (.fz (.list (cs.map .int))),lD (.fz (.int b)),lD (.ow (ws.map tD)),lD (.fz (nd (wr B ws).length)),p,m,l]) (ds:=cs.map .int) (ρ1:=[lD (.fz (aF B)),lD (.fz (.list (cs.map .int))),lD (.fz (.int b)),lD (.ow []),lD (.fz (nd 0)),Ld,Ld,Ld]) (gK (d:= .list (cs.map .int)) (ae rfl) rfl rfl) ⟨[],Ld,Ld,Ld,fun _ h=>(by cases h),by rw[jK];exact Qb _,O8 _,rfl⟩ ?_ ?_
  .rintro i d ρ t ⟨ws,p,m,l,hi,j,z,rfl⟩
   have H:i<cs.length:=by have:=(O0.mp t).1;rwa [OX] at this
   rw[Pg] at t;obtain⟨c,O,rfl⟩:=Qz.mp t;refine⟨[lD (.fz (aF B)),lD (.fz (.list (cs.map .int))),lD (.fz (.int b)),lD (.ow (ws.map tD)),lD (.fz (nd (wr B ws).length)),lD (.fz (.int c)),m,l],rfl,?_⟩;obtain⟨r,M,er⟩:=oG c b (by omega) (by omega);have L:cG (.int r) (.int b)=lD (.fz (.int (r/b))):=cS ⟨by omega,by omega⟩;have G:=NQ B;have F:bC (.int (r/b)) (.int (B.length:Int))=lD (.fz (.int (r/b % (B.length:Int)))):=bK (by omega);have E:0<=r/b % (B.length:Int):=P0 _ (by omega);have a:(r/b % (B.length:Int)).toNat<B.length:=by have:=P6 (r/b) (show(0:Int)<(B.length:Int) by omega);omega
   have w:=LL (B:=B) E a;have q:B[(r/b % (B.length:Int)).toNat]∈B:=Q4 _;generalize B[(r/b % (B.length:Int)).toNat]=f at w q;refine a5 (pv:= .fz (wD f)) (ρ3:=[lD (.fz (aF B)),lD (.fz (.list (cs.map .int))),lD (.fz (.int b)),lD (.ow (ws.map tD)),lD (.fz (nd (wr B ws).length)),lD (.fz (.int c)),lD (.fz (tD f.1)),lD (.fz (sD f.2))]) (bf (rv:= .fz (wD f)) (ae rfl) (bf (rv:= .fz (.int (r/b % (B.length:Int)))) (bf (rv:= .fz (.int (r/b))) (cH (rv:= .fz (.int r)) (aj (ae rfl) (aj (ae rfl) aC)) rfl rfl er) (ae rfl) rfl rfl L) (cX (rv:= .fz (.int (B.length:Int))) (aj (ae rfl) aC) rfl G) rfl rfl F) rfl rfl w) rfl rfl ?_;have u:=fT f.2;have C:=Cu (wr B ws).length f.2.length;have le:=LC ((wr B ws).length+f.2.length);refine nv (b:=decide ((wr B ws).length+f.2.length<=190)) (bu (df (dx:=nd ((wr B ws).length+f.2.length)) (bf (rv:= .fz (nd ((wr B ws).length+f.2.length))) (ae rfl) (cX (rv:= .fz (nd f.2.length)) (aj (ae rfl) aC) rfl u) rfl rfl C) bI rfl rfl le) rfl) (fun o=> ?_) fun o=> ?_
   .have o:=of_decide_eq_true o
    have A:wr B (ws++[f.1])=wr B ws++f.2:=by rw[kh,iZ K.nd q];rfl
    refine uP (hV (d:=tD f.1) (x:=[lD (.fz (aF B)),lD (.fz (.list (cs.map .int))),lD (.fz (.int b)),lD (.ow (ws.map tD++[tD f.1])),lD (.fz (nd (wr B ws).length)),lD (.fz (.int c)),lD (.fz (tD f.1)),lD (.fz (sD f.2))]) rfl (ae rfl) rfl rfl (by rw[OX];omega) rfl) ?_;refine yd (pv:= .fz (nd ((wr B ws).length+f.2.length))) (bf (rv:= .fz (nd ((wr B ws).length+f.2.length))) (ae rfl) (cX (rv:= .fz (nd f.2.length)) (aj (ae rfl) aC) rfl u) rfl rfl C) rfl ⟨ws++[f.1],lD (.fz (.int c)),lD (.fz (tD f.1)),lD (.fz (sD f.2)),fun x a=> ?_,?_,?_,?_⟩
    .rcases Pw.mp a with a|a
     .exact hi x a
     .rw[Pk.mp a];exact Pn.mpr ⟨f,q,rfl⟩
    .rw[A,OZ];exact o
    .rw[OZ];simp;exact z
    .rw[A,OZ,PB];rfl
   .exact jh ⟨ws,_,_,_,hi,j,by omega,rfl⟩
  .rintro ρ ⟨ws,p,m,l,hi,j,z,rfl⟩;exact cL (eO rfl) rfl ⟨ws,hi,j,rfl⟩)
 exact⟨ws,hi,j,e⟩
theorem wM {B:List Wd} {ws:List (List Nat)} (h:jr B ws) (n:Nat):jr B (ws.take n):=fun x a=>h x (Te a)
theorem A2 {B:List Wd} (ws:List (List Nat)) (n:Nat):(wr B (ws.take n)).length<=(wr B ws).length:=by
 conv=>rhs;rw[<-QH n ws,xQ,OZ]
 omega
theorem Me {B:List Wd} (a:aW) (h:bq [.fz (aF B)] []= .ok (.fz (.bool Pb)) a) (ω:aW):jq bq 1 [.fz (aF B)] ω= .ok (.fz (.bool Pb)) ω:=by show(match bq [.fz (aF B)] [] with| .ok x a=>dQ x a ω| .er x _=> .er x ω| .bad=> .bad)=_;rw[h];rfl
theorem Os {B:List Wd} (c:BB B) {ws:List (List Nat)} (hi:jr B ws) (b:ws.length<=1000) (ω:aW):jq dY 2 [.fz (aF B),.fz (.list (ws.map tD))] ω= .ok (.fz (sD (wr B ws))) ω:=by obtain⟨a,h⟩:=yH c hi b;show(match dY [.fz (aF B),.fz (.list (ws.map tD))] [] with| .ok x a=>dQ x a ω| .er x _=> .er x ω| .bad=> .bad)=_;rw[h];rfl
theorem OP {B:List Wd} (c:BB B) {ss:Rs} (a:ss.length<=1000) (b:N6 B ss) (ω:aW):∃ws,jr B ws/\ws.length<=ss.length/\wr B ws=ss/\jq cc 2 [.fz (aF B),.fz (sD ss)] ω= .ok (.rf ω.length) (ω++[.lst ((ws.map tD).map .fz)]):=by
 rcases Hn c ss a with h|⟨ws,i,ω',h1,h2,h3,h4,h5⟩
 .exact absurd b h
 .refine⟨ws,h1,h2,h3,?_⟩;show(match cc [.fz (aF B),.fz (sD ss)] [] with| .ok x ω'=>dQ x ω' ω| .er x _=> .er x ω| .bad=> .bad)=_;rw[h4];show(match sh ω' (.rf i) with|some (.list ds)=>jo ω (.ow ds)|_=> .bad)=_;rw[kM h5];rfl
theorem NR {B:List Wd} (f:BB B) {W:Mp} (d:Full B W []) (hn:fq W []=Ld) {X Y:List (List Nat)} (b:jr B X) (a:jr B Y) (e:wr B X=wr B Y):X=Y:=Classical.byContradiction fun g=>by obtain⟨q,c,h,_⟩:=Jx f d b a g e;exact Af hn q c h
theorem CT {B:List Wd} (o:BB B) {W:Mp} (n:Full B W []) {ρ:aX} (a:aq (aa 1) ρ []= .ok (.fz (aF B)) [])
  (m:(fq W []=Ld/\∃ω',aV [.fz (aF B)] []= .ok (.fz .none) ω')\/∃w i j ω',fq W []=lD w/\aV [.fz (aF B)] []= .ok (.tp [.rf i,.rf j]) ω'/\i≠j/\ω'[i]? =lD (.lst ((w.lo.map tD).map .fz))/\ω'[j]? =lD (.lst ((w.sh.map tD).map .fz))):
  ∃(cl:Bool) (ω3:aW),F4 sO (gJ aV 1 (bp (aq (aa 1)) d5)) (aq (pC .none)) ρ []= .ok (.fz (.bool cl)) ω3/\(cl=Pb->∀X Y,jr B X->jr B Y->wr B X=wr B Y->X=Y):=by
 rcases m with⟨hn,ω',d⟩|⟨w,i,j,ω',t,d,c,hi,r⟩
 .have f:jq aV 1 [.fz (aF B)] []= .ok (.fz .none) []:=by
   show(match aV [.fz (aF B)] [] with| .ok x ω'=>dQ x ω' _| .er x _=> .er x _| .bad=> .bad)=_;rw[d];rfl
  have b:sO .none .none=lD (.fz (.bool Pb)):=rfl;exact⟨Pb,[],jG (dH (xs:=[.fz (aF B)]) (aR a ce) f) (aw bI) (gC b),fun _ X Y l h e=>NR o n hn l h e⟩
 .have f:jq aV 1 [.fz (aF B)] []= .ok (.tp [.rf 0,.rf 1]) [.lst ((w.lo.map tD).map .fz),.lst ((w.sh.map tD).map .fz)]:=by
   show(match aV [.fz (aF B)] [] with| .ok x ω'=>dQ x ω' _| .er x _=> .er x _| .bad=> .bad)=_;rw[d];show(match wv ω' 0 [.rf i,.rf j] with|some (l',cs,js)=>if js.Nodup then RS.ok (SV.tp l') (_++cs.map M9) else .bad|none=> .bad)=_;have g:wv ω' 0 [.rf i,.rf j]=lD ([.rf 0,.rf 1],[w.lo.map tD,w.sh.map tD],[i,j]):=by unfold wv;rw[kM hi];dsimp only;unfold wv;rw[kM r];rfl
   rw[g];exact if_pos (by simp[c])
  have rt:kS 6 [.lst ((w.lo.map tD).map .fz),.lst ((w.sh.map tD).map .fz)] (.tp [.rf 0,.rf 1])=lD (.tuple [.list (w.lo.map tD),.list (w.sh.map tD)]):=by unfold kS;have q:=pJ (ω:=[.lst ((w.lo.map tD).map .fz),.lst ((w.sh.map tD).map .fz)]) (i:=0) (ds:=w.lo.map tD) 4 rfl;have p:=pJ (ω:=[.lst ((w.lo.map tD).map .fz),.lst ((w.sh.map tD).map .fz)]) (i:=1) (ds:=w.sh.map tD) 4 rfl;show(ar _ [AV.rf 0,AV.rf 1]).map _=_;unfold ar;rw[show AV.sv (AV.rf 0)= .rf 0 from rfl,q];dsimp only;unfold ar;rw[show AV.sv (AV.rf 1)= .rf 1 from rfl,p];rfl
  have b:sO (.tuple [.list (w.lo.map tD),.list (w.sh.map tD)]) .none=lD (.fz (.bool Ph)):=rfl;exact⟨Ph,_,jG (dH (xs:=[.fz (aF B)]) (aR a ce) f) (aw bI) (yG (.inl rfl) rt rfl b rfl),fun z=>by cases z⟩
theorem Jg (d:D) (ω:aW):frz 4 ω (.fz d)=lD (d,ω):=rfl
theorem main (g:List Int) (WY:g.length<=63):L10.LM F_law [.list (g.map .int)]= .ok (.fz (.bool Pb)):=by
 obtain⟨B,r,eb⟩:=GX g WY (a:=0) (acE _);have f:=r.bb;have h1:=r.l1;have hO:=Kk f;have K:1<=(oD B).length:=by unfold oD;rw[OX,(lg B).length_eq];exact h1
 obtain⟨W,L,j,ωr,hF,hD,p,hr,hj,ht⟩:=AX f;obtain⟨W2,L2,j2,Q,M,N,p2,J,VR,I⟩:=AX hO;obtain⟨A,ea⟩:=wG f h1 hF hD p hr hj ht;obtain⟨w,ec⟩:=wG hO K M N p2 J VR I;have H:∃x m,F_law [.fz (.list (g.map .int))] []= .ok x m/\x= .fz (.bool Pb):=by
  refine kT (T:=fun x _=>x= .fz (.bool Pb)) (ρ:=[lD (.fz (.list (g.map .int))),Ld,Ld,Ld,Ld,Ld,Ld,Ld]) rfl ?_;unfold CU;have s3:∀a b:Int,qp (.list (g.map .int)) (lD a) (lD b)=lD (.ow ((l9 g (lD a) (lD b)).map .int)):=fun a b=>by show lD (RV.ow (gg _ _ _))=_;congr 2;unfold gg l9;rw[OX,Tc,TV]
  have P:=s3 14 63;have O:=s3 40 63;have n1:(l9 g (lD 14) (lD 63)).length<=49:=vF g 14 63;have n2:(l9 g (lD 40) (lD 63)).length<=23:=vF g 40 63;generalize l9 g (lD 14) (lD 63)=cs1 at P n1;generalize l9 g (lD 40) (lD 63)=cs2 at O n2;obtain⟨one,l,Z,eo⟩:=wR f h1 cs1 (by omega) (b:=1) (by omega) (by omega);obtain⟨c,iw,U,ew⟩:=wR f h1 cs2 (by omega) (b:=7) (by omega) (by omega);generalize hS:O9.list (g.map .int)=S at eb P O;refine bX (x:= .fz (aF B)) (ω1:=[]) (ρ1:=[lD (.fz S),lD (.fz (aF B)),Ld,Ld,Ld,Ld,Ld,Ld]) (aw (cH (rv:= .fz (aF B)) (aj (ae rfl) (aj bI aC)) rfl rfl eb)) rfl ?_;have h20:=f.Xg;have s1:qp (aF B) (lD 1) Ld=lD (.fz (.tuple ((B.map wD).drop 1))):=wJ (B.map wD) 1;have s2:qp (aF B) Ld (lD 1)=lD (.fz (.tuple ((B.map wD).take 1))):=xz (B.map wD) 1;have ad:wC (.tuple ((B.map wD).drop 1)) (.tuple ((B.map wD).take 1))=lD (.fz (.tuple ((B.drop 1++B.take 1).map wD))):=by rw[CW _ _ (by rw[QE,Qj,OX];omega),PB,TV,Tc]
  have t:mF (dX (gT 2 (l8 (gN 0) (l8 (gN 1) yf))) e8 (bV (af (aa 0) (af (IY L9.CC (aa 1)) au))) ((B.drop 1++B.take 1).map wD) [Ld,Ld] [])= .ok ((B.drop 1++B.take 1).map fun e=>wD (e.1,e.2.reverse)):=by
   refine n5 (fun ρ=>∃o p,ρ=[o,p]) _ (by rw[(lg B).length_eq];omega) ⟨Ld,Ld,rfl⟩ ?_;rintro e _ ρ ⟨o,p,rfl⟩;have rv:L9.CC (sD e.2)=lD (.fz (sD e.2.reverse)):=by show lD (RV.fz (.tuple (e.2.map kD).reverse))=_;unfold sD;rw[Ud]
   exact⟨_,GB rfl rfl (dU (ds:=[tD e.1,sD e.2.reverse]) (aj (ae rfl) (aj (Di (rv:= .fz (sD e.2.reverse)) (ae rfl) rfl rv) aC)) rfl (P4 rfl)) rfl rfl,_,_,rfl⟩
  have em:((B.drop 1++B.take 1).map fun e=>wD (e.1,e.2.reverse))=(oD B).map wD:=by unfold oD;rw[Qf];rfl
  rw[em] at t;have tp:lA [.list ((oD B).map wD)]=lD (.fz (aF (oD B))):=rfl;refine bX (x:= .fz (aF (oD B))) (ω1:=[]) (ρ1:=[lD (.fz S),lD (.fz (aF B)),lD (.fz (aF (oD B))),Ld,Ld,Ld,Ld,Ld]) (u7 (aw (cX (rv:= .fz (aF (oD B))) (aj (lI (gK (d:= .tuple ((B.drop 1++B.take 1).map wD)) (bf (rv:= .fz (.tuple ((B.drop 1++B.take 1).map wD))) (jS (rv:= .fz (.tuple ((B.map wD).drop 1))) (ae rfl) (cN bI rfl) ei rfl s1) (jS (rv:= .fz (.tuple ((B.map wD).take 1))) (ae rfl) ei (cN bI rfl) rfl s2) rfl rfl ad) rfl rfl) rfl t) aC) rfl tp)) (Jg _ _)) rfl ?_;have k1:=dH (F:=bq) (n:=1) (fa:=bp (aq (aa 1)) d5) (ρ:=[lD (.fz S),lD (.fz (aF B)),lD (.fz (aF (oD B))),Ld,Ld,Ld,Ld,Ld]) (ω:=[]) (xs:=[.fz (aF B)]) (aR (aw (ae rfl)) ce) (Me A ea []);have k2:=dH (F:=bq) (n:=1) (fa:=bp (aq (aa 2)) d5) (ρ:=[lD (.fz S),lD (.fz (aF B)),lD (.fz (aF (oD B))),Ld,Ld,Ld,Ld,Ld]) (ω:=[]) (xs:=[.fz (aF (oD B))]) (aR (aw (ae rfl)) ce) (Me w ec []);refine jD (wb (lB (b:=Pb) (ci k1)) (wb (lB (b:=Pb) (ci k2)) (lB (b:=Pb) (ci k1)))) (fW ?_);obtain⟨cl,ω3,ek,hu⟩:=CT f hF (ρ:=[lD (.fz S),lD (.fz (aF B)),lD (.fz (aF (oD B))),Ld,Ld,Ld,Ld,Ld]) (aw (ae rfl)) ht;refine bX (ρ1:=[lD (.fz S),lD (.fz (aF B)),lD (.fz (aF (oD B))),lD (.fz (.bool cl)),Ld,Ld,Ld,Ld]) ek rfl ?_;refine bX (ρ1:=[lD (.fz S),lD (.fz (aF B)),lD (.fz (aF (oD B))),lD (.fz (.bool cl)),lD (.fz (.list (one.map tD))),Ld,Ld,Ld]) (og (cH (rv:= .ow (one.map tD)) (aj (ae rfl) (aj (jS (rv:= .ow (cs1.map .int)) (ae rfl) (cN bI rfl) (cN bI rfl) rfl P) (aj bI aC))) rfl rfl eo)) rfl ?_;refine bX (ρ1:=[lD (.fz S),lD (.fz (aF B)),lD (.fz (.list (c.map tD))),lD (.fz (.bool cl)),lD (.fz (.list (one.map tD))),Ld,Ld,Ld]) (og (cH (rv:= .ow (c.map tD)) (aj (ae rfl) (aj (jS (rv:= .ow (cs2.map .int)) (ae rfl) (cN bI rfl) (cN bI rfl) rfl O) (aj bI aC))) rfl rfl ew)) rfl ?_;have ln:fu [.list (c.map tD)]=lD (.fz (nd c.length)):=by have:=qH (c.map tD);rw[OX] at this;exact this
  have t1:=zb (one.map tD) c.length;have t2:qp (.list (c.map tD)) Ld (lD 3)=lD (.ow ((c.map tD).take 3)):=zb (c.map tD) 3;rw[<-Tc] at t1 t2;refine gl (mX (fun _ ρ _=>∃(E u q:Option SV),ρ=[lD (.fz S),lD (.fz (aF B)),lD (.fz (.list (c.map tD))),lD (.fz (.bool cl)),lD (.fz (.list (one.map tD))),E,u,q]) (ds:=[.list (one.map tD),.list (c.map tD),.list ((one.take c.length).map tD),.list ((c.take 3).map tD)]) (iH (gK (d:= .list [.list (one.map tD),.list (c.map tD),.list ((one.take c.length).map tD),.list ((c.take 3).map tD)]) (yL (aj (ae rfl) (aj (ae rfl) (aj (jS (rv:= .ow ((one.take c.length).map tD)) (ae rfl) ei (cN (cX (rv:= .fz (nd c.length)) (aj (ae rfl) aC) rfl ln) rfl) rfl t1) (aj (jS (rv:= .ow ((c.take 3).map tD)) (ae rfl) ei (cN bI rfl) rfl t2) aC)))) rfl (P4 rfl)) rfl rfl)) ⟨Ld,Ld,Ld,rfl⟩ ?_ ?_)
  .rintro k d ρ ω hd ⟨E,u,q,rfl⟩
   obtain⟨X,i,wX,rfl⟩:∃X,jr B X/\(wr B X).length<=190/\d= .list (X.map tD):=by
    have hm:=Pu hd;simp only[Py,S7,or_false] at hm;rcases hm with rfl|rfl|rfl|rfl
    .exact⟨one,l,Z,rfl⟩
    .exact⟨c,iw,U,rfl⟩
    .exact⟨_,wM l _,Pp (A2 _ _) Z,rfl⟩
    .exact⟨_,wM iw _,Pp (A2 _ _) U,rfl⟩
   refine⟨[lD (.fz S),lD (.fz (aF B)),lD (.fz (.list (c.map tD))),lD (.fz (.bool cl)),lD (.fz (.list (one.map tD))),lD (.fz (.list (X.map tD))),u,q],ω,rfl,?_⟩;have lX:=pH f i;have lo:=pH f l;have li:∀ws:List (List Nat),qZ [.list (ws.map tD)]=lD (.ow (ws.map tD)):=fun _=>rfl;refine bX (x:= .fz (sD (wr B X))) (ω1:=ω++[.dead]) (ρ1:=[lD (.fz S),lD (.fz (aF B)),lD (.fz (.list (c.map tD))),lD (.fz (.bool cl)),lD (.fz (.list (one.map tD))),lD (.fz (.list (X.map tD))),lD (.fz (sD (wr B X))),q]) (u7 (dH (xs:=[.fz (aF B),.fz (.list (X.map tD))]) (aR (aw (ae rfl)) (aR (og (cX (rv:= .ow (X.map tD)) (aj (ae rfl) aC) rfl (li X))) ce)) (Os f i (by omega) _)) (Jg _ _)) rfl ?_;have w1:=eV f i (by omega);have G:=K0 (wr B X) (wr B X);rw[decide_eq_true rfl] at G;refine jD (fE (b:=Ph) (bu (df (ae rfl) (cH (rv:= .fz (sD (wr B X))) (aj (ae rfl) (aj (ae rfl) aC)) rfl rfl w1) rfl rfl G) rfl)) (fW ?_);obtain⟨Y,v,lY,C,eY⟩:=OP f (ss:=wr B X) (by omega) ⟨X,i,rfl⟩ (ω++[.dead]);refine bX (x:= .fz (.list (Y.map tD))) (ω1:=ω++[.dead]++[.dead]) (ρ1:=[lD (.fz S),lD (.fz (aF B)),lD (.fz (.list (c.map tD))),lD (.fz (.bool cl)),lD (.fz (.list (one.map tD))),lD (.fz (.list (X.map tD))),lD (.fz (sD (wr B X))),lD (.fz (.list (Y.map tD)))]) (u7 (dH (xs:=[.fz (aF B),.fz (sD (wr B X))]) (aR (aw (ae rfl)) (aR (aw (ae rfl)) ce)) eY) (by rw[u6 aU];simp)) rfl ?_;have r1:=xJ f v (by omega);have w2:=eV f v (by rw[C];omega);rw[C] at w2;have q2:=GU (eI f v) (eI f i);have cY:cl=Pb->Y=X:=fun h=>hu h Y X v i C;have b0:(!Pb||(Ph||(cl&& !decide (Y=X))))=Ph:=by
    cases hc:cl with
    |false=>rfl
    |true=>rw[decide_eq_true (cY hc)];rfl
   refine jD (fE (b:=Ph) (b0▸mB (kl (bu (i8 (aj (ae rfl) (aj (ae rfl) aC)) rfl rfl r1) rfl)) fun _=>mB (bu (df (cH (rv:= .fz (sD (wr B X))) (aj (ae rfl) (aj (ae rfl) aC)) rfl rfl w2) (ae rfl) rfl rfl G) rfl) fun _=>tZ (bu (ae rfl) rfl) fun _=>bu (df (ae rfl) (ae rfl) rfl rfl q2) rfl)) (fW ?_);cases hc:cl with
   |false=>exact yt (BD (fE (bu (ae rfl) rfl))) (jZ ⟨_,_,_,rfl⟩)
   |true=>have q3:=zo (eI f i) (eI f l);have q4:=oX (wr B X) (wr B one);have same:decide (X=one)=decide (wr B X=wr B one):=decide_eq_decide.mpr ⟨fun z=>by rw[z],fun z=>hu hc X one i l z⟩;have nb:=sR (decide (X=one)) (decide (wr B X=wr B one));rw[same,beq_self_eq_true] at nb;rw[same] at q3;exact yt (BU (fE (bu (ae rfl) rfl)) (ci (jG (x:= .fz (.bool (decide (wr B X=wr B one)))) (y:= .fz (.bool (decide (wr B X=wr B one)))) (aw (df (ae rfl) (ae rfl) rfl rfl q3)) (jG (aw (ae rfl)) (dH (xs:=[.fz (aF B),.fz (.list (one.map tD))]) (aR (aw (ae rfl)) (aR (og (cX (rv:= .ow (one.map tD)) (aj (ae rfl) aC) rfl (li one))) ce)) (Os f l (by omega) _)) (gC q4)) (gC nb)))) (jZ ⟨_,_,_,rfl⟩)
  .rintro ρ ω ⟨E,u,q,rfl⟩;exact jz (aw bI) rfl
 obtain⟨x,m,h1,rfl⟩:=H;unfold L10.LM;rw[show([O9.list (g.map .int)].map SV.fz)=[.fz (.list (g.map .int))] from rfl,h1]
end K64
local macro_rules| `(tactic|walk_at "sc")=> `(tactic|exact⟨rfl,rfl,rfl,by decide+kernel,rfl,by decide+kernel,by decide+kernel⟩)
local macro_rules| `(tactic|walk_at "cm")=> `(tactic|first
 |with_reducible exact L3.u8
 |with_reducible exact L3.Fr
 |with_reducible exact L3.Eo
 |with_reducible exact L3.Ks
 |with_reducible exact L3.yj
 |with_reducible exact L3.Kf
 |with_reducible exact L3.Eg
 |with_reducible exact L3.AI
 |with_reducible exact L3.Ax
 |with_reducible exact L3.AQ)
local macro_rules| `(tactic|walk_at "sp")=> `(tactic|first
 |walk_at "cm"
 |with_reducible exact L3.ff
 |with_reducible exact L3.j9
 |with_reducible exact L3.GH
 |with_reducible exact L3.A6
 |with_reducible exact L3.Du
 |with_reducible exact L3.lQ
 |with_reducible exact L3.uF
 |with_reducible exact L3.GW
 |with_reducible exact L3.ES
 |with_reducible exact L3.um
 |with_reducible exact L3.oY
 |with_reducible exact L3.uN
 |with_reducible exact L3.Ft
 |with_reducible exact L3.G4
 |with_reducible exact L3.n9
 |with_reducible exact L3.Ad
 |with_reducible exact L3.zR
 |with_reducible exact L9.vV
 |with_reducible exact L3.w6
 |with_reducible exact L3.A6
 |with_reducible exact L10.vS
 |with_reducible exact L10.vt)
local macro_rules| `(tactic|walk_at "eo")=> `(tactic|first
 |with_reducible exact L3.ay
 |with_reducible exact L3.aQ
 |(exists L3.bR);(·walk_at "sp");(·walk_at "eo");(·walk_at "eo")
 |with_reducible exact L3.yX
 |(exists L3.xA);(·walk_at "ao")
 |(exists L3.rD);(·walk_at "sp");(·walk_at "ao")
 |(exists L3.gu);(·walk_at "ao")
 |(exists L3.ja);(·walk_at "ao")
 |(exists L3.EN);(·walk_at "eo")
 |with_reducible exact L3.o9
 |with_reducible exact L3.vC
 |(exists L3.xi);(·walk_at "sp");(·walk_at "eo");(·walk_at "oo");(·walk_at "oo")
 |(exists L3.Ee);(·simp);(·walk_at "eo")
 |(exists L3.Cs);(·walk_at "eo");(·walk_at "eo")
 |(exists L3.IU);(·walk_at "sp");(·walk_at "eo")
 |(exists L9.DC);(·walk_at "eo")
 |(exists L3.DG);(·assumption))
local macro_rules| `(tactic|walk_at "ao")=> `(tactic|first
 |(exists L3.bj);(·walk_at "eo");(·walk_at "ao")
 |with_reducible exact L3.bB)
local macro_rules| `(tactic|walk_at "tt")=> `(tactic|first
 |(exists L3.eg);(exists L3.bR);(·walk_at "cm");(·walk_at "eo");(·walk_at "eo")
 |(exists L3.zW);(·walk_at "tt");(·walk_at "tt")
 |(exists L3.J0);(·walk_at "tt");(·walk_at "tt")
 |(exists L3.HK);(·walk_at "tt")
 |(exists L3.Ix);(·walk_at "eo")
 |with_reducible exact L3.iC)
local macro_rules| `(tactic|walk_at "gg")=> `(tactic|first
 |with_reducible exact L3.bz
 |(exists L3.iO);(·walk_at "gg");(·walk_at "gg")
 |with_reducible exact L3.ug
 |(exists L3.tK);(·walk_at "gg")
 |with_reducible exact L10.cf
 |(exists L10.EE);(·walk_at "gg");(·walk_at "gg")
 |with_reducible exact L10.Gk
 |(exists L10.GY);(·walk_at "gg"))
local macro_rules| `(tactic|walk_at "io")=> `(tactic|first
 |(exists L3.lO);(·walk_at "ao")
 |(exists L3.mU);(·walk_at "eo")
 |with_reducible exact L3.wA
 |(exists L10.lC);(·walk_at "io")
 |(exists L10.zC);(·walk_at "es"))
local macro_rules| `(tactic|walk_at "oo")=> `(tactic|first
 |(exists L3.iu);(·walk_at "eo")
 |with_reducible exact L3.lF)
local macro_rules| `(tactic|walk_at "es")=> `(tactic|first
 |(exists L10.aB);(·walk_at "eo")
 |with_reducible exact L10.bh
 |(exists L10.pD);(·walk_at "es");(·walk_at "es")
 |(exists L10.oU);(·walk_at "sp");(·walk_at "es");(·walk_at "es")
 |(exists L10.ir);(·walk_at "as")
 |(exists L10.ni);(·walk_at "as")
 |(exists L10.Ao);(·walk_at "as")
 |(exists L10.uz);(·walk_at "es");(·walk_at "es")
 |(exists L10.AY);(·walk_at "as")
 |(exists L10.pS);(·walk_at "es");(·walk_at "es")
 |(exists L10.G7);(·walk_at "es");(·walk_at "es")
 |(exists L10.vx);(·walk_at "es");(·walk_at "es")
 |(exists L10.pO);(·walk_at "sp");(·walk_at "as")
 |(exists L10.Ac);(·walk_at "es")
 |(exists L10.Fv);(·walk_at "es"))
local macro_rules| `(tactic|walk_at "as")=> `(tactic|first
 |(exists L10.bE);(·walk_at "es");(·walk_at "as")
 |with_reducible exact L10.dz)
local macro_rules| `(tactic|walk_at "ts")=> `(tactic|first
 |(exists L10.lz);(exists L10.oU);(·walk_at "cm");(·walk_at "es");(·walk_at "es")
 |(exists L10.vq);(·walk_at "tt")
 |(exists L10.G3);(·walk_at "ts");(·walk_at "ts")
 |(exists L10.Kx);(·walk_at "ts");(·walk_at "ts")
 |(exists L10.zr);(·walk_at "ts")
 |(exists L10.rq);(·walk_at "es"))
local macro_rules| `(tactic|walk_at "so")=> `(tactic|first
 |(exists L3.aI);(·walk_at "so");(·walk_at "so")
 |(exists L3.eC);(·walk_at "eo");(·walk_at "gg")
 |(exists L3.rG);(·walk_at "tt");(·walk_at "so");(·walk_at "so")
 |(exists L3.eB);(·walk_at "eo")
 |(exists L3.zn);(·walk_at "eo")
 |with_reducible exact L3.j0
 |(exists L3.yT);(·walk_at "io");(·walk_at "gg");(·walk_at "so")
 |(exists L10.aL);(·walk_at "so");(·walk_at "so")
 |(exists L10.eP);(·walk_at "es");(·walk_at "gg")
 |(exists L10.mI);(·walk_at "ts");(·walk_at "so");(·walk_at "so")
 |(exists L10.jU);(·walk_at "es")
 |(exists L10.dL);(·walk_at "es")
 |(exists L10.Fp);(·walk_at "es");(·walk_at "es");(·walk_at "es")
 |with_reducible exact L10.ig
 |(exists L10.oI);(·walk_at "io");(·walk_at "gg");(·walk_at "so")
 |(exists L10.mQ);(·walk_at "ts");(·walk_at "so")
 |with_reducible exact L10.rj)
local macro_rules| `(tactic|walk_at "to")=> `(tactic|first
 |exact L2.dF
 |exact L2.tT (by assumption)
 |exact L2.C9 (by assumption)
 |exact L3.CJ (by assumption)
 |exact L3.An (by assumption)
 |exact L3.kg
 |exact L3.Al
 |exact L9.A4
 |exact L3.oO
 |exact L2.Kh
 |exact L2.C0
 |exact L2.HW
 |exact L3.HQ
 |exact L2.pE
 |exact L2.qj
 |exact L2.Dw
 |exact L2.Aa
 |exact L2.LK
 |exact L2.LH
 |exact L2.Lf
 |exact L2.yB
 |exact L2.k8
 |exact L2.gW
 |exact L2.iW
 |exact L3.rJ
 |exact L2.im
 |exact L2.yu
 |exact L3.yg
 |exact L2.Ik
 |exact aal
 |exact L2.Ar
 |exact L2.ul
 |exact L2.uD
 |exact L2.Mg
 |exact L2.D6
 |exact L2.vQ
 |exact L2.IX
 |exact L10.E5
 |exact L2.lu
 |with_reducible exact SA
 |with_reducible exact Sn
 |with_reducible exact Sq
 |with_reducible exact PySem.F.slot_list_insert
 |with_reducible exact PySem.F.type_list_insert
 |with_reducible exact PySem.F.slot_list_extend
 |with_reducible exact PySem.F.type_list_extend
 |with_reducible exact Sz
 |with_reducible exact TJ
 |with_reducible exact VZ
 |exact L2.Bg rfl
 |exact L2.Wb rfl
 |exact L3.xh rfl
 |exact L10.yq rfl
 |rfl)
local macro_rules| `(tactic|walk_at "pe")=> `(tactic|first
 |(exists L2.pv);(·rfl);(·(first|exact Or.inl rfl|exact Or.inr (Or.inl rfl)|exact Or.inr (Or.inr rfl)));(·decide);(·decide)
 |with_reducible exact L2.aM
 |(exists L2.fH);(·walk_at "to");(·walk_at "pe");(·walk_at "pe");(·exact fun _ _=>rfl)
 |with_reducible exact L2.yw
 |(exists L2.iz);(·walk_at "to");(·walk_at "pe");(·walk_at "pe")
 |(exists L2.sS);(·assumption);(·walk_at "pe");(·walk_at "pe");(·exact fun _ _=>rfl)
 |(exists L2.hZ);(·assumption);(·assumption);(·walk_at "pa");(·decide);(·rfl);(·decide);(·rfl);(·rfl)
 |(exists L2.fw);(·walk_at "pa")
 |with_reducible exact L2.pP
 |(exists L2.iV);(·walk_at "pa")
 |(exists L2.d9);(·walk_at "to");(·rfl);(·assumption);(·walk_at "to");(·walk_at "pa");(·decide);(·decide);(·rfl);(·rfl)
 |(exists L2.gf);(·walk_at "to");(·rfl);(·assumption);(·walk_at "to");(·walk_at "pa");(·decide);(·decide);(·rfl);(·rfl)
 |with_reducible exact L2.wI
 |(exists L2.oM);(·walk_at "to");(·walk_at "pe");(·walk_at "pe");(·(first|rfl|with_unfolding_all rfl))
 |(apply L2.Aw);(·walk_at "to");(·walk_at "to");(·walk_at "to");(·walk_at "to");(·walk_at "pe");(·walk_at "pa");(·rfl);(·rfl);(·decide);(·rfl);(·rfl)
 |(exists L2.Dt);(·walk_at "pe")
 |(exists L2.FX);(·walk_at "pe");(·walk_at "pe")
 |(exists L2.FB);(·walk_at "pc");(·(first|rfl|with_unfolding_all rfl))
 |(exists L2.FD);(·walk_at "to");(·walk_at "pe")
 |(apply L2.jB);(·walk_at "to");(·walk_at "pe");(·walk_at "po");(·walk_at "po")
 |(apply L2.Cq);(·walk_at "pe");(·walk_at "po")
 |(exists L2.zk);(·rfl);(·assumption);(·walk_at "to");(·(first|rfl|exact⟨_,rfl⟩));(·decide);(·decide))
local macro_rules| `(tactic|walk_at "pa")=> `(tactic|first
 |(exists L2.az);(·walk_at "pe");(·walk_at "pa");(·rfl)
 |with_reducible exact L2.aJ)
local macro_rules| `(tactic|walk_at "pt")=> `(tactic|first
 |(exists L2.fY);(·walk_at "to");(·walk_at "pe");(·walk_at "pe");(·(first|rfl|with_unfolding_all rfl))
 |(exists L2.Co);(·walk_at "pt")
 |(exists L2.qh);(·walk_at "pc");(·(first|rfl|with_unfolding_all rfl))
 |(exists L2.PW.pt);(·walk_at "pw")
 |(exists L2.yF);(·walk_at "pe");(·(intro _;rfl)))
local macro_rules| `(tactic|walk_at "pw")=> `(tactic|first
 |(exists L2.zN);(·walk_at "pt")
 |(exists L2.EF);(·walk_at "pt");(·walk_at "pw")
 |(exists L2.KF);(·walk_at "pt")
 |(exists L2.ME);(·walk_at "pt");(·walk_at "pw"))
local macro_rules| `(tactic|walk_at "pc")=> `(tactic|first
 |(exists L2.K2);(·assumption);(·walk_at "pe");(·walk_at "pe")
 |(exists L2.rZ);(·assumption);(·walk_at "pe");(·walk_at "pe"))
local macro_rules| `(tactic|walk_at "pg")=> `(tactic|first
 |(exists L2.cJ);(·(first|assumption|decide+kernel));(·rfl);(·(first|exact Or.inl rfl|exact Or.inr rfl|assumption|rfl));(·(first|exact Or.inl rfl|exact Or.inr rfl|assumption|rfl))
 |(exists L2.gD);(·walk_at "pg");(·walk_at "pg");(·rfl)
 |with_reducible exact L2.nZ
 |(apply L2.tF);(·rfl);(·walk_at "pg");(·rfl);(·rfl))
local macro_rules| `(tactic|walk_at "pi")=> `(tactic|first
 |(exists L2.iq);(·rfl);(·assumption);(·walk_at "pa");(·rfl)
 |(apply L3.jI);(·walk_at "pe"))
local macro_rules| `(tactic|walk_at "po")=> `(tactic|first
 |with_reducible exact L2.oH
 |(exists L2.jm);(·walk_at "pe"))
local macro_rules| `(tactic|walk_at "te")=> `(tactic|first
 |(exists L2.aG);(·walk_at "te")
 |with_reducible exact L2.eR
 |(exists L2.ag);(·walk_at "te");(·walk_at "te")
 |(exists L2.bW);(·(first|assumption|decide+kernel));(·rfl);(·(first|exact Or.inl rfl|exact Or.inr rfl|assumption|rfl));(·walk_at "pe");(·rfl);(·(first|exact Or.inl rfl|exact Or.inr rfl|assumption|rfl))
 |(exists L2.kf);(·walk_at "pe");(·rfl)
 |(exists L2.bQ);(·walk_at "pe")
 |(exists L2.jQ);(·walk_at "pt");(·walk_at "te");(·walk_at "te")
 |(exists L2.mO);(·walk_at "to");(·rfl);(·walk_at "pi");(·walk_at "pg");(·walk_at "te");(·(intro _;rfl))
 |(exists L2.Gg);(·assumption);(·walk_at "pe");(·walk_at "pe");(·walk_at "pe");(·rfl)
 |(exists L2.JL);(·walk_at "pe");(·walk_at "pg");(·rfl);(·rfl);(·rfl)
 |(exists L2.qJ);(·walk_at "to");(·walk_at "pt");(·walk_at "te")
 |with_reducible exact L2.wN)
local macro_rules| `(tactic|walk_at "os")=> `(tactic|(intros;refine L3.zF (by walk_at "so") ?_;first|(apply L2.ag);(·walk_at "te");(·walk_at "te")|(apply L2.aG);(·walk_at "te")))| `(tactic|walk_at "cm")=> `(tactic|with_reducible exact LD.acP)| `(tactic|walk_at "to")=> `(tactic|exact LD.aeP (by assumption))
namespace K64
open PySem L2 L3
def top (i:Nat):Sl:=PySem.Challenge.pw_chordbed_k64_whole_clear_or_twofold.main.body.getD i (.Pass ⟨0,0,0,0⟩)
def fb:Sl->List Sl
 | .For _ _ b _ _=>b
 | .If _ b _ _=>b
 |_=>[]
def av:Sl->Qn
 | .Assign _ v _=>v
 |_=> .Name "" ⟨0,0,0,0⟩
def ss:Qn->Qn
 | .Subscript _ v _=>v
 |e=>e
def fI:Sl->Qn
 | .For _ i _ _ _=>i
 |_=> .Name "" ⟨0,0,0,0⟩
def aP:Sl->Pos
 | .Assign _ _ p=>p
 |_=>⟨0,0,0,0⟩
def nP:Sl->Pos
 | .Assign [.Name _ p] _ _=>p
 |_=>⟨0,0,0,0⟩
def sv:Qn->Qn
 | .Subscript v _ _=>v
 |e=>e
def le:Qn->List Qn
 | .List l _=>l
 |_=>[]
def bl:Qn->Qn
 | .BinOp a _ _ _=>a
 |e=>e
def dK:Qn->List (Option Qn)
 | .Dict k _ _=>k
 |_=>[]
def dV:Qn->List Qn
 | .Dict _ v _=>v
 |_=>[]
def DP:Sl:= .Pass ⟨0,0,0,0⟩
def DE:Qn:= .Name "" ⟨0,0,0,0⟩
theorem GJ {l p t n env}:Rm (.List l p) t n env=pure Ph:=rfl
theorem vJ {a o b p t n env}:Rm (.BinOp a o b p) t n env=pure Ph:=rfl
section
variable {P:PF} {w:Qc} {K:OK} {mg:Str->Option OW} {base:Heap} {f:Pc} {fd:QR}
theorem tS (F:TY K "_law_cell" "_law_cell" (top 16) f fd):FnOk P w K mg base gB 1 f fd ["_law_script","_law_k"] (l4 K 2 cz):=ko (N:=["_law_script","_law_k"]) (g:=jy) F (by walk_at "sc") rfl rfl rfl fun h A a s H E nd d c e b=>zF (eB (bR ff (bR j9 (xi n9 ay (iu ay) (iu (bR j9 ay aQ))) (ja (bj aQ bB))) aQ)) (aG (bQ (fH dF (iz kg (jB yg (pv 0) (jm (pv 1)) (jm (iz kg (pv 1) aM))) (iV (az aM aJ))) aM (fun _ _=>rfl))))
theorem nO (F:TY K "_law_stirred" "_law_stirred" (top 17) f fd):FnOk P w K mg base gB 1 f fd ["_law_cell_here","_law_salt"] (l4 K 2 bM):=ko (N:=["_law_cell_here","_law_salt","_law_number"]) (g:=eE) F (by walk_at "sc") rfl rfl rfl (by delta eE;walk_at "os")
theorem qD (F:TY K "_law_stream" "_law_stream" (top 19) f fd) (i:gH P w K mg base 1 "_law_stirred" ["_law_cell_here","_law_salt"] 2 bM) (e:mg "max"=Ld) (l:mg "range"=Ld):FnOk P w K mg base gB 2 f fd ["_law_cell_here","_law_many"] (l4 K 2 fC):=ko (N:=["_law_cell_here","_law_many","_law_found","_law_left","_law_k","_law_x","_law_j"]) (g:=fy) F (by walk_at "sc") rfl rfl rfl fun j A a s H E nd d c h b=>zF (aI (by walk_at "so")
   (aI (by walk_at "so")
   (aI (by walk_at "so")
   (eB ay)))) (ag (by walk_at "te")
   (ag (by walk_at "te")
   (ag (by walk_at "te")
   (aG (bQ (pv 2))))))
theorem nJ (F:TY K "_law_name_of" "_law_name_of" (top 23) f fd) (j:mg "range"=Ld):FnOk P w K mg base gB 1 f fd ["_law_rest"] (l4 K 1 eS):=ko (N:=["_law_rest","_law_word","_law_many","_law_k"]) (g:=eA) F (by walk_at "sc") rfl rfl rfl fun h A a s H E nd d c e b=>zF (aI (eC yX bz)
   (aI (by walk_at "so")
   (aI (by walk_at "so")
   (aI (by walk_at "so")
   (eB ay))))) (ag (bW (i:=1) nd rfl (Or.inl rfl) yw)
   (ag (by walk_at "te")
   (ag (by walk_at "te")
   (ag (by walk_at "te")
   (aG (bQ (pv 1)))))))
theorem kZ (F:TY K "_law_stroke_of" "_law_stroke_of" (top 24) f fd) (b:mg "range"=Ld) (a:mg "tuple"=Ld):FnOk P w K mg base gB 1 f fd ["_law_rest"] (l4 K 1 dr):=ko (N:=["_law_rest","_law_mask","_law_found","_law_key"]) (g:=cM) F (by walk_at "sc") rfl rfl rfl (by delta cM;walk_at "os")
theorem l7 (F:TY K "_law_read_book" "_law_read_book" (top 25) f fd) (j:gH P w K mg base 1 "_law_name_of" ["_law_rest"] 1 eS) (l:gH P w K mg base 1 "_law_stroke_of" ["_law_rest"] 1 dr) (c:mg "range"=Ld) (n:mg "tuple"=Ld):FnOk P w K mg base gB 2 f fd ["_law_xs"] (l4 K 1 dC):=ko (N:=["_law_xs","_law_found","_law_k","_law_word","_law_strokes_here","_law_rest","_law_j"]) (g:=dw) F (by walk_at "sc") rfl rfl rfl fun m A a s H E nd e d h b=>zF (aI (by walk_at "so")
   (aI (yT (lO (bj (bR j9 aQ (bR lQ (bR ff ay aQ) aQ)) bB)) bz (aI (by walk_at "so")
   (aI (by walk_at "so")
   (aI (by walk_at "so")
   (aI (by walk_at "so")
   (rG (eg (bR AI ay (wu rfl rfl wA (tK (iO bz (iO bz ug))) iC ay))) (by walk_at "so") j0))))))
   (by walk_at "so"))) (ag (by walk_at "te")
   (ag (mO Ti.never rfl (iq rfl c (az (iz kg aM (iz pE (fH dF (pv 0) aM (fun _ _=>rfl)) aM)) aJ)) (cJ (i:=2) nd rfl (Or.inl rfl)) (ag (by walk_at "te")
   (ag (by walk_at "te")
   (ag (by walk_at "te")
   (ag (by walk_at "te")
   (aG (jQ (fY (An b) (pv 3) (i4 ["_law_name","_law_other"] [] rfl (jI (pv 1)) (fun _ _ _ _=>(tF rfl (gD (cJ (i:=0) (show Sk (["_law_name","_law_other"]:List Str) by decide+kernel) rfl (Or.inl rfl)) (gD (cJ (i:=1) (show Sk (["_law_name","_law_other"]:List Str) by decide+kernel) rfl (Or.inl rfl)) nZ)))) (fun _ _ _ _=>iJ) (fun _ _ _ _=>(pv 0)) trivial rfl) (by with_unfolding_all rfl)) (aG (by walk_at "te")) eR)))))))
   (aG (by walk_at "te"))))
theorem uE (F:TY K "_law_wide" "_law_wide" (top 18) f fd) (b:gH P w K mg base 1 "_law_stirred" ["_law_cell_here","_law_salt"] 2 bM) (a:mg "max"=Ld):FnOk P w K mg base gB 2 f fd ["_law_cell_here","_law_salt"] (l4 K 2 bL):=ko (N:=["_law_cell_here","_law_salt"]) (g:=fL) F (by walk_at "sc") rfl rfl rfl (by delta fL;walk_at "os")
theorem qY (F:TY K "_law_names" "_law_names" (top 22) f fd) (c:mg "range"=Ld):FnOk P w K mg base gB 1 f fd ["_law_cell_here","_law_many"] (l4 K 2 eL):=ko (N:=["_law_cell_here","_law_many","_law_letters","_law_sign","_law_size","_law_at","_law_found","_law_k","_law_other"]) (g:=fX) F (by walk_at "sc") rfl rfl rfl fun j A a s H E nd e b h d=>zF (aI (eC yX bz)
   (aI (by walk_at "so")
   (aI (rG (zW (eg (bR u8 (bR lQ ay aQ) aQ)) (eg (bR Eo ay aQ))) (eB (om rfl rfl (lO (bj ay bB)) bz iC (bR L9.vV ay (bR j9 ay aQ)))) j0)
   (aI (by walk_at "so")
   (aI (by walk_at "so")
   (aI (eC (ja bB) bz)
   (aI (by walk_at "so")
   (eB ay)))))))) (ag (bW (i:=2) nd rfl (Or.inl rfl) yw)
   (ag (by walk_at "te")
   (ag (jQ (PW.pt (EF (fY (tT b) (iz pE (pv 0) aM) aM (iL _)) (zN (fY HW (pv 1) aM (iL _))))) (aG (bQ (i4 ["_law_k"] [("_law_sign",3)] rfl (iq rfl c (az (pv 1) aJ)) (fun _ _ _ _=>(cJ (i:=0) (show Sk (["_law_k","_law_sign"]:List Str) by decide+kernel) rfl (Or.inl rfl))) (fun _ _ _ _=>iJ) (fun _ _ _ _=>(iz L9.A4 (pv 1) (iz kg (pv 0) aM))) ⟨⟨rfl,rfl,Or.inl rfl⟩,trivial⟩ rfl))) eR)
   (ag (by walk_at "te")
   (ag (by walk_at "te")
   (ag (bW (i:=6) nd rfl (Or.inl rfl) (iV aJ))
   (ag (by walk_at "te")
   (aG (bQ (pv 6))))))))))
abbrev GR (P:PF) (w:Qc) (K:OK) (mg:Str->Option OW) (base:Heap) (f:Pc) (a:OW) (A:PX) (outer:List Env) (s:Pa) (H:Hp) (E:XK):Cx:=(nR gB P w K mg base ["_law_cell_here","_law_wide_here","_law_some","_law_bits","_law_keys","_law_key"] "_law_stroke" (aK (top 21)) f a A outer s H E).Zl
def jN:Sl:=(cI (top 21)).getD 0 DP
def Ea:Sl:=(cI (top 21)).getD 1 DP
def Cl:Sl:=(cI (top 21)).getD 2 DP
def kX:Qn:=av jN
def zd:Qn:=(le kX).getD 0 DE
def Aj:Qn:=(le kX).getD 1 DE
def AL:Qn:=(le kX).getD 2 DE
def A3:Qn:=(le kX).getD 3 DE
theorem b7:Tg ["_law_cell_here","_law_wide_here","_law_some","_law_bits","_law_keys","_law_key"] ["_law_cell_here","_law_wide_here"] (aK (top 21)):=by walk_at "sc"
theorem pi (F:TY K "_law_stroke" "_law_stroke" (top 21) f fd) (QX:mg "range"=Ld) (Ss:mg "len"=Ld) (RQ:mg "tuple"=Ld):FnOk P w K mg base gB 1 f fd ["_law_cell_here","_law_wide_here"] (l4 K 2 cU):=by
 refine OC (k:=0) (n:=2) (m:=6) (g:=fD) (FF:=cU) F b7 rfl rfl rfl (fun b A a s H E M=> ?_);have hu:=M.units;have hv:=EL M;have nd:=b7.nd;obtain⟨tq3,q,h⟩:∃t,PE (GR P w K mg base f b A a s H E) zd t/\EO K E t (bV (af (pC (.int 0)) au)):=⟨_,(fw (az aM aJ)),(gu (bj aQ bB))⟩;obtain⟨Z,p,e⟩:∃t,PE (GR P w K mg base f b A a s H E) Aj t/\EO K E t (bV (af (pC (.int 1)) au)):=⟨_,(fw (az aM aJ)),(gu (bj aQ bB))⟩;obtain⟨Y,o,d⟩:∃t,PE (GR P w K mg base f b A a s H E) AL t/\EO K E t (bV (af (pC (.int 0)) (af (pC (.int 1)) au))):=⟨_,(fw (az aM (az aM aJ))),(gu (bj aQ (bj aQ bB)))⟩;obtain⟨X,l,c⟩:∃t,PE (GR P w K mg base f b A a s H E) A3 t/\EO K E t (bV (af (pC (.int 2)) (af (pC (.int 11)) au))):=⟨_,(fw (az aM (az aM aJ))),(gu (bj aQ (bj aQ bB)))⟩;have Q:BE zd=Ph:=rfl;have S:BE Aj=Ph:=rfl;have N:BE AL=Ph:=rfl;have O:BE A3=Ph:=rfl;obtain⟨pq2,u⟩:∃pp,kX= .List [zd,Aj,AL,A3] pp:=⟨_,rfl⟩;obtain⟨tq2,r,j⟩:∃t,PE (GR P w K mg base f b A a s H E) kX t/\EO K E t (eX (af (bV (af (pC (.int 0)) au)) (af (bV (af (pC (.int 1)) au)) (af (bV (af (pC (.int 0)) (af (pC (.int 1)) au))) (af (bV (af (pC (.int 2)) (af (pC (.int 11)) au))) au))))):=by rw[u];generalize zd=z0 at*;generalize Aj=z1 at*;generalize AL=z2 at*;generalize A3=z3 at*;exact⟨_,iV (Nb q (Nb p (Nb o (Nb l aJ O) N) S) Q),ja (bj h (bj e (bj d (bj c bB))))⟩
 clear u Q S N O q h p e o d l c;have v:jN= .Assign [.Name "_law_some" (nP jN)] kX (aP jN):=rfl;have z:Rm kX (lD (.Name "_law_some" (nP jN))) (aP jN).line (GR P w K mg base f b A a s H E).env=pure Ph:=rfl;obtain⟨tq1,L,G⟩:∃t,PS (GR P w K mg base f b A a s H E) jN t/\SO K E t (aZ (eX (af (bV (af (pC (.int 0)) au)) (af (bV (af (pC (.int 1)) au)) (af (bV (af (pC (.int 0)) (af (pC (.int 1)) au))) (af (bV (af (pC (.int 2)) (af (pC (.int 11)) au))) au))))) (gN 2)):=by rw[v];generalize kX=z0 at*;generalize nP jN=z1 at*;generalize aP jN=z2 at*;exact⟨_,bW (i:=2) b7.nd rfl (Or.inl rfl) r (hs:=z),eC j bz⟩
 clear v z r j;obtain⟨U,J,C⟩:∃t,PS (GR P w K mg base f b A a s H E) Ea t/\SO K E t (lV (a9 (aa 1)) (aE (aZ (aH cG (aa 0) (pC (.int 4))) (gN 3))
 (aE (aZ (eX au) (gN 4))
 (aE (fM (g8 dZ (af (pC (.int 12)) au)) (gN 5) (aE (lV (a9 (aH kW (aH bC (aa 3) (pC (.int 2))) (pC (.int 1)))) (dE (iE 4 (aa 5))) cT)
 (aZ (aH cG (aa 3) (pC (.int 2))) (gN 3))))
 (lV (a9 (aH J1 (jn fu (af (aa 4) au)) (pC (.int 0)))) (dc (jn lA (af (aa 4) au))) cT)))) cT):=⟨_,(jQ (yF (pv 1)) (ag (bW (i:=3) b7.nd rfl (Or.inl rfl) (iz qj (pv 0) aM) (hs:=vJ))
   (ag (bW (i:=4) b7.nd rfl (Or.inl rfl) (iV aJ) (hs:=GJ))
   (ag (mO Ti.never rfl (iq rfl QX (az aM aJ)) (cJ (i:=5) b7.nd rfl (Or.inl rfl)) (ag (jQ (fY (tT hu) (iz pE (pv 3) aM) aM (iL _)) (aG (kf (Aw SA Sn Sq im (pv 4) (az (pv 5) aJ)))) eR)
   (aG (bW (i:=3) b7.nd rfl (Or.inl rfl) (iz qj (pv 3) aM) (hs:=vJ)))))
   (aG (jQ (fY C0 (d9 k8 rfl Ss Ar (az (pv 4) aJ)) aM (iL _)) (aG (bQ (gf gW rfl RQ ul (az (pv 4) aJ)))) eR))))) eR),(rG (Ix ay) (aI (eC (bR uF ay aQ) bz)
   (aI (eC (ja bB) bz)
   (aI (yT (lO (bj aQ bB)) bz (aI (rG (eg (bR u8 (bR lQ ay aQ) aQ)) (zn (EN ay)) j0)
   (eC (bR uF ay aQ) bz)))
   (rG (eg (bR yj (rD um (bj ay bB)) aQ)) (eB (rD oY (bj ay bB))) j0)))) j0)⟩
 obtain⟨T,I,B⟩:∃t,PS (GR P w K mg base f b A a s H E) Cl t/\SO K E t (dc (aH dR (aa 2) (aH bC (aa 0) (pC (.int 4))))):=⟨_,(bQ (fH dF (pv 2) (iz pE (pv 0) aM) (fun _ _=>rfl))),(eB (bR ff ay (bR lQ ay aQ)))⟩;have hb:(cI (top 21))=[jN,Ea,Cl]:=rfl;rw[hb];generalize jN=z0 at*;generalize Ea=z1 at*;generalize Cl=z2 at*;exact zF (aI G
   (aI C
   B)) (ag L
   (ag J
   (aG I)))
theorem uK (F:TY K "_law_book" "_law_book" (top 26) f fd) (e:gH P w K mg base 1 "_law_cell" ["_law_script","_law_k"] 2 cz) (l:gH P w K mg base 2 "_law_stream" ["_law_cell_here","_law_many"] 2 fC) (n:gH P w K mg base 2 "_law_read_book" ["_law_xs"] 1 dC) (o:gH P w K mg base 2 "_law_wide" ["_law_cell_here","_law_salt"] 2 bL) (j:gH P w K mg base 1 "_law_names" ["_law_cell_here","_law_many"] 2 eL) (m:gH P w K mg base 1 "_law_stroke" ["_law_cell_here","_law_wide_here"] 2 cU) (r:mg "range"=Ld) (q:mg "tuple"=Ld):FnOk P w K mg base gB 3 f fd ["_law_script","_law_at"] (l4 K 2 gL):=ko (N:=["_law_script","_law_at","_law_first","_law_sort","_law_many","_law_most","_law_names_here","_law_found","_law_k","_law_cell_here","_law_strokes_here","_law_j"]) (g:=gM) F (by walk_at "sc") rfl rfl rfl fun p A a s H E nd d c h b=>zF (aI (by walk_at "so")
   (aI (by walk_at "so")
   (aI (by walk_at "so")
   (aI (by walk_at "so")
   (aI (by walk_at "so")
   (aI (eC aQ bz)
   (aI (by walk_at "so")
   (aI (by walk_at "so")
   (aI (eC (ja bB) bz)
   (aI (by walk_at "so")
   (by walk_at "so"))))))))))) (ag (by walk_at "te")
   (ag (by walk_at "te")
   (ag (by walk_at "te")
   (ag (by walk_at "te")
   (ag (by walk_at "te")
   (ag (bW (i:=5) nd rfl (Or.inl rfl) aM)
   (ag (by walk_at "te")
   (ag (by walk_at "te")
   (ag (bW (i:=7) nd rfl (Or.inl rfl) (iV aJ))
   (ag (by walk_at "te")
   (aG (by walk_at "te"))))))))))))
theorem BR (F:TY K "begins" "begins" (top 7) f fd) (c:mg "len"=Ld):FnOk P w K mg base gB 1 f fd ["part","whole"] (l4 K 2 fK):=ko (N:=["part","whole"]) (g:=ql) F (by walk_at "sc") rfl rfl rfl fun i A a s H E nd e b h d=>zF (eB (bR u8 (xi Ad ay lF (iu (rD um (bj ay bB)))) ay)) (aG (bQ (oM (tT b) (jB oO (pv 1) oH (jm (d9 k8 rfl c Ar (az (pv 0) aJ)))) (pv 0) (iL _))))
theorem qR (F:TY K "first_ways" "first_ways" (top 5) f fd) (h:gH P w K mg base 1 "begins" ["part","whole"] 2 fK) (j:mg "len"=Ld):FnOk P w K mg base gB 2 f fd ["book"] (l4 K 1 eu):=ko (N:=["book","ways","one","part","other","whole"]) (g:=jk) F (by walk_at "sc") rfl rfl rfl fun l A a s H E nd d c e b=>zF (aI (eC (ja bB) bz)
   (aI (by walk_at "so")
   (eB ay))) (ag (bW (i:=1) nd rfl (Or.inl rfl) (iV aJ))
   (ag (by walk_at "te")
   (aG (bQ (pv 1)))))
theorem uQ (F:TY K "next_ways" "next_ways" (top 6) f fd) (h:gH P w K mg base 1 "begins" ["part","whole"] 2 fK) (j:mg "len"=Ld):FnOk P w K mg base gB 2 f fd ["book","way"] (l4 K 2 fG):=ko (N:=["book","way","price","rest","ways","word","strokes","over"]) (g:=jv) F (by walk_at "sc") rfl rfl rfl fun l A a s H E nd d c e b=>zF (aI (by walk_at "so")
   (aI (by walk_at "so")
   (aI (by walk_at "so")
   (aI (eC (ja bB) bz)
   (aI (by walk_at "so")
   (eB ay)))))) (ag (by walk_at "te")
   (ag (by walk_at "te")
   (ag (by walk_at "te")
   (ag (bW (i:=4) nd rfl (Or.inl rfl) (iV aJ))
   (ag (by walk_at "te")
   (aG (bQ (pv 4))))))))
theorem nN (F:TY K "_law_written" "_law_written" (top 27) f fd):FnOk P w K mg base gB 1 f fd ["_law_book_here","_law_words"] (l4 K 2 bG):=ko (N:=["_law_book_here","_law_words","_law_found","_law_word","_law_name","_law_strokes_here"]) (g:=gm) F (by walk_at "sc") rfl rfl rfl fun h A a s H E nd d c e b=>zF (aI (by walk_at "so")
   (aI (by walk_at "so")
   (eB ay))) (ag (by walk_at "te")
   (ag (by walk_at "te")
   (aG (bQ (pv 2)))))
theorem wB (F:TY K "_law_row" "_law_row" (top 28) f fd) (e:mg "isinstance"=Ld) (m:mg "list"=Ld) (d:mg "all"=Ld) (c:mg "str"=Ld):FnOk P w K mg base gB 1 f fd ["_law_found","_law_book_here"] (l4 K 2 de):=ko (N:=["_law_found","_law_book_here"]) (g:=kL) F (by walk_at "sc") rfl rfl rfl fun n A a s H E nd j h l b=>zF (aI (by walk_at "so")
   (eB (rD Ft (bj (om rfl rfl (mU ay) bz iC (Cs (Ee (by simp) ay) (bR Eg ay (om rfl rfl (mU ay) (tK (iO bz (iO bz ug))) iC ay)))) bB)))) (ag (by walk_at "te")
   (aG (bQ (d9 (xh rfl) rfl d IX (az (i4 ["_law_word"] [("_law_book_here",1)] rfl (jI (pv 0)) (fun _ _ _ _=>(cJ (i:=0) (show Sk (["_law_word","_law_book_here"]:List Str) by decide+kernel) rfl (Or.inl rfl))) (fun _ _ _ _=>iJ) (fun _ _ _ _=>(FX (d9 rJ rfl e lu (az (pv 0) (az (zk (v:= .ty "str") rfl c Ms rfl) aJ))) (Dt (oM (CJ b) (pv 0) (i4 ["_law_name","_law_strokes_here"] [] rfl (jI (pv 1)) (fun _ _ _ _=>(tF rfl (gD (cJ (i:=0) (show Sk (["_law_name","_law_strokes_here"]:List Str) by decide+kernel) rfl (Or.inl rfl)) (gD (cJ (i:=1) (show Sk (["_law_name","_law_strokes_here"]:List Str) by decide+kernel) rfl (Or.inl rfl)) nZ)))) (fun _ _ _ _=>iJ) (fun _ _ _ _=>(pv 0)) trivial rfl) (by with_unfolding_all rfl))))) ⟨⟨rfl,rfl,Or.inl rfl⟩,trivial⟩ rfl) aJ)))))
theorem nW (F:TY K "_law_twofold" "_law_twofold" (top 30) f fd) (a:gH P w K mg base 1 "_law_row" ["_law_found","_law_book_here"] 2 de) (c:gH P w K mg base 1 "_law_written" ["_law_book_here","_law_words"] 2 bG) (d:mg "isinstance"=Ld) (e:mg "tuple"=Ld) (b:mg "len"=Ld):FnOk P w K mg base gB 2 f fd ["_law_book_here","_law_found","_law_price"] (l4 K 3 cQ):=ko (N:=["_law_book_here","_law_found","_law_price","_law_strokes_here"]) (g:=ej) F (by walk_at "sc") rfl rfl rfl (by delta ej;walk_at "os")
theorem rh (F:TY K "_law_drawn" "_law_drawn" (top 31) f fd) (h:gH P w K mg base 2 "_law_wide" ["_law_cell_here","_law_salt"] 2 bL) (j:mg "len"=Ld):FnOk P w K mg base gB 3 f fd ["_law_book_here","_law_cells","_law_by"] (l4 K 3 eG):=ko (N:=["_law_book_here","_law_cells","_law_by","_law_words","_law_many","_law_cell_here","_law_name","_law_strokes_here"]) (g:=gc) F (by walk_at "sc") rfl rfl rfl fun l A a s H E nd d c e b=>zF (aI (eC (ja bB) bz)
   (aI (eC aQ bz)
   (aI (by walk_at "so")
   (eB ay)))) (ag (bW (i:=3) nd rfl (Or.inl rfl) (iV aJ))
   (ag (bW (i:=4) nd rfl (Or.inl rfl) aM)
   (ag (by walk_at "te")
   (aG (bQ (pv 3))))))
end
end K64
namespace K64
open PySem L2 L3 L10
section
variable {P:PF} {w:Qc} {K:OK} {mg:Str->Option OW} {base:Heap} {f:Pc} {fd:QR}
theorem Ew (F:TY K "offer" "offer" (top 4) f fd) (c:mg "min"=Ld):FnOk P w K mg base gB 3 f fd ["offers","ways"] (wW K 2 lH):=sH (N:=["offers","ways","way","rest"]) (g:=oJ) F (by walk_at "sc") rfl rfl rfl fun j A a s H E nd e b h d=>F0 (oI (zC bh) cf (aL (eP (aB (bR ff ay aQ)) cf)
   (rQ bh (aB ay) (pO FK (bE (aB ay) (bE (yo bh (aB ay) (aB ay)) dz)))))) (aG (mO Ti.never rfl (jI (pv 1)) (cJ (i:=2) nd rfl (Or.inl rfl)) (ag (bW (i:=3) nd rfl (Or.inl rfl) (fH dF (pv 2) aM (fun _ _=>rfl)))
   (aG (LD.WO b (pv 0) (pv 3) (d9 (LD.Wb rfl b) rfl c D6 (az (pv 2) (az (LD.XS b (pv 0) (pv 3) (pv 2) ⟨rfl,rfl,rfl,rfl⟩) aJ))) rfl)))))
theorem mK (F:TY K "cheapest_ways" "cheapest_ways" (top 3) f fd) (d:qS P w K mg base 3 "offer" ["offers","ways"] 2 lH) (j:gH P w K mg base 2 "first_ways" ["book"] 1 eu) (h:gH P w K mg base 2 "next_ways" ["book","way"] 2 fG) (e:mg "min"=Ld):FnOk P w K mg base gB 4 f fd ["book"] (wW K 1 bH):=sH (N:=["book","ways","offers","way"]) (g:=dN) F (by walk_at "sc") rfl rfl rfl fun n A c s H E nd b a m l=>F0 (aL (eP sf cf)
   (aL (eP sf cf)
   (aL (jU (ir (bE bh (bE (aB (xA (bj ay bB))) dz))))
   (aL (mQ (rq (Ez bh)) (aL (eP (Bs bh) cf)
   (aL (rQ bh (aB (bR ff ay aQ)) (Bf bh (aB (bR ff ay aQ))))
   (jU (ir (bE bh (bE (Fw rfl rfl (lC (mU (xA (bj ay (bj ay bB))))) cf (rq (qk (aB (bR ff ay aQ)) bh)) (aB ay)) dz)))))))
   (dL bh))))) (ag (bW (i:=1) nd rfl (Or.inr rfl) LD.VL)
   (ag (bW (i:=2) nd rfl (Or.inl rfl) LD.VL)
   (ag (kf (hZ d b (az (pv 2) (az (hZ j b (az (pv 0) aJ)) aJ))))
   (ag (qJ Ti.never (qh (LD.ZH a (pv 2)) (by with_unfolding_all rfl)) (ag (bW (i:=3) nd rfl (Or.inl rfl) (d9 (LD.X3 rfl a) rfl e D6 (az (LD.XY (pv 2) rfl rfl) aJ)))
   (ag (LD.WO a (pv 1) (fH dF (pv 3) aM (fun _ _=>rfl)) (LD.YJ a (pv 2) (fH dF (pv 3) aM (fun _ _=>rfl)) ⟨rfl,rfl,rfl,rfl⟩) rfl)
   (aG (kf (hZ d b (az (pv 2) (az (i4 ["further"] [("ways",1)] rfl (jI (hZ h b (az (pv 0) (az (pv 3) aJ)))) (fun _ _ _ _=>(cJ (i:=0) (show Sk (["further","ways"]:List Str) by decide+kernel) rfl (Or.inl rfl))) (fun _ _ _ _=>(Db (qh (LD.VO a (fH dF (pv 0) aM (fun _ _=>rfl)) (pv 1)) (by with_unfolding_all rfl)))) (fun _ _ _ _=>(pv 0)) ⟨⟨rfl,rfl,Or.inl rfl⟩,trivial⟩ rfl) aJ))))))))
   (aG (bQ (pv 1)))))))
theorem EU (F:TY K "rests" "rests" (top 1) f fd) (e:qS P w K mg base 4 "cheapest_ways" ["book"] 1 bH) (d:mg "sorted"=Ld):FnOk P w K mg base gB 5 f fd ["book"] (wW K 1 dJ):=sH (N:=["book","ways"]) (g:=oA) F (by walk_at "sc") rfl rfl rfl fun l A a s H E nd c b j h=>F0 (aL (eP (ir (bE (aB ay) dz)) cf)
   (dL (LD.XU LD.X2))) (ag (bW (i:=1) nd rfl (Or.inr rfl) (hZ e c (az (pv 0) aJ)))
   (aG (bQ (d9 (LD.Xh b) rfl d vQ (az (LD.ZG (i4 ["rest"] [("ways",1)] rfl (LD.YD (pv 1)) (fun _ _ _ _=>(cJ (i:=0) (show Sk (["rest","ways"]:List Str) by decide+kernel) rfl (Or.inl rfl))) (fun _ _ _ _=>iJ) (fun _ _ _ _=>fw (az (pv 0) (az (fH Cn (LD.Yw b (pv 1) (pv 0) (fun _ _=>rfl)) aM (fun _ _=>rfl)) aJ))) ⟨⟨rfl,rfl,Or.inl rfl⟩,trivial⟩ rfl)) aJ)))))
theorem x5 (F:TY K "twofold" "twofold" (top 2) f fd) (e:qS P w K mg base 4 "cheapest_ways" ["book"] 1 bH) (c:mg "list"=Ld):FnOk P w K mg base gB 5 f fd ["book"] (wW K 1 aV):=sH (N:=["book","ways"]) (g:=ke) F (by walk_at "sc") rfl rfl rfl fun l A a s H E nd d b j h=>F0 (aL (eP (ir (bE (aB ay) dz)) cf)
   (aL (mI (rq (qk (aB (gu bB)) bh)) (dL (aB o9)) ig)
   (dL (AY (bE (pO uN (bE (pS (mH bh (aB (gu bB))) (aB aQ)) dz)) (bE (pO uN (bE (pS (mH bh (aB (gu bB))) (aB aQ)) dz)) dz)))))) (ag (bW (i:=1) nd rfl (Or.inl rfl) (hZ e d (az (pv 0) aJ)))
   (ag (jQ (qh (LD.VO b (fw aJ) (pv 1)) (by with_unfolding_all rfl)) (aG (bQ pP)) eR)
   (aG (bQ (fw (az (gf iW rfl c uD (az (fH dF (LD.VG b (pv 1) (fw aJ) (fun _ _=>rfl)) aM (fun _ _=>rfl)) aJ)) (az (gf iW rfl c uD (az (fH dF (LD.VG b (pv 1) (fw aJ) (fun _ _=>rfl)) aM (fun _ _=>rfl)) aJ)) aJ)))))))
theorem rg (F:TY K "_law_asked" "_law_asked" (top 32) f fd) (d:qS P w K mg base 5 "rests" ["book"] 1 dJ) (j:qS P w K mg base 5 "twofold" ["book"] 1 aV) (h:gH P w K mg base 2 "_law_twofold" ["_law_book_here","_law_found","_law_price"] 3 cQ) (e:mg "dict"=Ld) (l:mg "range"=Ld):FnOk P w K mg base gB 6 f fd ["_law_book_here"] (wW K 1 bq):=sH (N:=["_law_book_here","_law_prices","_law_turn","_law_found"]) (g:=iU) F (by walk_at "sc") rfl rfl rfl fun o A b s H E nd c a n m=>F0 (aL (eP (LD.ZP (ni (bE (aB ay) dz))) cf)
   (aL (oI (lC (lO (bj aQ bB))) cf (aL (eP (ni (bE (aB ay) dz)) cf)
   (aL (mI (lz (oU Fr (oU Ax bh (aB o9)) (qk (aB (gu bB)) bh))) (dL (aB vC)) ig)
   (mI (lz (oU AQ bh (aB o9))) (aL (mI (zr (rq (Ao (bE (aB ay) (bE bh (bE (mH bh (aB (gu bB))) dz)))))) (dL (aB vC)) ig)
   (aL (jU (uz (pS bh (aB aQ)) (aB (bR ff (bR ff ay aQ) aQ))))
   (jU (uz (pS bh (aB aQ)) (aB (bR ff (bR ff ay (IU zR aQ)) aQ)))))) ig))))
   (dL (aB vC)))) (ag (bW (i:=1) nd rfl (Or.inl rfl) (gf (LD.WQ rfl a) rfl e E5 (az (hZ d c (az (pv 0) aJ)) aJ)))
   (ag (mO Ti.never rfl (iq rfl l (az aM aJ)) (cJ (i:=2) nd rfl (Or.inl rfl)) (ag (bW (i:=3) nd rfl (Or.inl rfl) (hZ j c (az (pv 0) aJ)))
   (ag (jQ (fY (C9 a) (oM Dw (pv 3) pP (iL _)) (FB (LD.VO a (fw aJ) (pv 1)) (by with_unfolding_all rfl)) (iL _)) (aG (bQ wI)) eR)
   (aG (jQ (fY Aa (pv 3) pP (iL _)) (ag (jQ (Co (yF (hZ h c (az (pv 0) (az (pv 3) (az (LD.VG a (pv 1) (fw aJ) (fun _ _=>rfl)) aJ)))))) (aG (bQ wI)) eR)
   (ag (kf (Aw SA Sn Sq im (fH dF (pv 3) aM (fun _ _=>rfl)) (az (fH dF (fH dF (pv 0) aM (fun _ _=>rfl)) aM (fun _ _=>rfl)) aJ)))
   (aG (kf (Aw SA Sn Sq im (fH dF (pv 3) aM (fun _ _=>rfl)) (az (fH dF (fH dF (pv 0) (FD yu aM) (fun _ _=>rfl)) aM (fun _ _=>rfl)) aJ)))))) eR)))))
   (aG (bQ wI))))
theorem mE (F:TY K "last_words_of" "last_words_of" (top 14) f fd) (l:mg "range"=Ld) (h:mg "len"=Ld):FnOk P w K mg base gB 3 f fd ["book","strokes"] (wW K 2 cn):=sH (N:=["book","strokes","last_words","place","word","part","end"]) (g:=fQ) F (by walk_at "sc") rfl rfl rfl fun j A a s H E nd d c e b=>F0 (aL (eP (Cz (DY (aB aQ) (aB o9) HA)) cf)
   (aL (by walk_at "so")
   (dL bh))) (ag (bW (i:=2) nd rfl (Or.inl rfl) (Hb (D5 aM pP GZ) rfl rfl (Za _ _) (by decide)))
   (ag (by walk_at "te")
   (aG (bQ (pv 2)))))
theorem nK (F:TY K "read_strokes" "read_strokes" (top 13) f fd) (m:qS P w K mg base 3 "last_words_of" ["book","strokes"] 2 cn) (n:mg "dict"=Ld) (e:mg "len"=Ld) (d:mg "list"=Ld) (c:mg "reversed"=Ld):FnOk P w K mg base gB 4 f fd ["book","strokes"] (wW K 2 cc):=sH (N:=["book","strokes","strokes_of","last_words","place","words","word"]) (g:=gA) F (by walk_at "sc") rfl rfl rfl fun o A a s H E nd l j b h=>F0 (aL (by walk_at "so")
   (aL (by walk_at "so")
   (aL (by walk_at "so")
   (aL (by walk_at "so")
   (aL (by walk_at "so")
   (aL (mQ (vq (eg (bR yj ay aQ))) (aL (by walk_at "so")
   (aL (by walk_at "so")
   (zX vt (pO um (bE (pD bh (aB ay)) dz))))))
   (dL (Fb bh)))))))) (ag (by walk_at "te")
   (ag (by walk_at "te")
   (ag (by walk_at "te")
   (ag (by walk_at "te")
   (ag (by walk_at "te")
   (ag (qJ Ti.never (fY C0 (pv 4) aM (iL _)) (ag (by walk_at "te")
   (ag (by walk_at "te")
   (aG (DT (i:=4) nd rfl (Or.inl rfl) (d9 k8 rfl e Ar (az (sS b (pv 2) (pv 6) (fun _ _=>rfl)) aJ)) HJ)))))
   (aG (bQ (xB rfl rfl d rfl c (pv 5))))))))))
theorem yU (F:TY K "written" "written" (top 12) f fd) (h:mg "dict"=Ld):FnOk P w K mg base gB 3 f fd ["book","words"] (wW K 2 dY):=sH (N:=["book","words","strokes_of","strokes","word"]) (g:=rS) F (by walk_at "sc") rfl rfl rfl fun j A a s H E nd e d b c=>F0 (aL (by walk_at "so")
   (aL (by walk_at "so")
   (aL (oI (lC (mU ay)) cf (aL (mI (rq (vx (aB ay) bh)) rj ig)
   (zX vS (pD bh (aB ay)))))
   (dL (aB ay))))) (ag (by walk_at "te")
   (ag (by walk_at "te")
   (ag (mO Ti.never rfl (jI (pv 1)) (cJ (i:=4) nd rfl (Or.inl rfl)) (ag (jQ (qh (rZ b (pv 4) (pv 2)) (by with_unfolding_all rfl)) (aG wN) eR)
   (aG (DT (i:=3) nd rfl (Or.inl rfl) (sS b (pv 2) (pv 4) (fun _ _=>rfl)) K7))))
   (aG (bQ (pv 3))))))
theorem JH (F:TY K "law" "law" (top 33) f fd) (o:qS P w K mg base 6 "_law_asked" ["_law_book_here"] 1 bq) (q:qS P w K mg base 5 "twofold" ["book"] 1 aV) (h:qS P w K mg base 3 "written" ["book","words"] 2 dY) (m:qS P w K mg base 4 "read_strokes" ["book","strokes"] 2 cc) (j:gH P w K mg base 3 "_law_book" ["_law_script","_law_at"] 2 gL) (n:gH P w K mg base 3 "_law_drawn" ["_law_book_here","_law_cells","_law_by"] 3 eG) (u:gH P w K mg base 1 "_law_written" ["_law_book_here","_law_words"] 2 bG) (r:gH P w K mg base 1 "_law_row" ["_law_found","_law_book_here"] 2 de) (b:mg "tuple"=Ld) (t:mg "len"=Ld) (p:mg "list"=Ld):FnOk P w K mg base gB 7 f fd ["_law_script"] (wW K 1 F_law):=sH (N:=["_law_script","_law_book_here","_law_other","_law_clear","_law_one","_law_words","_law_strokes_here","_law_read"]) (g:=CU) F (by walk_at "sc") rfl rfl rfl fun v A a s H E nd e d l c=>F0 (aL (by walk_at "so")
   (aL (eP (Ac (aB (rD oY (bj (om rfl rfl (mU (bR w6 (xi Ad ay (iu aQ) lF) (xi Ad ay lF (iu aQ)))) (tK (iO bz (iO bz ug))) iC (gu (bj ay (bj (L9.DC ay) bB)))) bB)))) cf)
   (aL (by walk_at "so")
   (aL (by walk_at "so")
   (aL (by walk_at "so")
   (aL (by walk_at "so")
   (aL (by walk_at "so")
   (dL (aB vC))))))))) (ag (by walk_at "te")
   (ag (bW (i:=2) nd rfl (Or.inl rfl) (gf gW rfl b ul (az (i4 ["_law_name","_law_strokes_here"] [] rfl (jI (iz Al (jB oO (pv 1) (jm aM) oH) (jB oO (pv 1) oH (jm aM)))) (fun _ _ _ _=>(tF rfl (gD (cJ (i:=0) (show Sk (["_law_name","_law_strokes_here"]:List Str) by decide+kernel) rfl (Or.inl rfl)) (gD (cJ (i:=1) (show Sk (["_law_name","_law_strokes_here"]:List Str) by decide+kernel) rfl (Or.inl rfl)) nZ)))) (fun _ _ _ _=>iJ) (fun _ _ _ _=>(fw (az (pv 0) (az (Cq (pv 1) (jm (FD yu aM))) aJ)))) trivial rfl) aJ)))
   (ag (by walk_at "te")
   (ag (by walk_at "te")
   (ag (by walk_at "te")
   (ag (by walk_at "te")
   (ag (by walk_at "te")
   (aG (bQ wI)))))))))
end
end K64
theorem OH {α:Type}:∀{l:List α},l.length=1->∃a,l=[a]
 |[a],_=>⟨a,rfl⟩
theorem OJ {α:Type}:∀{l:List α},l.length=2->∃a b,l=[a,b]
 |[a,b],_=>⟨a,b,rfl⟩
theorem OE {α:Type}:∀{l:List α},l.length=3->∃a b c,l=[a,b,c]
 |[a,b,c],_=>⟨a,b,c,rfl⟩
local macro_rules| `(tactic|walk_at "ba")=> `(tactic|(intro _ _ _ _ _ _ us hl;first|(obtain⟨_,h⟩:=OH hl;subst h;rfl)|(obtain⟨_,_,h⟩:=OJ hl;subst h;rfl)|(obtain⟨_,_,_,h⟩:=OE hl;subst h;rfl)|(match us,hl with|[_,_,_,_],_=>rfl)|(match us,hl with|[_,_,_,_,_],_=>rfl)|(match us,hl with|[],_=>rfl)))| `(tactic|walk_at "fl")=> `(tactic|first|exact List.forall_mem_nil _|(refine List.forall_mem_cons.mpr ⟨?_,?_⟩;(·(show Q5 _ _ _=_;k_is));walk_at "fl"))| `(tactic|walk_at "ki")=> `(tactic|first|(refine' L3.NI.mk ?a' ⟨_,L2.Fu ?b' ?c' ?d'⟩;(case a'=>k_is);(case b'=>k_is);(case c'=>k_is);(case d'=>k_is))|(refine' L3.MI.mk ?a' ?e' ⟨_,L2.Fu ?b' ?c' ?d'⟩;(case a'=>k_is);(case e'=>k_is);(case b'=>k_is);(case c'=>k_is);(case d'=>k_is))|(refine' L3.CI.mk ?a' ?b' ?c' ?d' ?e' ?f' ?g' ?i';(case a'=>k_is);(case b'=>k_is);(case c'=>k_is);(case d'=>k_is);(case e'=>k_is);(case f'=>k_is);(case g'=>k_is);(case i'=>walk_at "fl"))|k_is|k_exc|rfl|decide+kernel|(rw[<-Yu];rfl))
namespace K64
open PySem L2 L3
def F_lawH:FN:=L10.LM F_law
theorem all_mk {l:Yc} {w:Qc} {K:OK} {h:Heap} {mg:Str->Option OW} {fa:Pc}
  {f0 f1 f2 f3 f4 f5 f6 f7 f8 f9 f10 f11 f12 f13 Z Y U T S Q O N M L J I:Pc} (X:K.In h) (G:h.Ns P7 mg) (g:mg "law"=lD (.ref fa))
  (h0:NI K f0 "_law_cell" (top 16))
  (h1:NI K f1 "_law_stirred" (top 17))
  (h2:NI K f2 "_law_stream" (top 19))
  (h3:NI K f3 "_law_name_of" (top 23))
  (h4:NI K f4 "_law_stroke_of" (top 24))
  (h5:NI K f5 "_law_read_book" (top 25))
  (h6:NI K f6 "_law_wide" (top 18))
  (h7:NI K f7 "_law_names" (top 22))
  (h8:NI K f8 "_law_stroke" (top 21))
  (h9:NI K f9 "_law_book" (top 26))
  (H:NI K f10 "begins" (top 7))
  (F:NI K f11 "first_ways" (top 5))
  (E:NI K f12 "next_ways" (top 6))
  (C:NI K f13 "_law_written" (top 27))
  (B:NI K Z "_law_row" (top 28))
  (A:NI K Y "_law_twofold" (top 30))
  (u:NI K U "_law_drawn" (top 31))
  (t:NI K T "offer" (top 4))
  (r:NI K S "cheapest_ways" (top 3))
  (q:NI K Q "rests" (top 1))
  (p:NI K O "twofold" (top 2))
  (o:NI K N "_law_asked" (top 32))
  (n:NI K M "last_words_of" (top 14))
  (m:NI K L "read_strokes" (top 13))
  (j:NI K J "written" (top 12))
  (i:NI K I "law" (top 33))
  (y0:Qv K P7 "max"=lD Ld)
  (y1:Qv K P7 "range"=lD Ld)
  (y2:Qv K P7 "tuple"=lD Ld)
  (y3:Qv K P7 "len"=lD Ld)
  (y4:Qv K P7 "isinstance"=lD Ld)
  (y5:Qv K P7 "list"=lD Ld)
  (y6:Qv K P7 "all"=lD Ld)
  (y7:Qv K P7 "str"=lD Ld)
  (y8:Qv K P7 "min"=lD Ld)
  (y9:Qv K P7 "sorted"=lD Ld)
  (f:Qv K P7 "dict"=lD Ld)
  (e:Qv K P7 "reversed"=lD Ld):
  ∃fd:QR,(∀(s:Pa) (v:OW),Vg s fd ⟨[v],[]⟩ [("_law_script",v)])/\∀base:Heap,K.In base->base.Ns P7 mg->FnOk l.prog w K mg base gB 7 fa fd ["_law_script"] (L3.l4 K 1 F_lawH):=by
 have XG:=Qt X G y0;have b:=Qt X G y1;have c:=Qt X G y2;have a:=Qt X G y3;have SH:=Qt X G y4;have d:=Qt X G y5;have YB:=Qt X G y6;have YM:=Qt X G y7;have Wg:=Qt X G y8;have VF:=Qt X G y9;have UN:=Qt X G f;have UO:=Qt X G e;refine i.law X G g (by walk_at "ba") fun base fd aax=> ?_;have Vl:=h0.Vp (P:=l.prog) (w:=w) (mg:=mg) (base:=base) X G (by walk_at "ba") fun _ z=>tS z;have SI:=h1.Vp (P:=l.prog) (w:=w) (mg:=mg) (base:=base) X G (by walk_at "ba") fun _ z=>nO z;have UI:=h2.Vp (P:=l.prog) (w:=w) (mg:=mg) (base:=base) X G (by walk_at "ba") fun _ z=>qD z SI XG b;have Uw:=h3.Vp (P:=l.prog) (w:=w) (mg:=mg) (base:=base) X G (by walk_at "ba") fun _ z=>nJ z b;have TM:=h4.Vp (P:=l.prog) (w:=w) (mg:=mg) (base:=base) X G (by walk_at "ba") fun _ z=>kZ z b c;have TN:=h5.Vp (P:=l.prog) (w:=w) (mg:=mg) (base:=base) X G (by walk_at "ba") fun _ z=>l7 z Uw TM b c;have TB:=h6.Vp (P:=l.prog) (w:=w) (mg:=mg) (base:=base) X G (by walk_at "ba") fun _ z=>uE z SI XG;have UX:=h7.Vp (P:=l.prog) (w:=w) (mg:=mg) (base:=base) X G (by walk_at "ba") fun _ z=>qY z b;have UH:=h8.Vp (P:=l.prog) (w:=w) (mg:=mg) (base:=base) X G (by walk_at "ba") fun _ z=>pi z b a c;have Vn:=h9.Vp (P:=l.prog) (w:=w) (mg:=mg) (base:=base) X G (by walk_at "ba") fun _ z=>uK z Vl UI TN TB UX UH b c;have UZ:=H.Vp (P:=l.prog) (w:=w) (mg:=mg) (base:=base) X G (by walk_at "ba") fun _ z=>BR z a;have T5:=F.Vp (P:=l.prog) (w:=w) (mg:=mg) (base:=base) X G (by walk_at "ba") fun _ z=>qR z UZ a;have UA:=E.Vp (P:=l.prog) (w:=w) (mg:=mg) (base:=base) X G (by walk_at "ba") fun _ z=>uQ z UZ a;have SJ:=C.Vp (P:=l.prog) (w:=w) (mg:=mg) (base:=base) X G (by walk_at "ba") fun _ z=>nN z;have T6:=B.Vp (P:=l.prog) (w:=w) (mg:=mg) (base:=base) X G (by walk_at "ba") fun _ z=>wB z SH d YB YM;have To:=A.Vp (P:=l.prog) (w:=w) (mg:=mg) (base:=base) X G (by walk_at "ba") fun _ z=>nW z T6 SJ SH c a;have U8:=u.Vp (P:=l.prog) (w:=w) (mg:=mg) (base:=base) X G (by walk_at "ba") fun _ z=>rh z TB a;have Vx:=t.Vp (P:=l.prog) (w:=w) (mg:=mg) (base:=base) X G (by walk_at "ba") fun _ z=>Ew z Wg;have Rx:=r.Vp (P:=l.prog) (w:=w) (mg:=mg) (base:=base) X G (by walk_at "ba") fun _ z=>mK z Vx T5 UA Wg;have Wt:=q.Vp (P:=l.prog) (w:=w) (mg:=mg) (base:=base) X G (by walk_at "ba") fun _ z=>EU z Rx VF;have TQ:=p.Vp (P:=l.prog) (w:=w) (mg:=mg) (base:=base) X G (by walk_at "ba") fun _ z=>x5 z Rx d;have U6:=o.Vp (P:=l.prog) (w:=w) (mg:=mg) (base:=base) X G (by walk_at "ba") fun _ z=>rg z Wt TQ To UN b;have Ui:=n.Vp (P:=l.prog) (w:=w) (mg:=mg) (base:=base) X G (by walk_at "ba") fun _ z=>mE z b a;have Ux:=m.Vp (P:=l.prog) (w:=w) (mg:=mg) (base:=base) X G (by walk_at "ba") fun _ z=>nK z Ui UN a d UO;have We:=j.Vp (P:=l.prog) (w:=w) (mg:=mg) (base:=base) X G (by walk_at "ba") fun _ z=>yU z UN;exact(JH aax U6 TQ We Ux Vn U8 SJ T6 c a d).imp (fun _ _ _ _ h=>L10.Jz h)
end K64
inductive PySem.W.Fast|tw11612580848753096436|tw12209750106185844952|tw2546068118197893384|tw13748031753852747321|tw16315060688414589148|tw13379823340503792649|tw1216700215261525929|tw659171763006755331|tw10133948815676908341|tw7355625984086121349|tw9199572408907978780|tw15462791818981374568|tw13846186953226737364|tw13298430710645895147|tw11740211348050837109|tw6872862160525006456|tw10043228192678745608|tw9369944314776703566|tw7569074758434564437|tw8158934110922066655|tw17057938019661982834|tw11342405149870384213|tw2574563967187583177|tw10066861960861952608|tw12709319773305154277|tw2887283974715347648|tw498875472058819250|tw14901521798530406140|tw7041742786999779433|tw13596323720968045820|tw3258930896220629418|tw8565669897781326829|tw9951882728533050350|tw2850689917541630196|tw15640995745372548204|tw14770565242224943554|tw18075948250116872779|tw3667254173162652902|tw9375775333798955638|tw2126075055461847730|tw3686263022090033635|tw2941649517630845037|tw15503877253471988721|tw9287704931372265225|tw970150811496703286|tw17728391099009239535|tw5203611731726082617|tw10228522325189821789|tw3840063457295302360|tw11519512828990539120|tw15006087773944912496|tw11388430963210560478|tw17107578873409803555|tw11594201138334599526|tw3788610657497862314|tw11640389786728547883|tw6399947698811130367|tw6900637090655110620|tw3251311968058649541|tw18189070716114144522|tw6440540892883039683|tw13848574921215235617|tw1093426712213621280|tw8134067979033463142|tw9112630956140014151|tw1367361535431175025|tw13586976269927228867|tw8081202487434309499|tw11580523023790918579|tw1939516423458113951|tw14255292197633280460|tw9359833799349607360|tw11398103803974954364|tw632033589103523503|tw13080046465354822824|tw489682032679974347|tw10545447910333808960|tw14943163339724518042|tw6052481438398243477|tw9974123536842177476|tw5747855491717843850|tw13631257370458922581|tw11621954025976111253|tw5848858570096971868|tw14666625551199137436|tw14608080668499839850|tw18333781741115601324|tw11912049544947884359|tw1217532600736889504|tw16447630081578209705|tw11520130249648091119|tw3883945440227751032|tw1860152601933946938|tw9302722459004013974|tw12792776445758055340|tw4400623139662542015|tw4879673245000352295|tw4062625250152121380|tw14462605393240859693|tw4201570033036001259|tw15555291473245219915|tw9126830788208138070|tw16874543668400204095|tw12740438341207930888|tw12686584844433871201|tw15464933825643167683
open PySem PySem.W PyProof.Rows
set_option maxRecDepth 100000 in
set_option maxHeartbeats 0 in
theorem PySem.Challenge.cw_chordbed_k64_whole_clear_or_twofold_holds : PySem.Challenge.rw_chordbed_k64_whole_clear_or_twofold.Holds := by
 w_on;o_law;k_head;(case hw=>w_witness2)
 k_fill
 refine L3.LP (l:=PySem.Challenge.rw_chordbed_k64_whole_clear_or_twofold) (n:=63) (k:=7) (x:= "_law_script") (F:=K64.F_lawH) rfl (by decide) rfl ⟨rfl,by decide,by decide⟩ (fun w h Y=>PySem.W.kIn_of Y) ?F K64.main
 case F=>
  intro w c d h b G a
  apply K64.all_mk b G a
  all_goals walk_at "ki"
