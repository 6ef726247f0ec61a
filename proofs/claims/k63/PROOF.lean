import PyProof.Rows.All
import Wide.All
import OpenK.AllK
import Wide.FinOn
import Lean
import PyProof.EqAt
import PyProof.EqKinds
import PyProof.TupleCall
import KE.KIntText
import KE.KRevSl
import PyProof.Rows.SeqMore
import PyProof.WalkInts
import PyProof.Rows.MinMaxN
import PyProof.ExcInit
import OpenK.KMake
import PyProof.InstStoreFacts
import PyProof.FString2
import PyProof.Rows.FStr
import PyProof.Rows.SetFrom
import PyProof.SeqRoads2
import PyProof.RangeFor
import PyProof.WalksMore
import PyProof.StrBlock2
import PyProof.Rows.SortShell
import PyProof.TupleOfSeq
import KE.KDictList
import KE.KDictOf
import PyProof.IsiH_tuple
import PyProof.Rows.RuleN_abs
import PyProof.Rows.Range3
import KE.KRevIter
import PyProof.StrLawsRepr
import PyProof.ReprStr
import PyProof.IsiH_list
import PyProof.Rows.TupDisplay
import PyProof.Rows.SortRuns
import PyProof.Rows.SortKey
import PyProof.Rows.SortShellK
import KE.KSortTup
import PyProof.SetKind
import PyProof.SetScanFacts
import PyProof.CollectIter
import PyProof.Rows.SortStr
import PySem.Challenge.RW_chordbed_k63_whole_rests_closed
set_option compiler.extract_closed false
set_option genSizeOf false
set_option genInjectivity false
set_option Elab.async false
set_option linter.all false
set_option maxRecDepth 100000
abbrev ai:=@if_pos
abbrev ak:=@if_neg
abbrev a6:=@decide_eq_true
abbrev a7:=@decide_eq_false
abbrev b9:=@of_decide_eq_true
abbrev cb:=@absurd
abbrev cc:=@List
abbrev cj:=@Option
abbrev c0:=@PySem.Heap.get?_push_of_some
abbrev c3:=@PySem.Heap.lt_size
abbrev c4:=@PySem.Heap.get?_push_size
abbrev c5:=@PySem.Heap.get?_update_other
abbrev c6:=@PySem.Heap.get?_update_self
abbrev di:=@PySem.Heap.size_push
abbrev dt:=@PySem.Obj.data_mapFields
abbrev dN:=@PySem.Obj.isFreed_of_fields
abbrev ee:=@Ne.symm
abbrev ey:=@congrArg
abbrev eF:=@beq_self_eq_true
local macro_rules|`(def $i:declId $s:optDeclSig $v:declVal)=>`(noncomputable def $i:declId $s:optDeclSig $v:declVal)|`(abbrev $i:declId $s:optDeclSig $v:declVal)=>`(noncomputable abbrev $i:declId $s:optDeclSig $v:declVal)
local macro_rules|`(tactic|ext)=>`(tactic|omega)
local macro_rules|`(tactic|ext)=>`(tactic|lia)
open Option renaming some->cL,none->CL,map_eq_some_iff->PM,bind_eq_some_iff->P7,isSome_iff_exists->QG,isSome_map->QU,isNone_iff_eq_none->Sx,map_some->Ul,map->VI,getD_none->Wh
open PySem renaming wpAny_bind->lD,Value->OC,PyData->OD,wpAny_pure->OE,Shared->OK,Addr->OL,Program->Pa,Builtin->Pb,sizeLine->Pd,NameKind->Pg,Expr->Po,Around->Pp,wpAny_newObj_type->Pw,World->Pz,mainGlobals->PK,starEach->PZ,bootBuiltins->Qd,wpAny_call_entry->Qk,wpAny_dictEntries->Qv,FuncData->Qx,wpAny_callSpecial?_slot->QA,DictEntry->QB,wpAny_holding->QE,binaryOp->QJ,mem_of_lookup->QM,wpAny_truthy_bool->QO,compareOp->QS,cellsFrom->QT,Reads->QV,ReadsAll->QW,Scope->Q1,wpAny_field->Q3,sysModules->Q6,wpAny_isInstance->Rb,wpAny_typeNameOfWhole_valiter->Ri,wpAny_typeNameOfWhole_keyiter->Rj,Stmt->Rk,wpAny_passesOwn->Ro,wpAny_dictEpoch->Rr,wpAny_notOrdered_dict->RA,wpAny_setField->RG,wpAny_typeNameOf_valiter->RL,plainId_quiet->RM,typeIs_int->RU,wpAny_tupleItemsOf->R0,Comprehension->Sm,codeAny_builtin->SD,wpAny_pyIter_list->SF,wpAny_typeOf->SI,wpAny_richCompare_same_room->SN,wpAny_tryCatch->S0,wpAny_of_eq->Te,IsPart->Tg,wpAny_attempt->Ti,Keyword->TF,call_meets->TH,wpAny_rule->TJ,wpAny_execs_nil->TK,isSubtype_tuple_tuple->TN,wpAny_isOneOf_valiter->TQ,wpAny_seqItems->T3,wpAny_letGo->T5,wpAny_fieldsOf->T7,BindsTo->T8,wpAny_Call_Name_kw->Uo,GenState->Ux,wpAny_sequenceKey->Uy,eqIsQuiet_byValue->UA,richCompare_gives->UB,swapsWith->UP,noFill_tuple_add->UQ,wpAny_forIn_list->UR,pushCells_keeps->Vc,wpAny_updateSeq->Ve,typeIs_str->Vu,wpAny_binaryOp_repeat_ref->VH,seq_tuple_add->VT,evalPart_none->VU,wpAny_pyIter_tuple->VV,CmpOp->Wc,PassesOwn->We,wpAny_pyNext_list_item->Wq,codeAny_mono->Wr,concat_meets->Ws,call_meetsIn->Wu,wpAny_isTrue_Compare1->W7,wpAny_pyNext_list_end->W8,wpAny_pyIter_listiter->W9,builtinLookup_eq_fast->Xb,wpAny_isOneOf_keyiter->Xd,Operator->Xv,sizeLine_eq->Xw,wpAny_Name->Ye,Result->Yg,wpAny_getItem_heap->Yh,call_function_tree->Yj,Drawn->YL,Model->YM,slot_list_getitem->YN,OsState->YQ,wpAny_Call_method->YS,wpAny_pyIter_slot->YT,wpAny_pyHash_int->Ze,wpAny_pyHash_str->Zf,wpAny_execs_cons->Zg,call->Zj,beq_builtin_none->Zm,wpAny_specialOf->aak,typeLookup_type->aal,wpAny_Compare1->aa5,isSubtype_stop->aba,intBits_le_64->acH,call_list_seq->acI,wpAny_handled->acK,wpAny_newList->acM
open PySem.W renaming Frag->Bn,nsIn->Qr,findIn->QH,keepIn->Q0,fnOf->Rq,kia_one->RE,cellsFrom_some->RJ,isFn->SX,codeIn->Tf,methodObj->TM,excIn->Uz,pyHash_slot->Vn,hasDictIn->VD,plainOver->VF,specialIn->VG,plainGet->VS,instObj->Wb,makesIn->Wf,OpenLaw->Wi,kitOne->Wt,mg_of->Xa
open Bool renaming and_eq_true->Ld,true->OG,false->OP,false_eq_true->OS,false_ne_true->OX,not_true->Qu,or_eq_true->Rf,true_and->Rg,not_eq_true'->RO,false_and->Sv,not_false->Tx,noConfusion->Um,and_false->XY,bne_true->Yi,true_or->YO
open List renaming length_map->OH,getElem?_eq_some_iff->OI,map_cons->OM,replicate->ON,length_append->OO,length_cons->OQ,getElem?_map->OT,mem_singleton->OU,mem_cons_of_mem->OV,mem_map->OW,getElem?_eq_getElem->OY,mem_cons_self->O0,size_toArray->O8,mem_of_getElem?->O9,getElem?_append_left->Pc,mem_cons->Pe,mem_append->Pf,mem_append_right->Ph,append_assoc->Pj,map_append->Pm,getElem?_append_right->Pn,map_nil->Pq,append_nil->Pu,length_replicate->Py,length_range->PD,all_eq_true->PF,range->PH,mem_append_left->PR,pairwise_append->PU,isEmpty_iff->PX,map_map->PY,length_take->P4,find?_cons->P6,length_singleton->P8,lookup_cons->Qb,zip_cons_cons->Qc,replicate_succ->Qh,mem_filter->Qi,nodup_cons->Qj,drop_eq_getElem_cons->Ql,filter_cons->Qm,getElem?_set->Qn,length_set->Qq,take_of_length_le->Qs,mem_filterMap->Qw,length_drop->Qy,take_length->Qz,drop_eq_nil_of_le->QD,pairwise_iff_getElem->QF,mem_range->QK,getElem_mem->QP,mem_flatMap->QQ,pairwise_cons->QR,getElem?_take_of_lt->QY,all_cons->QZ,filterMap_cons->Q2,getElem_of_mem->Q4,getElem?_replicate->Q5,length->Q8,getElem?_set_self->Q9,getElem_range->Ra,flatten_cons->Rm,find?_isSome->Rn,getElem?_set_ne->Rx,getD_eq_getElem?_getD->Ry,nodup_nil->Rz,length_reverse->RF,nil_append->RH,length_nil->RI,nodup_append->RP,pairwise_map->RQ,drop_left->RT,mem_iff_getElem?->Sb,take_append_drop->Sd,reverse_append->Si,flatMap_append->Sj,getElem?_drop->Sw,take_zero->Sy,reverse_cons->SJ,ext_getElem?->SQ,map_take->SU,getElem?_cons_zero->S4,getElem?_cons_succ->S5,eraseIdx_cons_succ->S6,map_snd_zip->S7,not_mem_nil->S8,mem_reverse->S9,foldl->Td,foldl_cons->Th,length_filter_le->Ts,perm_append_comm->Tt,filterMap_append->Tu,mem_of_mem_drop->Tz,mem_of_mem_take->TB,map_congr_left->TL,map_drop->TR,set_cons_zero->TZ,filterMap_nil->T1,take_add_one->Ua,of_mem_zip->Ut,forIn_cons->Uu,nodup_iff_pairwise_ne->UM,mem_of_find?_eq_some->US,length_eq_zero_iff->Vg,pairwise_singleton->Vh,length_pos_of_mem->Vp,getElem?_eq_none->Vv,contains_iff_mem->Vx,reverse_reverse->VJ,set->VL,filter_sublist->VX,filterMap_map->Wg,set_cons_succ->Wj,getElem_drop->Wv,getElem_take->Ww,foldl_append->WA,flatMap_cons->WC,map_fst_zip->Xe,getElem_map->Xf,nodup_range->Xg,map_reverse->Xh,drop_length->Xi,find?_some->XA,forIn_nil->XX,drop_zero->XZ,take_nil->Yk,range'->Zn,zip->acJ,map->acN
open Nat renaming le_refl->OJ,le_trans->OZ,lt_of_lt_of_le->Pk,le_of_ble_eq_true->Pl,ne_of_lt->PN,zero_le->P0,lt_irrefl->Qa,le_of_lt->Qo,lt_succ_self->QI,le_of_not_lt->Q7,ne_of_gt->RB,lt_succ_of_lt->RY,mul_le_mul->RZ,lt_trans->Sn,zero_add->Sq,lt_of_le_of_lt->SA,le_of_succ_le->SS,add_sub_cancel_left->Ta,sub_self->Ue,min_eq_right->Uq,le_add_right->Ur,min_eq_left->UH,min_le_right->Xx,not_lt_of_lt->Xy,add_assoc->YR,succ_mul->Zi,le_of_eq->Zk,sub_zero->Zl,le_succ->aan
open Option.some renaming inj->Pr,injEq->Tv
open Array renaming length_toList->Pt,toList_append->P9,getElem?_toList->Qg,perm_iff_toList_perm->Rt,toList_push->RN,toList_reverse->Sg,getElem?_eq_some_iff->Sr,getElem?_setIfInBounds_self_of_lt->Tr,isEmpty_iff->T4,getElem?_setIfInBounds_ne->T9,eq_empty_of_size_eq_zero->Ud,isEmpty_eq_false_iff->UD,getElem?_eq_none->Vd,getElem_extract->Vo,forIn_toList->VW,toList_zip->Wx,toList_map->Wz,all_toList->WB,size_map->Xz,toList->Yf
open Int renaming emod_nonneg->Px,emod_lt_of_pos->PB,toNat_natCast->Qp,ediv_nonneg->Rh,ediv_one->Zh,lt_trans->Zp,le_refl->aam
open PyProof.Rows renaming slot_tuple_getitem->PJ,envOfC->P5,callWith_type1->R8,callWith_builtin1->aaj
open List.cons renaming inj->Ss,injEq->T6
open PySem.F renaming args_tuple_add_2->Sz,entry_tuple_add->SH,plainAttrs_dict->SK,slot_tuple_add->SY,slot_dict_getitem->Uv,slot_dict_values->UC,slot_list_append->UE,type_list_append->UG,slot_dict_get->U7,slot_dict_pop->U8,slot_dict_ne->Vf
open List.Pairwise renaming nil->UL,imp_of_mem->Zq
open Array.Perm renaming refl->Vw,trans->acL
open PySem.W.Looks renaming ld->Zo
open PySem.SeqAt renaming compareEq_reads->aa6,compareNe_reads->aa7,notIn_list_reads->aa8,notIn_tuple_reads->aa9
open PySem.IsL renaming update->adT
open List.Perm renaming append_left->adU,append_right->adV
namespace L2
open PySem PySem.Spec PyProof.Rows
abbrev jA:=Sum Int Str
def FC:jA->OC->Bool
 |.inl k,v=>OC.isInt k v
 |.inr x,v=>OC.isStrOf x v
def Nl(w:Pz):jA->Int
 |.inl k=>hashInt k
 |.inr x=>hashStr w x
theorem bx:∀{k:jA} {v:OC},FC k v=OG->(∃i t,k=Sum.inl i/\v=OC.int i t)\/(∃x t,k=Sum.inr x/\v=OC.str x t)
 |.inl i,v,h=>by obtain⟨t,e⟩:=OC.isInt_shape h;exact .inl ⟨i,t,rfl,e⟩
 |.inr x,v,h=>by obtain⟨t,e⟩:=OC.isStrOf_shape h;exact .inr ⟨x,t,rfl,e⟩
theorem Gx(a b:Int):decide ((Sum.inl a:jA)=Sum.inl b)=(a==b):=by
 by_cases e:a=b
 .subst e;simp
 .have h:¬(Sum.inl a:jA)=Sum.inl b:=λq=>e (Sum.inl.inj q);rw[a7 h];exact(beq_eq_false_iff_ne.mpr e).symm
theorem JQ(a b:Str):decide ((Sum.inr a:jA)=Sum.inr b)=decide (a=b):=by
 by_cases e:a=b
 .subst e;simp
 .have h:¬(Sum.inr a:jA)=Sum.inr b:=λq=>e (Sum.inr.inj q);rw[a7 h,a7 e]
theorem GZ(a:Int)(b:Str):decide ((Sum.inl a:jA)=Sum.inr b)=OP:=a7 (λq=>nomatch q)
theorem GR(a:Str)(b:Int):decide ((Sum.inr a:jA)=Sum.inl b)=OP:=a7 (λq=>nomatch q)
def vo(prog:Pa)(w:Pz):PySem.KeyKind prog w jA where
 is:=FC
 hash:=Nl w
 inj:=λv a b ha f=>by
  rcases bx ha with⟨i,t,rfl,rfl⟩|⟨x,t,rfl,rfl⟩
  .rcases bx f with⟨j,u,rfl,e⟩|⟨y,u,rfl,e⟩
   .injection e with e1 _;rw[e1]
   .exact nomatch e
  .rcases bx f with⟨j,u,rfl,e⟩|⟨y,u,rfl,e⟩
   .exact nomatch e
   .injection e with e1 _;rw[e1]
 byValue:=λk v h=>by rcases bx h with⟨i,t,rfl,rfl⟩|⟨x,t,rfl,rfl⟩<;>rfl
 pyHash:=λd h=>by
  rcases bx d with⟨i,t,rfl,rfl⟩|⟨x,t,rfl,rfl⟩
  .exact Ze h
  .exact Zf h
 eqBool:=λg d h=>by
  rcases bx g with⟨i,t,rfl,rfl⟩|⟨x,t,rfl,rfl⟩
  .rcases bx d with⟨j,u,rfl,rfl⟩|⟨y,u,rfl,rfl⟩
   .rw[Gx]at h;exact wpAny_eqBool_int h
   .rw[GZ]at h;exact SeqAt.EqAt.int_str i t y u _ _ _ _ h
  .rcases bx d with⟨j,u,rfl,rfl⟩|⟨y,u,rfl,rfl⟩
   .rw[GR]at h;exact SeqAt.EqAt.str_int x t j u _ _ _ _ h
   .rw[JQ]at h;exact wpAny_eqBool_str h
 «strs»:=λk x t v h=>by
  rcases bx h with⟨i,u,rfl,e⟩|⟨y,u,rfl,e⟩
  .exact nomatch e
  .injection e with e1 _
   subst e1;cases v<;>rfl
inductive V where
 |Se|bl (b:Bool)|int (i:Int)|str (x:Str)|ZG (b:Array UInt8)|Zr (b:UInt64)|ref (a:OL)|ty (n:String)
 deriving DecidableEq
def RelV:V->OC->Prop
 |.Se,u=>u=OC.none
 |.bl b,u=>u=OC.bool b
 |.int i,u=>∃t,u=OC.int i t
 |.str x,u=>∃t,u=OC.str x t
 |.ZG b,u=>∃t,u=OC.bytes b t
 |.Zr b,u=>∃t,u=OC.float b t
 |.ref a,u=>u=OC.ref a
 |.ty n,u=>u=OC.type n
abbrev Vals:cc V->cc OC->Prop:=Paired RelV
theorem Vals.length(r:Vals xs us):xs.length=us.length:=Paired.length r
theorem Vals.get:∀{xs:cc V} {a:cc OC} {i:Nat} {x:V},Vals xs a->xs[i]?=cL x->∃u,a[i]?=cL u/\RelV x u
 |_,_,_,_,.nil,e=>by simp at e
 |_,_,0,_,.cons r _,e=>by simp at e;subst e;exact⟨_,rfl,r⟩
 |_,_,i+1,x,.cons _ t,e=>by obtain⟨u,h1,b⟩:=Vals.get t (by simpa using e);exact⟨u,by simpa using h1,b⟩
theorem Vals.append:∀{xs ys:cc V} {a ws:cc OC},Vals xs a->Vals ys ws->Vals (xs++ys) (a++ws)
 |_,_,_,_,.nil,s=>s
 |_,_,_,_,.cons r t,s=>.cons r (Vals.append t s)
theorem Vals.take:∀{xs:cc V} {a:cc OC} (n:Nat),Vals xs a->Vals (xs.take n) (a.take n)
 |_,_,0,_=>.nil
 |_,_,_+1,.nil=>.nil
 |_,_,n+1,.cons r t=>.cons r (Vals.take n t)
theorem Vals.drop:∀{xs:cc V} {a:cc OC} (n:Nat),Vals xs a->Vals (xs.drop n) (a.drop n)
 |_,_,0,r=>r
 |_,_,_+1,.nil=>.nil
 |_,_,n+1,.cons _ t=>Vals.drop n t
def Ug:cj V->cj OC->Prop
 |some v,cL u=>RelV v u
 |none,CL=>True
 |_,_=>False
def KV:cc (κ×V)->cc (κ×OC)->Prop:=Paired λ(p:κ×V) (q:κ×OC)=>p.1=q.1/\RelV p.2 q.2
def kV:jA->V
 |.inl i=>.int i
 |.inr x=>.str x
inductive HO where
 |lst (xs:cc V)
 |tup (xs:cc V)
 |dK (PL:cc (jA×V))|dT (PL:cc (cc jA×V))
 |set (S:Int->Bool) (n:Nat)
 |ins (C dx:OL) (fs:cc (Str×V))
 |own (x:OL)
 |xd (fs:cc (Str×V))
 |met (f x:OL)
 |rng (lo hi:Int)
 |frz (o:Obj) (u:HO)
 |Yw (ps:Array OC)
 |ext (φ:Heap->Prop)
 |Y0 (φ:Pz->Heap->Prop)
abbrev Hp:=OL->cj HO
def upd(H:Hp)(a:OL)(o:HO):Hp:=λb=>if b=a then cL o else H b
theorem ay:upd H a o a=cL o:=by unfold upd;rw[ai rfl]
theorem au(h:b≠a):upd H a o b=H b:=by unfold upd;rw[ak h]
theorem bB{H:Hp}(h:H a=cL o)(h':H b=CL):a≠b:=by intro e;subst e;rw[h]at h';cases h'
def Ui(h:Heap)(a:OL)(items:Array OC):Prop:=∃o,h.get? a=cL o/\(o.cls=.type "tuple"/\∃n,o.data=.seq items n)/\o.dict=CL
theorem Ui.tup(x:Ui h a items):IsTup h a items:=let⟨o,e,c,_⟩:=x;⟨o,e,c⟩
theorem Ui.lt(x:Ui h a items):a<h.objs.size:=let⟨_,e,_⟩:=x;c3 e
theorem Ui.new(h:Heap)(xs:Array OC):Ui (h.push {cls:=.type "tuple",data:=.seq xs}) h.objs.size xs:=⟨_,c4 _ rfl,⟨rfl,_,rfl⟩,rfl⟩
section
variable(P:Pa)(w:Pz)
def Qt(H:Hp)(h:Heap)(a:OL):HO->Prop
 |.lst xs=>xs.length<=Pd/\∃(b:cc OC) (n:Nat),Vals xs b/\h.get? a=cL {cls:=.type "list",data:=.seq b.toArray n}
 |.tup xs=>xs.length<=Pd/\∃b:cc OC,Vals xs b/\Ui h a b.toArray
 |.dK PL=>PL.length<=Pd/\(a==Q6)=OP/\∃vs,KV PL vs/\h.DictOf (vo P w) a vs
 |.dT PL=>PL.length<=Pd/\(a==Q6)=OP/\∃xs:cc (cc jA×OL×OC),
   Paired (λ(p:cc jA×V) (q:cc jA×OL×OC)=>p.1=q.1/\H q.2.1=cL (.tup (p.1.map kV))/\RelV p.2 q.2.2) PL xs/\
   ∃o es ep,h.get? a=cL o/\o.ExactDict/\o.data=.dict es ep/\es.toList=xs.map (entryOfKey (tupleKind (vo P w)))/\(xs.map (·.1)).Nodup
 |.set S n=>h.SetOf (intKind P w) a S n
 |.ins C dx fs=>H dx=cL (.own a)/\fs.length<=1000/\dx≠a/\h.get? a=cL (Wb C dx)/\
   ∃mA,h.Ns1 dx mA/\(∀f,Ug (fs.lookup f) (mA f))/\PySem.Within mA (fs.map (·.1))
 |.own _=>∃o,h.get? a=cL o
 |.xd fs=>∃mA,h.Ns1 a mA/\∀f,Ug (fs.lookup f) (mA f)
 |.rng lo hi=>∃t u v,h.get? a=cL {cls:=.type "range",data:=.fields #[.int lo t,.int hi u,.int 1 v]}
 |.frz o u=>h.get? a=cL o/\Qt H h a u
 |.Yw ps=>h.get? a=cL {cls:=.none,data:=.fields ps}
 |.met f x=>h.get? a=cL (TM (.ref f) (.ref x))
 |.ext φ=>φ h/\(∃o,h.get? a=cL o)/\∀h1 h2:Heap,φ h1->(∀o,h1.get? a=cL o->h2.get? a=cL o)->φ h2
 |.Y0 φ=>φ w h/\(∃o,h.get? a=cL o)/\∀h1 h2:Heap,φ w h1->(∀o,h1.get? a=cL o->h2.get? a=cL o)->φ w h2
def Ub(H:Hp)(h:Heap):Prop:=∀a o,H a=cL o->Qt P w H h a o
end
section
variable{P:Pa}{w:Pz}{H H':Hp}{h h':Heap}{a:OL}{o:HO}
theorem Qt.lt(x:Qt P w H h a o):a<h.objs.size:=by
 cases o with
 |lst xs=>obtain⟨_,_,_,_,e⟩:=x;exact c3 e
 |tup xs=>obtain⟨_,_,_,p⟩:=x;exact p.lt
 |dK PL=>obtain⟨_,_,_,_,o,_,_,e,_⟩:=x;exact c3 e
 |dT PL=>obtain⟨_,_,_,_,o,_,_,e,_⟩:=x;exact c3 e
 |set S n=>obtain⟨o,_,_,_,e,_⟩:=x;exact c3 e
 |ins C dx fs=>obtain⟨_,_,_,e,_⟩:=x;exact c3 e
 |own y=>obtain⟨_,e⟩:=x;exact c3 e
 |xd fs=>obtain⟨_,⟨_,_,_,e,_⟩,_⟩:=x;exact c3 e
 |rng lo hi=>obtain⟨_,_,_,e⟩:=x;exact c3 e
 |frz b u=>obtain⟨e,_⟩:=x;exact c3 e
 |Yw ps=>exact c3 (show h.get? a=cL _ from x)
 |met f y=>exact c3 (show h.get? a=cL _ from x)
 |ext φ=>obtain⟨_,⟨_,e⟩,_⟩:=x;exact c3 e
 |Y0 φ=>obtain⟨_,⟨_,e⟩,_⟩:=x;exact c3 e
theorem Paired.SE:∀{l₁:cc α} {l₂:cc β},Paired F l₁ l₂->(∀a b,F a b->G a b)->Paired G l₁ l₂
 |_,_,.nil,_=>.nil
 |_,_,.cons r t,f=>.cons (f _ _ r) (Paired.SE t f)
theorem Qt.UI(x:Qt P w H h a o)(k:∀b u,(b=a\/H b=cL (.own a))->h.get? b=cL u->h'.get? b=cL u)
  (E:∀b,H b=cL (.own a)->H' b=cL (.own a)) (B:∀b xs,H b=cL (.tup xs)->H' b=cL (.tup xs)):Qt P w H' h' a o:=by
 induction o with
 |lst xs=>obtain⟨z,m,n,r,e⟩:=x;exact⟨z,m,n,r,k _ _ (.inl rfl) e⟩
 |tup xs=>obtain⟨z,m,r,g,e,c⟩:=x;exact⟨z,m,r,g,k _ _ (.inl rfl) e,c⟩
 |dK PL=>obtain⟨z,y,vs,r,g,es,i,e,c⟩:=x;exact⟨z,y,vs,r,g,es,i,k _ _ (.inl rfl) e,c⟩
 |dT PL=>obtain⟨z,y,xs,r,g,es,i,e,c⟩:=x;exact⟨z,y,xs,Paired.SE r λp q z=>⟨z.1,B _ _ z.2.1,z.2.2⟩,g,es,i,k _ _ (.inl rfl) e,c⟩
 |set S n=>obtain⟨g,es,i,t,e,c⟩:=x;exact⟨g,es,i,t,k _ _ (.inl rfl) e,c⟩
 |ins C dx fs=>obtain⟨d,z,ne,e,l,⟨j,es,i,e2,c⟩,r⟩:=x;exact⟨E _ d,z,ne,k _ _ (.inl rfl) e,l,⟨j,es,i,k _ _ (.inr d) e2,c⟩,r⟩
 |own y=>obtain⟨g,e⟩:=x;exact⟨g,k _ _ (.inl rfl) e⟩
 |xd fs=>obtain⟨l,⟨j,es,i,e,c⟩,r⟩:=x;exact⟨l,⟨j,es,i,k _ _ (.inl rfl) e,c⟩,r⟩
 |rng lo hi=>obtain⟨t,u,v,e⟩:=x;exact⟨t,u,v,k _ _ (.inl rfl) e⟩
 |frz g u A=>obtain⟨e,q⟩:=x;exact⟨k _ _ (.inl rfl) e,A q⟩
 |Yw ps=>have e:h.get? a=cL {cls:=.none,data:=.fields ps}:=x;show h'.get? a=cL {cls:=.none,data:=.fields ps};exact k a _ (.inl rfl) e
 |met f y=>have e:h.get? a=cL (TM (.ref f) (.ref y)):=x;show h'.get? a=cL (TM (.ref f) (.ref y));exact k a _ (.inl rfl) e
 |ext φ=>obtain⟨p,⟨o,e⟩,st⟩:=x;exact⟨st _ _ p λo q=>k _ _ (.inl rfl) q,⟨o,k _ _ (.inl rfl) e⟩,st⟩
 |Y0 φ=>obtain⟨p,⟨o,e⟩,st⟩:=x;exact⟨st _ _ p λo q=>k _ _ (.inl rfl) q,⟨o,k _ _ (.inl rfl) e⟩,st⟩
theorem Ub.lt(x:Ub P w H h)(e:H a=cL o):a<h.objs.size:=(x a o e).lt
theorem Ub.fresh(x:Ub P w H h)(e:h.objs.size<=a):H a=CL:=by
 cases q:H a with
 |none=>rfl
 |some u=>exact cb (Pk (x.lt q) e) (Qa _)
theorem Ub.kept(x:Ub P w H h)(k:∀b u,h.get? b=cL u->h'.get? b=cL u):Ub P w H h':=λa o e=>
 (x a o e).UI (λb u _ q=>k b u q) (λ_ q=>q) λ_ _ q=>q
theorem Ub.laid(x:Ub P w H h)(k:∀b u,h.get? b=cL u->h'.get? b=cL u)(f:h.objs.size<=a)(new:Qt P w (upd H a o) h' a o):Ub P w (upd H a o) h':=λb u e=>by
 have hn:=x.fresh f;by_cases d:b=a
 .subst d;rw[ay]at e;cases e;exact new
 .rw[au d]at e;exact(x b u e).UI (λc v _ q=>k c v q) (λc q=>by rw[au (bB q hn)];exact q) λc xs q=>by rw[au (bB q hn)];exact q
end
def Rd(H:Hp)(a:OL)(u:HO):Prop:=H a=cL u\/∃o,H a=cL (.frz o u)
theorem Rd.ok(r:Rd H a u)(x:Ub P w H h):Qt P w H h a u:=by
 rcases r with r|⟨o,r⟩
 .exact x a u r
 .obtain⟨_,q⟩:=x a _ r;exact q
def KI:cj HO->Prop
 |some (.lst _)=>True
 |some (.dK _)=>True
 |some (.dT _)=>True
 |some (.set _ _)=>True
 |some (.ins _ _ _)=>True
 |some (.ext _)=>True
 |some (.Y0 _)=>True
 |_=>False
section
variable{P:Pa}{w:Pz}{H:Hp}{h h':Heap}{x e:OL}{Z:HO}
theorem Ub.write(ok:Ub P w H h)(a:KI (H x))(l:e=x\/H e=cL (.own x))(k:∀b u,b≠e->h.get? b=cL u->h'.get? b=cL u)(o:∃u,h'.get? e=cL u)
  (new:Qt P w (upd H x Z) h' x Z):Ub P w (upd H x Z) h':=λb u q=>by
 have m:∀c y,H c=cL (.own y)->c≠x:=λc y r z=>by subst z;rw[r]at a;exact a
 have i:∀c xs,H c=cL (.tup xs)->c≠x:=λc xs r z=>by subst z;rw[r]at a;exact a
 by_cases f:b=x
 .subst f;rw[ay]at q;cases q;exact new
 .rw[au f]at q
  by_cases g:b=e
  .have j:H b=cL (.own x):=by
    rcases l with z|z
    .exact cb (g.trans z) f
    .rw[g];exact z
   rw[q]at j;cases j;obtain⟨v,n⟩:=o;exact⟨v,by rw[g];exact n⟩
  .refine(ok b u q).UI (λc v d r=>k c v ?_ r) (λc r=>by rw[au (m c b r)];exact r) λc xs r=>by rw[au (i c xs r)];exact r
   rcases d with rfl|d
   .exact g
   .rintro rfl
    rcases l with z|z
    .exact m c b d z
    .rw[d]at z;cases z;exact f rfl
end
structure Un(fs ex:cc OL)(H H':Hp)(h h':Heap):Prop where
 keep:∀b o,h.get? b=cL o->H b=CL->b∉fs->b∉ex->h'.get? b=cL o
 slot:∀b o,h.get? b=cL o->H b=CL->b∈fs->b∉ex->∃sl,h'.get? b=cL {o with slots:=sl}
 free:∀b o,h.get? b=cL o->H b=CL->b∉ex->H' b=CL
 there:∀b o,h.get? b=cL o->b∉ex->∃o',h'.get? b=cL o'
 U5:∀b xs,H b=cL (.tup xs)->H' b=cL (.tup xs)
 UK:∀b o u,H b=cL (.frz o u)->H' b=cL (.frz o u)
 UW:∀b ps,H b=cL (.Yw ps)->∃more,H' b=cL (.Yw (ps++more))
section
variable{fs fs' ex ex':cc OL}{H H1 H2:Hp}{h h1 h2 h':Heap}{a x e:OL}{o:HO}
theorem Un.any(u:Un fs ex H H1 h h1)(q:h.get? b=cL ob)(n:H b=CL)(d:b∉ex):∃sl,h1.get? b=cL {ob with slots:=sl}:=by
 by_cases f:b∈fs
 .exact u.slot b ob q n f d
 .exact⟨ob.slots,u.keep b ob q n f d⟩
theorem Un.kept(k:∀b u,h.get? b=cL u->h'.get? b=cL u):Un fs ex H H h h':=
 ⟨λb d q _ _ _=>k b d q,λb d q _ _ _=>⟨d.slots,k b d q⟩,λ_ _ _ n _=>n,λb d q _=>⟨d,k b d q⟩,λ_ _ q=>q,λ_ _ _ q=>q,λ_ ps q=>⟨#[],by rw[q];simp⟩⟩
theorem Un.refl:Un fs ex H H h h:=Un.kept λ_ _ q=>q
theorem Un.laid(k:∀b u,h.get? b=cL u->h'.get? b=cL u)(d:h.objs.size<=a)(hn:H a=CL):Un fs ex H (upd H a o) h h' where
 keep:=λb u q _ _ _=>k b u q
 slot:=λb u q _ _ _=>⟨u.slots,k b u q⟩
 free:=λb u q n _=>by rw[au (PN (Pk (c3 q) d))];exact n
 there:=λb u q _=>⟨u,k b u q⟩
 U5:=λb xs q=>by rw[au (bB q hn)];exact q
 UK:=λb u xs q=>by rw[au (bB q hn)];exact q
 UW:=λb ps q=>⟨#[],by rw[au (bB q hn),q];simp⟩
theorem Un.write(d:KI (H x))(l:e=x\/H e=cL (.own x))(k:∀b u,b≠e->h.get? b=cL u->h'.get? b=cL u)(m:∃u,h'.get? e=cL u):Un fs ex H (upd H x o) h h':=by
 have f:∀b,H b=CL->b≠x:=λb n z=>by subst z;rw[n]at d;exact d
 have g:∀b,H b=CL->b≠e:=λb n z=>by
  subst z;rcases l with r|r
  .exact f b n r
  .rw[n]at r;cases r
 have hm:∀b u,H b=cL u->¬KI (cL u)->b≠x:=λb u q j z=>by subst z;rw[q]at d;exact j d
 refine⟨λb u q n _ _=>k b u (g b n) q,λb u q n _ _=>⟨u.slots,k b u (g b n) q⟩,λb u q n _=>by rw[au (f b n)];exact n,λb u q _=>?_,
  λb xs q=>by rw[au (hm b _ q λz=>z)];exact q,λb u xs q=>by rw[au (hm b _ q λz=>z)];exact q,λb ps q=>⟨#[],by rw[au (hm b _ q λz=>z),q];simp⟩⟩
 by_cases i:b=e
 .subst i;exact m
 .exact⟨u,k b u i q⟩
end
def Mr(h:Heap)(H:Hp):cc OL:=(PH h.objs.size).filter λa=>(H a).isSome
def oG(h:Heap)(H:Hp):Heap:=PySem.W.hideAll h (Mr h H)
theorem xh(h:Heap)(H:Hp):(oG h H).objs.size=h.objs.size:=PySem.W.hideAll_size _ _
theorem AK(e:h.get? b=cL o)(n:H b=CL):(oG h H).get? b=cL o:=
 PySem.W.hideAll_get _ e λhm=>by have q:=(Qi.mp hm).2;rw[n]at q;simp at q
theorem ET(e:(oG h H).get? b=cL o):h.get? b=cL o/\H b=CL:=by
 have a:=PySem.W.of_hideAll (Mr h H) e;refine⟨a,?_⟩;cases q:H b with
 |none=>rfl
 |some x=>have hm:b∈Mr h H:=Qi.mpr ⟨QK.mpr (c3 a),by simp[q]⟩;have z:(oG h H).get? b=CL:=PySem.W.hideAll_none (Mr h H) hm;rw[z]at e;cases e
structure Mod(K:Bn)(mg:Str->cj OC)(base:Heap):Prop where
 kin:K.In base
 glob:base.Ns PK mg
 blt:∃mb,base.Ns builtinsNs mb/\∀x:Str,x≠ "__name__"->mb x=Qd x
 nolimit:base.NoLimit
structure Cx where
 prog:Pa
 w:Pz
 K:Bn
 mg:Str->cj OC
 base:Heap
 A:Pp
 N:cc Str
 s₀:OK
 H₀:Hp
 env:Env
 outer:cc Env
 stack:cc Env
 ex:cc OL
 fn:Str->Bool
 calm:Bool
 pn:cc (OL×Obj)
 xe:OC->OK->Prop
def tK(l:cc Env):cc OL:=l.filterMap (·.frame)
abbrev Cx.fs(X:Cx):cc OL:=tK X.outer
def Nb(sc:Q1)(x:Str):Prop:=sc.names.lookup x=cL .local\/sc.names.lookup x=cL .cell\/sc.names.lookup x=cL .free
def J0(sc:Q1)(x:Str):Prop:=sc.names.lookup x=cL .local\/sc.names.lookup x=cL .cell
def Na(env:Env)(h:Heap)(m:Str->cj OC)(x:Str)(u:OC):Prop:=
 (env.kindOf x=cL .local/\m x=cL u)\/((env.kindOf x=cL .cell\/env.kindOf x=cL .free)/\∃c,env.cells.lookup x=cL c/\h.IsCell c (cL u))
structure Cx.Ok(X:Cx):Prop where
 mod:Mod X.K X.mg X.base
 kind:X.env.scope.kind=.function
 glob:X.env.globals=PK
 blt:X.env.builtins=builtinsNs
 above:X.s₀.heap.objs.size<=X.env.locals
 inj:∀x y c,X.env.cells.lookup x=cL c->X.env.cells.lookup y=cL c->x=y
 has:∀x,(X.env.kindOf x=cL .cell\/X.env.kindOf x=cL .free)->∃c,X.env.cells.lookup x=cL c
 Y4:∀x c,X.fn x=OG->X.env.cells.lookup x=cL c->X.s₀.heap.objs.size<=c
 hd:X.calm=OG->X.A.handled=CL
 frames:X.A.frames=cL X.stack
 ZD:X.stack=X.outer\/(X.stack=X.env::X.outer/\X.env.frame=cL X.env.locals)
 Zt:∀b∈X.ex,b≠X.env.locals/\∀x c,X.env.cells.lookup x=cL c->c≠b
 bs:∀b o,X.base.get? b=cL o->X.s₀.heap.get? b=cL o/\X.H₀ b=CL
 XG:X.base.objs.size<=X.s₀.heap.objs.size
 V9:∀b o,X.base.get? b=cL o->b∉X.ex
 V3:∀b∈X.ex,b∉X.fs
 Uh:X.s₀.heap.FunFrames X.base X.outer
 Yn:∀b∈X.fs,X.H₀ b=CL
structure Inv(X:Cx)(pins:cc (OL×Obj))(σ:cc (cj V))(H:Hp)(s:OK):Prop where
 ok:X.Ok
 os:s.os=X.s₀.os
 bare:AllBare s.gens
 base:Un X.fs X.ex X.H₀ H X.s₀.heap s.heap
 loc:∃m,s.heap.Ns X.env.locals m/\∀(i:Nat) (x:Str) (v:V),X.N[i]?=cL x->σ[i]?=cL (cL v)->Nb X.env.scope x->∃u,RelV v u/\Na X.env s.heap m x u
 cell:∀x c,X.env.cells.lookup x=cL c->∃v,s.heap.IsCell c v
 free:H X.env.locals=CL
 TC:∀x c,X.env.cells.lookup x=cL c->H c=CL
 pin:∀p∈X.pn++pins,s.heap.get? p.1=cL p.2/\H p.1=CL/\p.1≠X.env.locals/\p.1∉X.fs/\∀v,p.2.data≠.cell v
 QX:Ub X.prog X.w H s.heap
 len:σ.length=X.N.length
section
variable{X:Cx}{Z:cc (OL×Obj)}{Y:cc (cj V)}{H H':Hp}{s:OK}{h':Heap}
theorem Cx.Ok.abg(ok:X.Ok)(e:X.base.get? b=cL o):b∉X.fs:=λa=>by have:=(ok.Uh.mem a).1;rw[e]at this;cases this
theorem Inv.bs(I:Inv X Z Y H s):∀b o,X.base.get? b=cL o->s.heap.get? b=cL o/\H b=CL:=λb o e=>
 ⟨I.base.keep b o (I.ok.bs b o e).1 (I.ok.bs b o e).2 (I.ok.abg e) (I.ok.V9 b o e),I.base.free b o (I.ok.bs b o e).1 (I.ok.bs b o e).2 (I.ok.V9 b o e)⟩
theorem Inv.bk(I:Inv X Z Y H s):∀b o,X.base.get? b=cL o->s.heap.get? b=cL o:=λb o e=>(I.bs b o e).1
theorem Inv.mod(I:Inv X Z Y H s):Mod X.K X.mg X.base:=I.ok.mod
theorem Inv.V2(I:Inv X Z Y H s):X.K.In s.heap:=I.ok.mod.kin.keeps I.bk
theorem Inv.lt(I:Inv X Z Y H s):X.env.locals<s.heap.objs.size:=let⟨_,hn,_⟩:=I.loc;hn.lt
theorem Inv.sz(I:Inv X Z Y H s):X.s₀.heap.objs.size<=s.heap.objs.size:=OZ I.ok.above (Qo I.lt)
theorem Inv.abU(I:Inv X Z Y H s)(h:s.heap.objs.size<=a):a∉X.fs:=λd=>by obtain⟨_,o,b,_⟩:=I.ok.Uh.mem d;exact cb (Pk (c3 b) (OZ I.sz h)) (Qa _)
theorem Inv.Yy(I:Inv X Z Y H s):∀x c,X.env.cells.lookup x=cL c->c≠X.env.locals:=λx c e z=>by obtain⟨v,o,a,b⟩:=I.cell x c e;obtain⟨m,⟨g,es,h,d,f,_⟩,_⟩:=I.loc;rw[z,d]at a;cases a;rw[f]at b;cases b
theorem Inv.Uh(I:Inv X Z Y H s):s.heap.FunFrames X.base X.outer:=by
 have all:∀(l:cc Env),(∀b∈tK l,b∈X.fs)->X.s₀.heap.FunFrames X.base l->s.heap.FunFrames X.base l:=by
  intro l
  induction l with
  |nil=>intro _ _;trivial
  |cons p r h=>intro g k;obtain⟨m,⟨L,o,a,hn,j,n⟩,i⟩:=k;have f:=g L (by unfold tK;rw[Q2,a];exact O0);obtain⟨q,e⟩:=I.base.slot L o j (I.ok.Yn L f) f λz=>I.ok.V3 L z f;exact⟨m,⟨L,_,a,hn,e,n⟩,h (λb d=>g b (by unfold tK;rw[Q2,a];exact OV _ d)) i⟩
 exact all X.outer (λ_ d=>d) I.ok.Uh
theorem Inv.stack(I:Inv X Z Y H s):s.heap.FunFrames X.base X.stack:=by
 rcases I.ok.ZD with e|⟨e,hf⟩
 .rw[e];exact I.Uh
 .rw[e];obtain⟨m,hn,_⟩:=I.loc;refine .cons (by rw[I.ok.kind];decide) hf hn ?_ I.Uh;exact Heap.get?_none_of_le (OZ I.ok.XG I.ok.above)
theorem Inv.U3(I:Inv X Z Y H s):∀b∈tK X.stack,b∈X.env.locals::X.fs:=λb a=>by
 rcases I.ok.ZD with e|⟨e,hf⟩
 .rw[e]at a;exact OV _ a
 .rw[e]at a;unfold tK at a;rw[Q2,hf]at a;exact a
theorem Inv.U1(I:Inv X Z Y H s):∀b∈tK X.stack,H b=CL:=λb a=>by
 rcases Pe.mp (I.U3 b a)with e|a
 .rw[e];exact I.free
 .obtain⟨_,o,d,_⟩:=I.ok.Uh.mem a;exact I.base.free b o d (I.ok.Yn b a) λz=>I.ok.V3 b z a
theorem Inv.step{g':Array Ux}{t':Nat}{d':YL}{ch:cc OL}(I:Inv X Z Y H s)
  (B:∀b∈ch,(b∈X.ex\/X.s₀.heap.objs.size<=b)/\b≠X.env.locals/\(∀x c,X.env.cells.lookup x=cL c->c≠b)/\∀p∈X.pn++Z,p.1≠b)
  (keep:∀b o,b≠X.env.locals->b∉X.fs->b∉ch->s.heap.get? b=cL o->H b=CL->h'.get? b=cL o)
  (slot:∀b o,b≠X.env.locals->b∈X.fs->b∉ch->s.heap.get? b=cL o->H b=CL->∃sl,h'.get? b=cL {o with slots:=sl}) (free:∀b o,b∉ch->s.heap.get? b=cL o->H b=CL->H' b=CL)
  (there:∀b o,b∉ch->s.heap.get? b=cL o->∃o',h'.get? b=cL o')
  (U5:∀b xs,H b=cL (.tup xs)->H' b=cL (.tup xs)) (UK:∀b o u,H b=cL (.frz o u)->H' b=cL (.frz o u)) (UW:∀b ps,H b=cL (.Yw ps)->∃more,H' b=cL (.Yw (ps++more)))
  (J:∀m,s.heap.Ns X.env.locals m->h'.Ns X.env.locals m) (QX:Ub X.prog X.w H' h') (N:AllBare g'):
  Inv X Z Y H' {s with heap:=h',gens:=g',drawn:=d',toks:=t'}:=by
 have A:∀b o,X.s₀.heap.get? b=cL o->b≠X.env.locals:=λb o e=>PN (Pk (c3 e) I.ok.above);have h:∀b o,X.s₀.heap.get? b=cL o->b∉X.ex->b∉ch:=λb o e a j=>by
  rcases(B b j).1 with z|z
  .exact a z
  .exact cb (Pk (c3 e) z) (Qa _)
 have g:∀x c,X.env.cells.lookup x=cL c->∀v,s.heap.IsCell c v->h'.IsCell c v:=λx c e v ⟨o,t,C⟩=>by
  have f:c∉ch:=λz=>(B c z).2.2.1 x c e rfl;by_cases G:c∈X.fs
  .obtain⟨sl,q⟩:=slot c o (I.Yy x c e) G f t (I.TC x c e);exact⟨_,q,C⟩
  .exact⟨o,keep c o (I.Yy x c e) G f t (I.TC x c e),C⟩
 refine⟨I.ok,I.os,N,⟨λb o e n j a=>?_,λb o e n j a=>?_,λb o e n a=>?_,λb o e a=>?_,λb xs e=>U5 b xs (I.base.U5 b xs e),λb o xs e=>UK b o xs (I.base.UK b o xs e),λb ps e=>?_⟩,?_,λx c e=>?_,?_,λx c e=>?_,λp F=>?_,QX,I.len⟩
 .exact keep b o (A b o e) j (h b o e a) (I.base.keep b o e n j a) (I.base.free b o e n a)
 .obtain⟨sl,e1⟩:=I.base.slot b o e n j a;obtain⟨O,e2⟩:=slot b _ (A b o e) j (h b o e a) e1 (I.base.free b o e n a);exact⟨O,e2⟩
 .obtain⟨o',e1⟩:=I.base.there b o e a;exact free b o' (h b o e a) e1 (I.base.free b o e n a)
 .obtain⟨o',e1⟩:=I.base.there b o e a;exact there b o' (h b o e a) e1
 .obtain⟨L,e1⟩:=I.base.UW b ps e;obtain⟨K,e2⟩:=UW b _ e1;exact⟨L++K,by rw[e2,Array.append_assoc]⟩
 .obtain⟨m,hn,M⟩:=I.loc
  refine⟨m,J m hn,λi x v e1 e2 e3=>?_⟩;obtain⟨u,r,l⟩:=M i x v e1 e2 e3;refine⟨u,r,?_⟩;rcases l with l|⟨k,c,e,z⟩
  .exact .inl l
  .exact .inr ⟨k,c,e,g x c e _ z⟩
 .obtain⟨v,z⟩:=I.cell x c e;exact⟨v,g x c e v z⟩
 .obtain⟨m,⟨o,_,_,t,_⟩,_⟩:=I.loc;exact free _ o (λz=>(B _ z).2.1 rfl) t I.free
 .obtain⟨v,o,t,C⟩:=I.cell x c e;exact free c o (λz=>(B c z).2.2.1 x c e rfl) t (I.TC x c e)
 .obtain⟨e,n,ne,E,d⟩:=I.pin p F;have f:p.1∉ch:=λz=>(B p.1 z).2.2.2 p F rfl;exact⟨keep p.1 p.2 ne E f e n,free p.1 p.2 f e n,ne,E,d⟩
theorem Inv.un{t':Nat}(I:Inv X Z Y H s)(u:Un X.fs [] H H' s.heap h')(QX:Ub X.prog X.w H' h'):Inv X Z Y H' {s with heap:=h',toks:=t'}:=by obtain⟨m,⟨o,es,q,d,r⟩,_⟩:=id I.loc;obtain⟨k,h⟩:=u.any d I.free (by simp);exact I.step (g':=s.gens) (d':=s.drawn) (ch:=[]) (λ_ z=>nomatch z) (λb o _ a _ e n=>u.keep b o e n a (by simp)) (λb o _ a _ e n=>u.slot b o e n a (by simp)) (λb o _ e n=>u.free b o e n (by simp)) (λb o _ e=>u.there b o e (by simp)) u.U5 u.UK u.UW (λp hm=>by obtain⟨l,j,i,f,g⟩:=hm;rw[d]at f;cases f;exact⟨_,j,i,h,g⟩) QX I.bare
theorem Inv.call{g':Array Ux}{t':Nat}{d':YL}{ch:cc OL}(I:Inv X Z Y H s)(u:Un (tK X.stack) ch H H' s.heap h')(QX:Ub X.prog X.w H' h')(j:AllBare g')
  (h:∀b∈ch,(b∈X.ex\/X.s₀.heap.objs.size<=b)/\b≠X.env.locals/\(∀x c,X.env.cells.lookup x=cL c->c≠b)/\∀p∈X.pn++Z,p.1≠b):
  Inv X Z Y H' {s with heap:=h',gens:=g',drawn:=d',toks:=t'}:=by
 obtain⟨m,⟨o,es,B,f,r⟩,_⟩:=id I.loc;obtain⟨t,d⟩:=u.any f I.free λz=>(h _ z).2.1 rfl;exact I.step (ch:=ch) h (λb o d k a e n=>u.keep b o e n (λz=>(Pe.mp (I.U3 b z)).elim d k) a) (λb o _ _ a e n=>u.any e n a) (λb o a e n=>u.free b o e n a) (λb o a e=>u.there b o e a) u.U5 u.UK u.UW (λA hm=>by obtain⟨v,q,l,g,i⟩:=hm;rw[f]at g;cases g;exact⟨_,q,l,d,i⟩) QX j
theorem Inv.turned{t':Nat}{a:OL}(I:Inv X Z Y H s)(k:∀b o,b≠a->s.heap.get? b=cL o->h'.get? b=cL o)(hn:H a=CL)(g:a≠X.env.locals)
  (h1:a∈X.ex\/X.s₀.heap.objs.size<=a) (l:∀x c,X.env.cells.lookup x=cL c->c≠a) (j:∀p∈X.pn++Z,p.1≠a):Inv X Z Y H {s with heap:=h',toks:=t'}:=by
 have f:∀b u,H b=cL u->b≠a:=λb u e z=>by rw[z,hn]at e;cases e
 refine I.step (g':=s.gens) (d':=s.drawn) (ch:=[a]) (λb i=>?_) (λb o _ _ d e _=>k b o (λz=>d (by simp[z])) e) (λb o _ _ d e _=>⟨o.slots,k b o (λz=>d (by simp[z])) e⟩) (λ_ _ _ _ n=>n)
  (λb o d e=>⟨o,k b o (λz=>d (by simp[z])) e⟩) (λ_ _ e=>e) (λ_ _ _ e=>e) (λb ps e=>⟨#[],by rw[e];simp⟩) (λm hm=>?_) (λb u e=>?_) I.bare
 .have e:b=a:=by simpa using i
  subst e;exact⟨h1,g,l,j⟩
 .obtain⟨o,es,t,h,r⟩:=hm;exact⟨o,es,t,k _ o (ee g) h,r⟩
 .refine(I.QX b u e).UI (λc v d q=>k c v ?_ q) (λ_ q=>q) λ_ _ q=>q
  rcases d with z|z
  .rw[z];exact f b u e
  .exact f c _ z
theorem Inv.tok(I:Inv X Z Y H s)(t:Nat):Inv X Z Y H {s with toks:=t}:=I.un Un.refl I.QX
theorem Inv.kept{t':Nat}(I:Inv X Z Y H s)(k:∀b u,s.heap.get? b=cL u->h'.get? b=cL u):Inv X Z Y H {s with heap:=h',toks:=t'}:=I.un (Un.kept k) (I.QX.kept k)
theorem Inv.laid{a:OL}{o:HO}{t':Nat}(I:Inv X Z Y H s)(k:∀b u,s.heap.get? b=cL u->h'.get? b=cL u)(d:s.heap.objs.size<=a)(new:Qt X.prog X.w (upd H a o) h' a o):
  Inv X Z Y (upd H a o) {s with heap:=h',toks:=t'}:=I.un (Un.laid k d (I.QX.fresh d)) (I.QX.laid k d new)
theorem Inv.write{x e:OL}{o:HO}{t':Nat}(I:Inv X Z Y H s)(a:KI (H x))(d:e=x\/H e=cL (.own x))(k:∀b u,b≠e->s.heap.get? b=cL u->h'.get? b=cL u)(f:∃u,h'.get? e=cL u)
  (new:Qt X.prog X.w (upd H x o) h' x o):Inv X Z Y (upd H x o) {s with heap:=h',toks:=t'}:=I.un (Un.write a d k f) (I.QX.write a d k f new)
theorem Inv.VN(I:Inv X Z Y H s)(h:∀p∈ZO,s.heap.get? p.1=cL p.2/\H p.1=CL/\p.1≠X.env.locals/\p.1∉X.fs/\∀v,p.2.data≠.cell v):Inv X ZO Y H s:=
 ⟨I.ok,I.os,I.bare,I.base,I.loc,I.cell,I.free,I.TC,λp a=>(Pf.mp a).elim (λz=>I.pin p (PR _ z)) (h p),I.QX,I.len⟩
theorem qm{N:cc Str}(d:N.Nodup){i j:Nat}(a:N[i]?=cL x)(b:N[j]?=cL x):i=j:=by obtain⟨h1,e1⟩:=OI.mp a;obtain⟨e,e2⟩:=OI.mp b;exact(List.getElem_inj d).mp (e1.trans e2.symm)
theorem xX{M:YM}{A:Pp}{E:OC->OK->Prop}{i:Nat}{x:Str}{v:V}{u:OC}{Q:Unit->OK->Prop}(I:Inv X Z Y H s)(hN:X.N.Nodup)(hi:X.N[i]?=cL x)(hx:J0 X.env.scope x)(r:RelV v u)
  (h:∀s',Inv X Z (Y.set i (cL v)) H s'->(∃a,Heap.SameBut a s.heap s'.heap/\(a=X.env.locals\/X.env.cells.lookup x=cL a))->Q () s') (hf:X.fn x=OG\/X.env.scope.names.lookup x=cL .local:=by first|exact .inl rfl|exact .inr rfl|assumption):wpAny M A (storeName X.env x u) Q E s:=by
 obtain⟨m,hn,hl⟩:=id I.loc;have abr:(X.env.scope.kind==.class||(X.env.scope.kind==.module&&X.env.locals !=X.env.globals))=OP:=by rw[I.ok.kind];rfl
 have hiσ:i<Y.length:=by rw[I.len];exact(OI.mp hi).1
 have Yy:=I.Yy;have tracked:∀{a:OL} {h':Heap},(∃o,s.heap.get? a=cL o/\H a=CL)->Heap.SameBut a s.heap h'->Ub X.prog X.w H h':=λ{a h'} ha hs b ob e=>by
  obtain⟨_,_,Yd⟩:=ha;refine(I.QX b ob e).UI (λc w' hc q=>(hs.2 c ?_).trans q) (λ_ q=>q) λ_ _ q=>q;rintro rfl;rcases hc with rfl|hc
  .rw[Yd]at e;cases e
  .rw[Yd]at hc;cases hc
 rcases hx with hk|hk
 .refine wpAny_storeName_local hk hn (λh' ZK hs=>?_) abr
  obtain⟨oL,_,_,hoL,_⟩:=id hn;refine h _ ⟨I.ok,I.os,I.bare,⟨λb o e n hb hx=>?_,λb o e n hb hx=>?_,I.base.free,λb o e hx=>?_,I.base.U5,I.base.UK,I.base.UW⟩,⟨_,ZK,λj y v' e1 e2 e3=>?_⟩,λy c e=>?_,I.free,I.TC,λp hp=>?_,tracked ⟨oL,hoL,I.free⟩ hs,by simpa using I.len⟩ ⟨_,hs,.inl rfl⟩
  .exact(hs.2 b (PN (Pk (c3 e) I.ok.above))).trans (I.base.keep b o e n hb hx)
  .obtain⟨sl,e1⟩:=I.base.slot b o e n hb hx;exact⟨sl,(hs.2 b (PN (Pk (c3 e) I.ok.above))).trans e1⟩
  .obtain⟨o',e1⟩:=I.base.there b o e hx;exact⟨o',(hs.2 b (PN (Pk (c3 e) I.ok.above))).trans e1⟩
  .by_cases hj:j=i
   .subst hj;rw[hi]at e1;cases e1;rw[Q9 hiσ]at e2;cases e2;exact⟨u,r,.inl ⟨hk,by simp⟩⟩
   .rw[Rx (ee hj)]at e2
    obtain⟨u',r',q⟩:=hl j y v' e1 e2 e3;refine⟨u',r',?_⟩;rcases q with⟨k,e⟩|⟨k,c,e,z⟩
    .refine .inl ⟨k,?_⟩;have:y≠x:=λe=>hj (qm hN e1 (e▸hi));simp[this,e]
    .exact .inr ⟨k,c,e,z.sameBut hs (Yy y c e)⟩
  .obtain⟨w',z⟩:=I.cell y c e;exact⟨w',z.sameBut hs (Yy y c e)⟩
  .obtain⟨e,n,ne,nf,d⟩:=I.pin p hp;exact⟨(hs.2 p.1 ne).trans e,n,ne,nf,d⟩
 .have hfn:X.fn x=OG:=by
   rcases hf with z|z
   .exact z
   .rw[z]at hk;cases hk
  obtain⟨c,hc⟩:=I.ok.has x (.inl hk);obtain⟨w',z⟩:=I.cell x c hc;refine wpAny_storeName_cell I.ok.kind hk hc z (λh' U9 hs=>?_);obtain⟨oc,Zd,abc⟩:=id z;refine h {s with heap:=h'} ⟨I.ok,I.os,I.bare,⟨λb o e n hb hx=>?_,λb o e n hb hx=>?_,I.base.free,λb o e hx=>?_,I.base.U5,I.base.UK,I.base.UW⟩,⟨m,hn.sameBut hs (ee (Yy x c hc)),λj y v' e1 e2 e3=>?_⟩,λy c' e=>?_,I.free,I.TC,λp hp=>?_,tracked ⟨oc,Zd,I.TC x c hc⟩ hs,by simpa using I.len⟩ ⟨c,hs,.inr hc⟩
  .exact(hs.2 b (PN (Pk (c3 e) (I.ok.Y4 x c hfn hc)))).trans (I.base.keep b o e n hb hx)
  .obtain⟨sl,e1⟩:=I.base.slot b o e n hb hx;exact⟨sl,(hs.2 b (PN (Pk (c3 e) (I.ok.Y4 x c hfn hc)))).trans e1⟩
  .obtain⟨o',e1⟩:=I.base.there b o e hx;exact⟨o',(hs.2 b (PN (Pk (c3 e) (I.ok.Y4 x c hfn hc)))).trans e1⟩
  .by_cases hj:j=i
   .subst hj;rw[hi]at e1;cases e1;rw[Q9 hiσ]at e2;cases e2;exact⟨u,r,.inr ⟨.inl hk,c,hc,U9⟩⟩
   .rw[Rx (ee hj)]at e2
    obtain⟨u',r',q⟩:=hl j y v' e1 e2 e3;refine⟨u',r',?_⟩;rcases q with q|⟨k,c',e,z'⟩
    .exact .inl q
    .refine .inr ⟨k,c',e,z'.sameBut hs ?_⟩;rintro rfl;exact hj (qm hN e1 (I.ok.inj _ _ _ e hc▸hi))
  .by_cases hcc:c'=c
   .subst hcc;exact⟨_,U9⟩
   .obtain⟨w2,z2⟩:=I.cell y c' e;exact⟨w2,z2.sameBut hs hcc⟩
  .obtain⟨e,n,ne,nf,d⟩:=I.pin p hp;refine⟨(hs.2 p.1 ?_).trans e,n,ne,nf,d⟩;intro q;rw[q,Zd]at e;have q':oc=p.2:=Pr e;exact d w' (by rw[<-q'];exact abc)
theorem rK{i:Nat}{v:V}{u:OC}{Q:Unit->OK->Prop}(I:Inv X Z Y H s)(hN:X.N.Nodup)(hi:X.N[i]?=cL x)(hx:J0 X.env.scope x)(r:RelV v u)
  (h:∀s',Inv X Z (Y.set i (cL v)) H s'->Q () s') (hf:X.fn x=OG\/X.env.scope.names.lookup x=cL .local:=by first|exact .inl rfl|exact .inr rfl|assumption):wpAny M A (storeName X.env x u) Q E s:=
 xX I hN hi hx r (λs' I' _=>h s' I') hf
theorem Inv.Yc{a:OK}{ch:cc OL}(I:Inv X Z Y H s)(f:a.os=s.os)(u:Un (tK X.stack) ch H H' s.heap a.heap)(QX:Ub X.prog X.w H' a.heap)(g:AllBare a.gens)
  (h:∀b∈ch,(b∈X.ex\/X.s₀.heap.objs.size<=b)/\b≠X.env.locals/\(∀x c,X.env.cells.lookup x=cL c->c≠b)/\∀p∈X.pn++Z,p.1≠b):Inv X Z Y H' a:=by
 obtain⟨h',g',d',t',d⟩:=a;have e:d=s.os:=f;subst e;exact I.call (g':=g') (t':=t') (d':=d') u QX g h
end
abbrev XK:=OC->cj OL->Hp->Prop
abbrev St:=cc (cj V)
abbrev VK:=V->Hp->Prop
abbrev TE:=St->Hp->VK->Prop
abbrev TT:=St->Hp->(Bool->Hp->Prop)->Prop
abbrev TA:=St->Hp->(cc V->Hp->Prop)->Prop
structure Ends where
 nx:St->Hp->Prop
 rt:VK
 bk:St->Hp->Prop:=λ_ _=>False
 ct:St->Hp->Prop:=λ_ _=>False
abbrev TS:=Ends->St->Hp->Prop
def EP(X:Cx)(a:cc (OL×Obj))(b:St)(Q:VK)(u:OC)(d:OK):Prop:=∃v H',Inv X a b H' d/\RelV v u/\Q v H'
def TP(X:Cx)(a:cc (OL×Obj))(d:St)(Q:Bool->Hp->Prop)(b:Bool)(e:OK):Prop:=∃H',Inv X a d H' e/\Q b H'
def AP(X:Cx)(a:cc (OL×Obj))(b:St)(Q:cc V->Hp->Prop)(d:cc OC)(e:OK):Prop:=∃vs H',Inv X a b H' e/\Vals vs d/\Q vs H'
def SP(X:Cx)(a:cc (OL×Obj))(D:Ends)(f:Flow)(b:OK):Prop:=
 match f with
 |.next=>∃σ' H',Inv X a σ' H' b/\D.nx σ' H'
 |.brk=>∃σ' H',Inv X a σ' H' b/\D.bk σ' H'
 |.cont=>∃σ' H',Inv X a σ' H' b/\D.ct σ' H'
 |.ret u=>∃v σ' H',Inv X a σ' H' b/\RelV v u/\D.rt v H'
def PE(X:Cx)(e:Po)(t:TE):Prop:=
 ∀(a:cc (OL×Obj)) (s:OK) (b:St) (H:Hp) (Q:VK),Inv X a b H s->t b H Q->wpAny (model X.prog X.w) X.A (eval e X.env) (EP X a b Q) X.xe s
def PT(X:Cx)(e:Po)(t:TT):Prop:=
 ∀(a:cc (OL×Obj)) (s:OK) (b:St) (H:Hp) (Q:Bool->Hp->Prop),Inv X a b H s->t b H Q->wpAny (model X.prog X.w) X.A (isTrue e X.env (eval e X.env)) (TP X a b Q) X.xe s
def PW(X:Cx)(e:Po)(t:TT):Prop:=
 ∀(b:Sem OC) (a:cc (OL×Obj)) (s:OK) (d:St) (H:Hp) (Q:Bool->Hp->Prop),Inv X a d H s->t d H Q->wpAny (model X.prog X.w) X.A (isTrue e X.env b) (TP X a d Q) X.xe s
theorem PW.pt(h:PW X e t):PT X e t:=h _
def PA(X:Cx)(es:cc Po)(t:TA):Prop:=
 ∀(d:Pos) (a:cc (OL×Obj)) (s:OK) (b:St) (H:Hp) (Q:cc V->Hp->Prop),Inv X a b H s->t b H Q->wpAny (model X.prog X.w) X.A (spliced (backTo d (PZ es X.env))) (AP X a b Q) X.xe s
def PS(X:Cx)(st:Rk)(t:TS):Prop:=
 ∀(a:cc (OL×Obj)) (s:OK) (b:St) (H:Hp) (D:Ends),Inv X a b H s->t D b H->wpAny (model X.prog X.w) X.A (exec st X.env) (SP X a D) X.xe s
def UY(X:Cx)(st:cc Rk)(t:TS):Prop:=
 ∀(a:cc (OL×Obj)) (s:OK) (b:St) (H:Hp) (D:Ends),Inv X a b H s->t D b H->wpAny (model X.prog X.w) X.A (execs st X.env) (SP X a D) X.xe s
theorem bK{α:Type}{t:Sem α}{Q b:α->OK->Prop}{M:YM}{A:Pp}{E:OC->OK->Prop}{s:OK}(h:wpAny M A t Q E s)(d:∀a s,Q a s->b a s):wpAny M A t b E s:=wpAny_mono h d λ_ _ x=>x
section
variable{X:Cx}
def fY(i:Nat):TE:=λa H Q=>∃v,a[i]?=cL (cL v)/\Q v H
def tC(v:V):TE:=λ_ H Q=>Q v H
theorem HQ(o:X.N[i]?=cL x)(k:Nb X.env.scope x)(hd:(x==("__debug__":Str))=OP:=by decide)(p:(x==("__classdict__":Str))=OP:=by decide):PE X (.Name x pos) (fY i):=by
 intro d s j H Q I h;obtain⟨v,e,h⟩:=h;obtain⟨m,hn,n⟩:=I.loc;obtain⟨u,r,l⟩:=n i x v o e k;have b:EP X d j Q u s:=⟨v,H,I,r,h⟩;rcases l with⟨a,hm⟩|⟨a,c,f,g⟩
 .exact Ye (wpAny_loadName_local I.ok.kind a hn hm b) hd
 .rcases a with a|a
  .exact Ye (wpAny_loadName_cell I.ok.kind a f g b) hd
  .exact Ye (wpAny_loadName_free I.ok.kind a f g b p) hd
theorem tj{i j pos}:PE X (.Constant (.int i) j pos) (tC (.int i)):=λ_ _ _ H _ I h=>wpAny_Constant_int ⟨.int i,H,I.tok _,⟨_,rfl⟩,h⟩
theorem LL{b j pos}:PE X (.Constant (.bool b) j pos) (tC (.bl b)):=λ_ _ _ H _ I h=>Constant_bool ⟨.bl b,H,I,rfl,h⟩
theorem Hs{j pos}:PE X (.Constant .none j pos) (tC .Se):=λ_ _ _ H _ I h=>Constant_none ⟨.Se,H,I,rfl,h⟩
theorem Ie{x j pos}:PE X (.Constant (.str x) j pos) (tC (.str x)):=λ_ _ _ H _ I h=>Calls.Constant_str ⟨.str x,H,I.tok _,⟨_,rfl⟩,h⟩
def Gl(X:Cx)(x:Str):Prop:=X.env.kindOf x=cL .globalImplicit
theorem vB(I:Inv X pins σ H s)(a:Gl X x)(hm:X.mg x=cL u)(h:Q u s)
  (hd:(x==("__debug__":Str))=OP:=by decide):wpAny (model X.prog X.w) X.A (eval (.Name x pos) X.env) Q E s:=
 Calls.Name_function_global I.ok.kind a (Calls.loadGlobal_global (by rw[I.ok.glob];exact I.mod.glob.keeps I.bk) hm h) hd
theorem kL(I:Inv X pins σ H s)(b:Gl X x)(hm:X.mg x=CL)(a:Qd x=cL u)(h:Q u s)
  (hn:x≠ "__name__":=by decide) (hd:(x==("__debug__":Str))=OP:=by decide):wpAny (model X.prog X.w) X.A (eval (.Name x pos) X.env) Q E s:=by
 obtain⟨e,h1,d⟩:=I.mod.blt;exact Calls.Name_function_global I.ok.kind b (Calls.loadGlobal_builtin (by rw[I.ok.glob];exact I.mod.glob.keeps I.bk) hm (by rw[I.ok.blt];exact h1.keeps I.bk) ((d x hn).trans a) h) hd
theorem EG{x:Str}{v:V}{u:OC}{pos:Pos}(a:Gl X x)(hm:X.mg x=cL u)(r:RelV v u)(hd:(x==("__debug__":Str))=OP:=by decide):PE X (.Name x pos) (tC v):=
 λ_ _ _ H _ I h=>vB I a hm ⟨v,H,I,r,h⟩ hd
theorem Eh(b:Gl X x)(hm:X.mg x=CL)(a:Qd x=cL u)(r:RelV v u)(hn:x≠ "__name__":=by decide)(hd:(x==("__debug__":Str))=OP:=by decide):PE X (.Name x pos) (tC v):=
 λ_ _ _ H _ I h=>kL I b hm a ⟨v,H,I,r,h⟩ hn hd
variable{a b:Po}{Z Y:TE}{pos:Pos}
def PC(X:Cx)(op:Wc)(a b:Po)(t:TE):Prop:=
 ∀(d:cc (OL×Obj)) (s:OK) (g:St) (H:Hp) (Q:VK),Inv X d g H s->t g H Q->
  wpAny (model X.prog X.w) X.A (eval a X.env) (λv f=>wpAny (model X.prog X.w) X.A (eval b X.env) (λu e=>wpAny (model X.prog X.w) X.A (QS op v u) (EP X d g Q) X.xe e) X.xe f) X.xe s
def tB(t:TE):TT:=λd H Q=>t d H λx e=>∃c,x=.bl c/\Q c e
theorem tN(h:PC X op a b t)(h1:behindInMarks op b=OP:=by first|exact WN _ (by decide) (by decide)|rfl):PE X (.Compare a [op] [b] pos) t:=λd s e H Q I f=>aa5 (h d s e H Q I f) h1
theorem tQ(h:PC X op a b t)(h1:behindInMarks op b=OP:=by first|exact WN _ (by decide) (by decide)|rfl):PT X (.Compare a [op] [b] pos) (tB t):=by intro e s f H Q I j;refine W7 (bK (h e s f H _ I j) λv p h1=>bK h1 λu o k=>bK k λc n ⟨x,m,l,g,i⟩=>?_) h1;obtain⟨d,rfl,q⟩:=i;cases g;exact QO ⟨m,l,q⟩
theorem G3{e:Po}{t:TE}(h:PE X e t)(l:∀whole,isTrue e X.env whole=(do let v<-whole;standAt e.pos;holding [v] (truthy v)):=by intro _;rfl):PT X e (tB t):=by intro f s g H Q I k;refine isTrue_plain (bK (h f s g H _ I k) λv o ⟨x,n,m,i,j⟩=>?_) (l _);obtain⟨d,rfl,q⟩:=j;cases i;exact QO ⟨n,m,q⟩
variable{T S:TT}{U:cc Po}
def K8(t u:TT):TT:=λd H Q=>t d H λc e=>if c=OG then u d e Q else Q OP e
def MX(t u:TT):TT:=λd H Q=>t d H λc e=>if c=OG then Q OG e else u d e Q
def CV(t:TT):TT:=λd H Q=>t d H λc e=>Q (!c) e
theorem EB(ha:PT X a T):PW X (.BoolOp .And [a] pos) T:=by
 intro g d s f H Q I h;refine isTrue_and (bK (ha d s f H Q I h) λc i e=>?_);cases c with
 |true=>exact isTrue_and_nil e
 |false=>exact e
theorem zV(ha:PT X a T):PW X (.BoolOp .Or [a] pos) T:=by
 intro g d s f H Q I h;refine isTrue_or (bK (ha d s f H Q I h) λc i e=>?_);cases c with
 |false=>exact isTrue_or_nil e
 |true=>exact e
theorem Jj(ha:PT X a T)(hb:PW X (.BoolOp .And (b::U) pos) S):PW X (.BoolOp .And (a::b::U) pos) (K8 T S):=by
 intro j d s e H Q I h;refine isTrue_and (bK (ha d s e H _ I h) λc k ⟨i,g,f⟩=>?_);cases c with
 |true=>exact hb j d k e i Q g f
 |false=>exact⟨i,g,f⟩
theorem FU(ha:PT X a T)(hb:PW X (.BoolOp .Or (b::U) pos) S):PW X (.BoolOp .Or (a::b::U) pos) (MX T S):=by
 intro j d s e H Q I h;refine isTrue_or (bK (ha d s e H _ I h) λc k ⟨i,g,f⟩=>?_);cases c with
 |true=>exact⟨i,g,f⟩
 |false=>exact hb j d k e i Q g f
theorem Ip(ha:PT X a T):PT X (.UnaryOp .Not a pos) (CV T):=by intro d s e H Q I h;exact isTrue_not (ha d s e H (λc f=>Q (!c) f) I h)
def Ga(Z Y:TE):TE:=λd H Q=>Z d H λx e=>∃c,x=.bl c/\if c=OG then Y d e Q else Q (.bl OP) e
def Gc(Z:TE):TE:=λd H Q=>Z d H λx e=>∃c,x=.bl c/\Q (.bl (!c)) e
theorem Gn{op}(h:PE X a t):PE X (.BoolOp op [a] pos) t:=λd s e H Q I f=>BoolOp_one (h d s e H Q I f)
theorem JM(ha:PE X a Z)(hb:PE X (.BoolOp .And (b::U) pos) Y):PE X (.BoolOp .And (a::b::U) pos) (Ga Z Y):=by
 intro d s f H Q I h;refine BoolOp_and (bK (ha d s f H _ I h) λv j ⟨x,i,g,k,e⟩=>?_);obtain⟨c,rfl,e⟩:=e;cases k;refine QO ?_;cases c with
 |true=>exact hb d j f i Q g e
 |false=>exact⟨.bl OP,i,g,rfl,e⟩
theorem Gz(ha:PE X a Z):PE X (.UnaryOp .Not a pos) (Gc Z):=by intro d s f H Q I h;refine UnaryOp_ (bK (ha d s f H _ I h) λv k ⟨x,j,i,g,e⟩=>?_);obtain⟨c,rfl,e⟩:=e;cases g;exact not_of (QO ⟨.bl (!c),j,i,rfl,e⟩)
end
def Tw(K:Bn)(H:Hp)(a:OL)(xs:cc V):Prop:=
 Rd H a (.lst xs)\/
  ∃(o:Obj) (b:Array OC) (n:Nat),K.lookup a=cL o/\o.cls=.type "list"/\o.dict=CL/\o.data=.seq b n/\b.size<=Pd/\Vals xs b.toList
def Tj(K:Bn)(H:Hp)(a:OL)(xs:cc V):Prop:=
 Rd H a (.tup xs)\/
  ∃(o:Obj) (b:Array OC) (n:Nat),K.lookup a=cL o/\(o.cls=.type "tuple"/\o.dict=CL)/\o.data=.seq b n/\b.size<=Pd/\Vals xs b.toList
def Mw:OC->cj V
 |.none=>cL .Se
 |.bool b=>cL (.bl b)
 |.int i _=>cL (.int i)
 |.str x _=>cL (.str x)
 |.bytes b _=>cL (.ZG b)
 |.float b _=>cL (.Zr b)
 |.ref a=>cL (.ref a)
 |.type n=>cL (.ty n)
 |_=>CL
theorem RelV.abs(r:RelV x u):Mw u=cL x:=by
 cases x with
 |Se=>cases r;rfl
 |bl _=>cases r;rfl
 |int _=>obtain⟨t,rfl⟩:=r;rfl
 |str _=>obtain⟨t,rfl⟩:=r;rfl
 |ZG _=>obtain⟨t,rfl⟩:=r;rfl
 |Zr _=>obtain⟨t,rfl⟩:=r;rfl
 |ref _=>cases r;rfl
 |ty _=>cases r;rfl
theorem RelV.inj(r:RelV x u)(q:RelV y u):x=y:=Pr (r.abs.symm.trans q.abs)
theorem Vals.inj:∀{xs ys:cc V} {a:cc OC},Vals xs a->Vals ys a->xs=ys
 |_,_,_,.nil,.nil=>rfl
 |_,_,_,.cons r t,.cons r' t'=>by rw[r.inj r',Vals.inj t t']
section
variable{X:Cx}{Z:cc (OL×Obj)}{Y:St}{H:Hp}{s:OK}{a:OL}{xs ys:cc V}
theorem Tw.of{K:Bn}(h:H a=cL (.lst xs)):Tw K H a xs:=.inl (.inl h)
theorem Tj.of{K:Bn}(h:H a=cL (.tup xs)):Tj K H a xs:=.inl (.inl h)
theorem Inv.list(I:Inv X Z Y H s)(h:Tw X.K H a xs):∃Qe:cc OC,Vals xs Qe/\PlainL s.heap a Qe.toArray/\xs.length<=Pd:=by
 rcases h with h|⟨o,Qe,n,hk,hc,hd,hs,hz,r⟩
 .obtain⟨z,Qe,n,r,e⟩:=h.ok I.QX;exact⟨Qe,r,⟨_,n,e,rfl,rfl,rfl⟩,z⟩
 .refine⟨Qe.toList,r,⟨o,n,I.V2 a o hk,hc,hd,by simpa using hs⟩,?_⟩;have e:=r.length;simp only[Pt]at e;ext
theorem Inv.tuple(I:Inv X Z Y H s)(h:Tj X.K H a xs):∃Qe:cc OC,Vals xs Qe/\IsTup s.heap a Qe.toArray/\xs.length<=Pd:=by
 rcases h with h|⟨o,Qe,n,hk,hc,hs,hz,r⟩
 .obtain⟨z,Qe,r,p⟩:=h.ok I.QX;exact⟨Qe,r,p.tup,z⟩
 .refine⟨Qe.toList,r,⟨o,I.V2 a o hk,hc.1,n,by simpa using hs⟩,?_⟩;have e:=r.length;simp only[Pt]at e;ext
theorem Inv.W2(I:Inv X Z Y H s)(h:Tw X.K H a xs)(h':Tw X.K H a ys):xs=ys:=by
 obtain⟨j,r,⟨o,n,e,_,_,d⟩,_⟩:=I.list h;obtain⟨i,g,⟨k,l,b,_,_,f⟩,_⟩:=I.list h';rw[e]at b;cases b;rw[d]at f;injection f with d1 _;have:j=i:=by simpa using ey Yf d1
 subst this;exact r.inj g
theorem Inv.V4(I:Inv X Z Y H s)(h:Tj X.K H a xs)(h':Tj X.K H a ys):xs=ys:=by
 obtain⟨j,r,⟨o,e,_,n,d⟩,_⟩:=I.tuple h;obtain⟨i,g,⟨k,b,_,l,f⟩,_⟩:=I.tuple h';rw[e]at b;cases b;rw[d]at f;injection f with d1 _;have:j=i:=by simpa using ey Yf d1
 subst this;exact r.inj g
end
abbrev Cx.TX(X:Cx)(E:OC->OK->Prop):Cx:={X with xe:=E}
abbrev Cx.Xp(X:Cx):Cx:=X.TX λ_ _=>False
theorem Cx.Ok.TX{X:Cx}(ok:X.Ok)(E:OC->OK->Prop):(X.TX E).Ok:=
 ⟨ok.mod,ok.kind,ok.glob,ok.blt,ok.above,ok.inj,ok.has,ok.Y4,ok.hd,ok.frames,ok.ZD,ok.Zt,ok.bs,ok.XG,ok.V9,ok.V3,ok.Uh,ok.Yn⟩
theorem Cx.Ok.S3{X:Cx}(ok:(X.TX E).Ok):X.Ok:=
 ⟨ok.mod,ok.kind,ok.glob,ok.blt,ok.above,ok.inj,ok.has,ok.Y4,ok.hd,ok.frames,ok.ZD,ok.Zt,ok.bs,ok.XG,ok.V9,ok.V3,ok.Uh,ok.Yn⟩
section
variable{X:Cx}{Z:cc (OL×Obj)}{Y:St}{H:Hp}{s:OK}{E:OC->OK->Prop}
theorem Inv.TX(I:Inv X Z Y H s)(E:OC->OK->Prop):Inv (X.TX E) Z Y H s:=⟨I.ok.TX E,I.os,I.bare,I.base,I.loc,I.cell,I.free,I.TC,I.pin,I.QX,I.len⟩
theorem Inv.S3(I:Inv (X.TX E) Z Y H s):Inv X Z Y H s:=⟨I.ok.S3,I.os,I.bare,I.base,I.loc,I.cell,I.free,I.TC,I.pin,I.QX,I.len⟩
theorem SP.S3(h:SP (X.TX E) Z D f s'):SP X Z D f s':=by
 cases f with
 |next=>obtain⟨a,b,I,q⟩:=h;exact⟨a,b,I.S3,q⟩
 |brk=>obtain⟨a,b,I,q⟩:=h;exact⟨a,b,I.S3,q⟩
 |cont=>obtain⟨a,b,I,q⟩:=h;exact⟨a,b,I.S3,q⟩
 |ret u=>obtain⟨v,a,b,I,r,q⟩:=h;exact⟨v,a,b,I.S3,r,q⟩
theorem UY.Xp{st:cc Rk}(h:UY X.Xp st t):UY X st t:=λZ s Y H D I a=>
 wpAny_mono (h Z s Y H D (I.TX _) a) (λ_ _ q=>q.S3) λ_ _ z=>False.elim z
end
section
variable{X:Cx}{st:Rk}{Z:cc Rk}{t u:TS}{e:Po}{te:TE}{pos:Pos}
def yS:TS:=λD a H=>D.nx a H
def Eu(t u:TS):TS:=λD a H=>t {D with nx:=u D} a H
theorem uO:UY X [] yS:=λ_ _ a H _ I h=>TK ⟨a,H,I,h⟩
theorem zz(h1:PS X st t)(i:UY X Z u):UY X (st::Z) (Eu t u):=by
 intro a s d H D I h;refine Zg (bK (h1 a s d H {D with nx:=u D} I h) λf g q=>?_);cases f with
 |next=>obtain⟨b,k,j,q⟩:=q;exact i a g b k D j q
 |ret v=>exact q
 |brk=>exact q
 |cont=>exact q
theorem D4(h1:PS X st t):UY X [st] t:=by
 intro a s b H D I h;refine Zg (bK (h1 a s b H D I h) λf d q=>?_);cases f with
 |next=>exact TK q
 |ret v=>exact q
 |brk=>exact q
 |cont=>exact q
theorem Inv.quiet{a:cc (OL×Obj)}{b:St}{H:Hp}{s:OK}(I:Inv X a b H s):interactive X.env=OP:=by simp[interactive,I.ok.kind]
def vM(te:TE):TS:=λD a H=>te a H λ_ b=>D.nx a b
theorem DT(g:PE X e te)(f:UP e CL pos.line X.env=pure OP:=by rfl):PS X (.Expr e pos) (vM te):=by intro a s b H D I h;exact wpAny_Expr_any (bK (g a s b H _ I h) λv k ⟨x,j,i,l,d⟩=>⟨b,j,i,d⟩) I.quiet f
def Cv(te:TE):TS:=λD a H=>te a H D.rt
theorem Jt(g:PE X e te):PS X (.Return (cL e) pos) (Cv te):=by intro a s b H D I h;exact wpAny_Return_some (bK (g a s b H _ I h) λv k ⟨x,j,i,d,f⟩=>⟨x,b,j,i,d,f⟩)
def Cf(c:TT)(t u:TS):TS:=λD a H=>c a H λb d=>if b=OG then t D a d else u D a d
theorem Ko(m:PT X c tc)(ha:UY X a t)(hb:UY X b u):PS X (.If c a b pos) (Cf tc t u):=by
 intro f s g H D I h;refine wpAny_If (bK (m f s g H _ I h) λd i ⟨l,k,j⟩=>?_);cases d with
 |true=>exact ha f i g l D k j
 |false=>exact hb f i g l D k j
end
abbrev TG:=V->St->Hp->(St->Hp->Prop)->Prop
abbrev tF:=cc V->St->Hp->(St->Hp->Prop)->Prop
def PG(X:Cx)(a:Po)(t:TG):Prop:=
 ∀(b:cc (OL×Obj)) (s:OK) (d:St) (H:Hp) (v:V) (u:OC) (Q:St->Hp->Prop),Inv X b d H s->RelV v u->t v d H Q->
  wpAny (model X.prog X.w) X.A (assign a X.env u) (λ_ e=>∃σ' H',Inv X b σ' H' e/\Q σ' H') X.xe s
def KQ(X:Cx)(e:cc Po)(t:tF):Prop:=
 ∀(a:cc (OL×Obj)) (s:OK) (b:St) (H:Hp) (vs:cc V) (d:cc OC) (Q:St->Hp->Prop),Inv X a b H s->Vals vs d->t vs b H Q->
  wpAny (model X.prog X.w) X.A (assignInOrder ((assignEach e X.env).map (·.2)) d) (λ_ f=>∃σ' H',Inv X a σ' H' f/\Q σ' H') X.xe s
abbrev Og:=V->V->Hp->VK->Prop
def Ov(X:Cx)(op:Xv)(t:Og):Prop:=
 ∀(a:cc (OL×Obj)) (s:OK) (b:St) (H:Hp) (x y:V) (v u:OC) (Q:VK),Inv X a b H s->RelV x v->RelV y u->t x y H Q->
  wpAny (model X.prog X.w) X.A (inplaceOp op v u) (EP X a b Q) X.xe s
section
variable{X:Cx}{pos:Pos}
def jp(i:Nat):TG:=λv a H Q=>Q (a.set i (cL v)) H
theorem uu(hN:X.N.Nodup)(hi:X.N[i]?=cL x)(hx:J0 X.env.scope x)(hf:X.fn x=OG\/X.env.scope.names.lookup x=cL .local:=by first|exact .inl rfl|exact .inr rfl|assumption):PG X (.Name x pos) (jp i):=by intro pins s σ H v u Q I r h;exact wpAny_assign_Name (rK I hN hi hx r (λs' I'=>⟨_,H,I',h⟩) hf)
def EU:tF:=λvs a H Q=>vs=[]/\Q a H
def wt(t:TG)(u:tF):tF:=λvs b H Q=>∃v r,vs=v::r/\t v b H λa d=>u r a d Q
theorem Eb:KQ X [] EU:=by intro a s b H vs d Q I r h;obtain⟨e,h⟩:=h;subst e;cases r;exact assignInOrder_nil ⟨b,H,I,h⟩
theorem Bb(h1:PG X e t)(k:KQ X es u)
  (j:(assignEach (e::es) X.env).map (·.2)=assign e X.env::(assignEach es X.env).map (·.2):=by rfl):KQ X (e::es) (wt t u):=by
 intro a s d H vs o Q I r h;obtain⟨v,n,e1,h⟩:=h;subst e1;cases r with
 |cons r g=>rw[j];refine assignInOrder_cons (bK (h1 a s d H _ _ _ I r h) λ_ f ⟨b,m,l,i⟩=>?_);exact k a f b m _ _ Q l g i
def D2(K:Bn)(n:Nat)(t:tF):TG:=λv b H Q=>∃a xs,v=.ref a/\Tj K H a xs/\xs.length=n/\t xs b H Q
theorem Hu(p:X.calm=OG)(h:KQ X es t)
  (hn:(assignEach es X.env).length=n:=by rfl) (q:(assignEach es X.env).findIdx? (·.1)=CL:=by rfl):PG X (.Tuple es k pos) (D2 X.K n t):=by
 intro d s g H v u Q I r f;obtain⟨a,xs,e1,l,m,f⟩:=f;subst e1;cases r;obtain⟨B,rv,j,z⟩:=I.tuple l;refine assign_Tuple_tuple (I.ok.hd p) j (by simp[hn,<-m,rv.length]) q λA i=>?_;have w:=I.kept (t':=s.toks) λb o e=>i b o (PN (c3 e)) e;exact h d _ g H xs _ Q w (by simpa using rv) f
def Cu(te:TE)(g:TG):TS:=λD a H=>te a H λx b=>g x a b D.nx
theorem Hn{i:Nat}{x:Str}{e:Po}{te:TE}{pos':Pos}(hN:X.N.Nodup)(hi:X.N[i]?=cL x)(hx:J0 X.env.scope x)(he:PE X e te)(hs:UP e (cL (.Name x pos')) pos.line X.env=pure OP:=by rfl)(hf:X.fn x=OG\/X.env.scope.names.lookup x=cL .local:=by first|exact .inl rfl|exact .inr rfl|assumption):
  PS X (.Assign [.Name x pos'] e pos) (Cu te (jp i)):=by
 intro pins s σ H D I h;refine wpAny_Assign_Name (bK (he pins s σ H _ I h) λv s1 ⟨y,H1,I1,r1,q1⟩=>?_) hs;exact rK I1 hN hi hx r1 (λs2 I2=>⟨_,H1,I2,q1⟩) hf
end
section
variable{X:Cx}{pos:Pos}
def zw(c:TT)(tb:TS):TS:=λD a H=>∃W:Nat->St->Hp->Prop,(∃m,W m a H)/\∀m a H,W m a H->
 c a H λb d=>if b=OG then∃N:St->Hp->Prop,(∀σ' H',N σ' H'->∃m',m'<m/\W m' σ' H')/\tb {D with nx:=N,ct:=N,bk:=D.nx} a d else D.nx a d
theorem A2(q:We (model X.prog X.w) X.A X.env X.xe)(L:PT X c tc)(hb:UY X body tb):PS X (.While c body [] pos) (zw tc tb):=by
 intro d s B H D I h;obtain⟨W,⟨K,E⟩,g⟩:=h;refine wpAny_While (codeAny_whileLoop (λn J=>∃σ' H',Inv X d σ' H' J/\W n σ' H') ?_ K ⟨B,H,I,E⟩);rintro n G ⟨e,z,M,C⟩;refine Ro q (bK (L d G e z _ M (g n e z C)) λb F ⟨u,t,k⟩=>?_);cases b with
 |true=>
  obtain⟨N,r,k⟩:=k;rw[ai rfl];refine Ro q (bK (hb d F e u _ t k) λf O j=>?_);cases f with
  |next=>obtain⟨a,i,p,m⟩:=j;obtain⟨o,hm,l⟩:=r a i m;exact⟨o,hm,a,i,p,l⟩
  |cont=>obtain⟨a,i,p,m⟩:=j;obtain⟨o,hm,l⟩:=r a i m;exact⟨o,hm,a,i,p,l⟩
  |brk=>exact j
  |ret v=>exact j
 |false=>rw[ak OX];exact TK ⟨e,u,t,k⟩
end
structure It where
 go:Nat->Hp->Prop
 Y8:Nat->Hp->V->Hp->Prop
 stop:Nat->Hp->Prop
def mq(X:Cx)(a:cc (OL×Obj))(H:Hp)(b:OL):Prop:=
 H b=CL/\b≠X.env.locals/\b∉X.fs/\(b∈X.ex\/X.s₀.heap.objs.size<=b)/\(∀x c,X.env.cells.lookup x=cL c->c≠b)/\∀p∈X.pn++a,p.1≠b
theorem Inv.VY(I:Inv X pins σ H s)(hb:s.heap.objs.size<=b)(hn:H' b=CL):mq X pins H' b:=by
 refine⟨hn,RB (Pk I.lt hb),I.abU hb,.inr (OZ I.sz hb),λx c e z=>?_,λp a z=>?_⟩
 .obtain⟨v,q⟩:=I.cell x c e;exact cb (Pk q.lt (by rw[z];exact hb)) (Qa _)
 .exact cb (Pk (c3 (I.pin p a).1) (by rw[z];exact hb)) (Qa _)
structure Turn(P:Pa)(w:Pz)(K:Bn)(tg:Po)(J:It)(fp:cc OL)(it:OL)(tn:Nat->Heap->Prop):Prop where
 mem:it∈fp
 obj:∀i h,tn i h->∀b∈fp,∃o,h.get? b=cL o/\∀v,o.data≠.cell v
 keep:∀i h h',tn i h->(∀b∈fp,∀o,h.get? b=cL o->h'.get? b=cL o)->tn i h'
 item:∀(X:Cx),X.prog=P->X.w=w->X.K=K->X.calm=OG->∀(i:Nat) (pins:cc (OL×Obj)) (s:OK) (σ:St) (H:Hp) (E:OC->OK->Prop),Inv X pins σ H s->(∀b∈fp,mq X pins H b)->tn i s.heap->J.go i H->
  wpAny (model P w) X.A (pyNext (.ref it)) (λr s1=>∃u,r=cL u/\
   wpAny (model P w) X.A (letOwnedTupleGo tg (.ref it) u) (λ_ s2=>∃x H',Inv X pins σ H' s2/\RelV x u/\J.Y8 i H x H'/\tn (i+1) s2.heap/\∀b∈fp,H' b=CL) E s1) E s
 done:∀(X:Cx),X.prog=P->X.w=w->X.K=K->X.calm=OG->∀(i:Nat) (pins:cc (OL×Obj)) (s:OK) (σ:St) (H:Hp) (E:OC->OK->Prop),Inv X pins σ H s->(∀b∈fp,mq X pins H b)->tn i s.heap->J.stop i H->
  wpAny (model P w) X.A (pyNext (.ref it)) (λr s1=>r=CL/\Inv X pins σ H s1) E s
 self:∀(A:Pp) (i:Nat) (s:OK) (Q:OC->OK->Prop) (E:OC->OK->Prop),tn i s.heap->Q (.ref it) s->wpAny (model P w) A (pyIter (.ref it)) Q E s
abbrev TI:=St->Hp->(It->Hp->Prop)->Prop
def Nt(X:Cx)(a:cc (OL×Obj))(j:St)(tg:Po)(R:It->Hp->Prop)(d:OC)(g:OK):Prop:=
 ∃(h:OL) (i:cc OL) (f:Nat->Heap->Prop) (J:It) (e:Hp),d=.ref h/\Inv X a j e g/\Turn X.prog X.w X.K tg J i h f/\f 0 g.heap/\(∀b∈i,mq X a e b)/\R J e
def PI(X:Cx)(tg iter:Po)(d:TI):Prop:=
 ∀(a:cc (OL×Obj)) (s:OK) (b:St) (H:Hp) (R:It->Hp->Prop),Inv X a b H s->d b H R->
  wpAny (model X.prog X.w) X.A (eval iter X.env) (λv e=>wpAny (model X.prog X.w) X.A (pyIter v) (Nt X a b tg R) X.xe e) X.xe s
theorem qH{M:YM}{A:Pp}{E:OC->OK->Prop}{s:OK}{tg:Po}{b:OL}{u:OC}{o:Obj}{n:String}{vs:Array OC}{Q:Unit->OK->Prop}(d:s.heap.get? b=cL o)(e:o.cls=.type n)(hd:o.data=.fields vs)
  (hn:["enumerate","zip","dict_itemiterator","dict_reverseitemiterator","odict_iterator","itertools.zip_longest","itertools.pairwise"].contains n=OP) (a:Q () s):wpAny M A (letOwnedTupleGo tg (.ref b) u) Q E s:=by
 unfold letOwnedTupleGo;cases tg<;>first
  |exact OE a
  |(cases u<;>first
    |exact OE a
    |(refine lD (wpAny_load d ?_)
      rw[e,hd];show wpAny M A (if(["enumerate","zip","dict_itemiterator","dict_reverseitemiterator","odict_iterator","itertools.zip_longest","itertools.pairwise"].contains n&&vs[0]? ==cL (rawInt _))=OG then _ else _) Q E s;rw[ak (by intro h;rw[hn,Sv]at h;cases h)];exact OE a))
def MK(K:Bn)(a:OL):It:=
 ⟨λi H=>∃xs x,Tw K H a xs/\xs[i]?=cL x,λi H x b=>b=H/\∀xs,Tw K H a xs->xs[i]?=cL x,λi H=>∃xs,Tw K H a xs/\xs.length<=i⟩
def Nd(K:Bn)(a:OL):It:=
 ⟨λi H=>∃xs x,Tj K H a xs/\xs[i]?=cL x,λi H x b=>b=H/\∀xs,Tj K H a xs->xs[i]?=cL x,λi H=>∃xs,Tj K H a xs/\xs.length<=i⟩
def Kv(lo:Int)(n:Nat):It:=⟨λi _=>i<n,λi H x a=>a=H/\x=.int (lo+i),λi _=>n<=i⟩
theorem xa{K:Bn}(a f:OL):Turn P w K tg (MK K a) [f] f (λi h=>h.IsListIter f a i) where
 mem:=by simp
 obj:=λi h st b g=>by
  have e:b=f:=by simpa using g
  subst e;obtain⟨o,e,c,d⟩:=st;exact⟨o,e,λv z=>by rw[d]at z;cases z⟩
 keep:=λi h M st k=>st.at λo e=>k f (by simp) o e
 item:=by intro X t q A L i j s O H E I m st r;subst t q A;obtain⟨xs,x,l,n⟩:=r;obtain⟨Qe,rv,p,T⟩:=I.list l;obtain⟨u,Y,S⟩:=rv.get n;obtain⟨J,G,Z,F,C,B⟩:=m f (by simp);refine Wq st p.isList (by simpa using Y) λM N Q=>?_;have I1:=I.turned (t':=s.toks) (λb o g e=>(Q.2 b g).trans e) J G F C B;obtain⟨o,e,c,d⟩:=id N;exact⟨u,rfl,qH e c d (by decide) ⟨x,H,I1,S,⟨rfl,λys U=>by rw[I.W2 U l];exact n⟩,N,λb g=>(m b g).1⟩⟩
 done:=by intro X t q A L i j s O H E I m st r;subst t q A;obtain⟨xs,l,n⟩:=r;obtain⟨Qe,rv,p,T⟩:=I.list l;obtain⟨J,G,Z,F,C,B⟩:=m f (by simp);have hl:=rv.length;exact W8 (I.ok.hd L) st p.isList (by simp;ext) λM eb=>⟨rfl,I.turned (λb o g e=>eb b o g e) J G F C B⟩
 self:=λ_ _ _ _ _ st h=>W9 st h
theorem tW{K:Bn}(a f:OL):Turn P w K tg (Nd K a) [f] f (λi h=>h.IsTupleIter f a i) where
 mem:=by simp
 obj:=λi h st b g=>by
  have e:b=f:=by simpa using g
  subst e;obtain⟨o,e,c,d⟩:=st;exact⟨o,e,λv z=>by rw[d]at z;cases z⟩
 keep:=λi h N st k=>st.at λo e=>k f (by simp) o e
 item:=by intro X t q A M i j s Q H E I m st r;subst t q A;obtain⟨xs,x,l,n⟩:=r;obtain⟨L,rv,p,U⟩:=I.tuple l;obtain⟨u,Z,T⟩:=rv.get n;obtain⟨J,G,f2,F,C,B⟩:=m f (by simp);refine wpAny_pyNext_tuple_item st (show s.heap.IsTuple a L.toArray from p) (by simpa using Z) λN O S=>?_;have I1:=I.turned (t':=s.toks) (λb o g e=>(S.2 b g).trans e) J G F C B;obtain⟨o,e,c,d⟩:=id O;exact⟨u,rfl,qH e c d (by decide) ⟨x,H,I1,T,⟨rfl,λys Y=>by rw[I.V4 Y l];exact n⟩,O,λb g=>(m b g).1⟩⟩
 done:=by intro X t q A M i j s Q H E I m st r;subst t q A;obtain⟨xs,l,n⟩:=r;obtain⟨L,rv,p,U⟩:=I.tuple l;obtain⟨J,G,f2,F,C,B⟩:=m f (by simp);have hl:=rv.length;exact wpAny_pyNext_tuple_end (I.ok.hd M) st (show s.heap.IsTuple a L.toArray from p) (by simp;ext) λN eb=>⟨rfl,I.turned (λb o g e=>eb b o g e) J G F C B⟩
 self:=λ_ _ _ _ _ st h=>wpAny_pyIter_tupleiter st h
theorem tH{K:Bn}(d:OL)(lo:Int)(n:Nat):Turn P w K tg (Kv lo n) [d] d (λi h=>IsRangeIter h d (lo+(i:Nat)*1) ((n:Int) - (i:Nat)) 1) where
 mem:=by simp
 obj:=λi h st b f=>by
  have e:b=d:=by simpa using f
  subst e;exact⟨_,st,λv z=>by have L:=z;cases L⟩
 keep:=λi h r st k=>k d (by simp) _ st
 item:=by intro X p j q m i a s G H E I g st l;subst p j q;obtain⟨F,C,Q,B,A,u⟩:=g d (by simp);have W:=Walks.range (prog:=X.prog) (w:=X.w) (I.ok.hd m) d lo 1 n;refine W.item i s _ _ l st λv r M O J N=>?_;obtain⟨t,rfl⟩:=O;have T:Inv X a G H {s with heap:=r,toks:=M}:=I.turned (λb o f e=>N b o (by simpa using f) e) F C B A u;refine⟨_,rfl,qH J rfl rfl (by decide) ⟨.int (lo+i),H,T,⟨t,?_⟩,⟨rfl,rfl⟩,J,λb f=>(g b f).1⟩⟩;rw[Int.mul_one]
 done:=by intro X p j q m i a s G H E I g st l;subst p j q;obtain⟨F,C,Q,B,A,u⟩:=g d (by simp);exact wpAny_pyNext_range_end (I.ok.hd m) st (by have:n<=i:=l;ext) λr S=>⟨rfl,I.turned (λb o f e=>S b o f e) F C B A u⟩
 self:=λ_ _ _ _ _ st h=>wpAny_pyIter_rangeiter st h
section
variable{X:Cx}{tg:Po}
theorem qQ{a:cc (OL×Obj)}{d:St}{H:Hp}{s:OK}{R:It->Hp->Prop}{E:OC->OK->Prop}{lo hi:Int}{t u v:Tok}{f:Nat}(I:Inv X a d H s)(h1: -(2^62)<=lo)(k:lo<2^62)(j: -(2^62)<=hi)(i:hi<2^62)
  (q:R (Kv lo (hi - lo).toNat) H):wpAny (model X.prog X.w) X.A (pyIter (.ref s.heap.objs.size)) (Nt X a d tg R) E {s with heap:=s.heap.push {cls:=.type "range",data:=.fields #[.int lo t,.int hi u,.int 1 v]},toks:=f}:=by
 refine wpAny_pyIter_range (IsRange.new ..) (small_one h1 k j i) ?_;have g:Inv X a d H {s with heap:=s.heap.push {cls:=.type "range",data:=.fields #[.int lo t,.int hi u,.int 1 v]},toks:=f}:=I.kept λb o e=>c0 _ e;refine⟨(s.heap.push {cls:=.type "range",data:=.fields #[.int lo t,.int hi u,.int 1 v]}).objs.size,[(s.heap.push {cls:=.type "range",data:=.fields #[.int lo t,.int hi u,.int 1 v]}).objs.size],_,_,H,rfl,
  g.kept (t':=f) λb o e=>c0 _ e,tH _ lo (hi - lo).toNat,?_,λb h=>?_,q⟩
 .have e1:lo+((0:Nat):Int)*1=lo:=by simp
  have e2:(((hi - lo).toNat:Nat):Int) - ((0:Nat):Int)=Pb.Range.rangeSize lo hi 1:=by rw[rangeSize_one];split<;>ext
  show IsRangeIter _ _ (lo+((0:Nat):Int)*1) ((((hi - lo).toNat:Nat):Int) - ((0:Nat):Int)) 1;rw[e1,e2];exact c4 _ rfl
 .have e:b=(s.heap.push {cls:=.type "range",data:=.fields #[.int lo t,.int hi u,.int 1 v]}).objs.size:=by simpa using h
  subst e;exact g.VY (OJ _) (g.QX.fresh (OJ _))
def Gj(ta:TA):TI:=λa H R=>ta a H λvs b=>∃j:Int,vs=[.int j]/\ -(2^62)<=j/\j<2^62/\R (Kv 0 j.toNat) b
def F7(ta:TA):TI:=λa H R=>ta a H λvs b=>∃i j:Int,vs=[.int i,.int j]/\(-(2^62)<=i/\i<2^62/\ -(2^62)<=j/\j<2^62)/\R (Kv i (j - i).toNat) b
theorem xZ(m:Gl X "range")(hm:X.mg "range"=CL)(ha:PA X [a] ta)(l:PZ [a] X.env=[(OP,eval a X.env)]:=by rfl):PI X tg (.Call (.Name "range" p) [a] [] pos) (Gj ta):=by
 intro b s f H R I h;refine Call_ (kL I m hm boot_range (R8 (bK (ha pos b s f H _ I h) λo u ⟨vs,v,n,i,d⟩=>?_) l rfl));obtain⟨j,e,d,k,q⟩:=d;subst e;cases i with
 |cons r g=>cases g;obtain⟨t,rfl⟩:=r;exact call_range_1 (qQ n (by ext) (by ext) d k (by simpa using q))
theorem xw(z:Gl X "range")(hm:X.mg "range"=CL)(ha:PA X [a,b] ta)(w:PZ [a,b] X.env=[(OP,eval a X.env),(OP,eval b X.env)]:=by rfl)(f:PZ [b] X.env=[(OP,eval b X.env)]:=by rfl):
  PI X tg (.Call (.Name "range" p) [a,b] [] pos) (F7 ta):=by
 intro d s l H R I h;refine Call_ (kL I z hm boot_range (R8 (bK (ha pos d s l H _ I h) λB E ⟨vs,F,A,m,k⟩=>?_) (by rw[w,f]) (by rw[f];rfl)));obtain⟨i,j,e,⟨k,v,u,o⟩,q⟩:=k;subst e;cases m with
 |cons r g=>
  cases g with
  |cons n g=>cases g;obtain⟨t,rfl⟩:=r;obtain⟨C,rfl⟩:=n;exact call_range_2 (qQ A k v u o q)
def wP(d:TI)(g:TG)(tb:TS):TS:=λD a H=>d a H λJ f=>∃W:Nat->Nat->St->Hp->Prop,(∃m,W 0 m a f)/\∀i m a H,W i m a H->
 (J.stop i H/\D.nx a H)\/(J.go i H/\∃N:St->Hp->Prop,(∀σ' H',N σ' H'->∃m',m'<m/\W (i+1) m' σ' H')/\∀x H',J.Y8 i H x H'->g x a H' λb e=>tb {D with nx:=N,ct:=N,bk:=D.nx} b e)
def lV(fp:cc OL)(h:Heap):cc (OL×Obj):=fp.filterMap λb=>(h.get? b).map λo=>(b,o)
theorem gh(hb:b∈fp)(e:h.get? b=cL o):(b,o)∈lV fp h:=Qw.mpr ⟨b,hb,by rw[e];rfl⟩
theorem w6(a:p∈lV fp h):p.1∈fp/\h.get? p.1=cL p.2:=by
 obtain⟨b,d,e⟩:=Qw.mp a;cases q:h.get? b with
 |none=>rw[q]at e;cases e
 |some o=>rw[q]at e;have f:=Pr e;subst f;exact⟨d,q⟩
theorem Inv.pinned(I:Inv X pins σ H s)(i:∀b∈fp,mq X pins H b)(h:∀b∈fp,∃o,s.heap.get? b=cL o/\∀v,o.data≠.cell v):Inv X (pins++lV fp s.heap) σ H s:=
 I.VN λp g=>(Pf.mp g).elim (λz=>I.pin p (Ph _ z)) λz=>by obtain⟨a,e⟩:=w6 z;obtain⟨l,k,j,_⟩:=i p.1 a;obtain⟨o,f,d⟩:=h p.1 a;rw[e]at f;cases f;exact⟨e,l,k,j,d⟩
theorem Inv.TY(I:Inv X (pins++pl) σ H s):Inv X pins σ H s:=I.VN λp a=>I.pin p (Ph _ (PR _ a))
theorem zY(G:We (model X.prog X.w) X.A X.env X.xe)(hc:X.calm=OG)(hi:PI X tg iter wi)(hg:PG X tg g)(hb:UY X body tb)
  (hs:∀x,foldedSetIterable iter X.env x=pure x:=by intro _;rfl):PS X (.For tg iter body [] pos) (wP wi g tb):=by
 intro j s σ H D I h;refine wpAny_For (bK (hi j s σ H _ I h) λv s1 h1=>bK h1 λitv s2 h2=>?_) hs;obtain⟨it,L,tn,J,H2,e,I2,T,P,f2,W,⟨m0,w0⟩,B⟩:=h2;subst e;have Y:∀{t:Hp},(∀b∈L,t b=CL)->∀b∈L,mq X j t b:=λhn b hb=>⟨hn b hb,(f2 b hb).2⟩;refine codeAny_forLoop_any (λn s'=>∃i σ' t,Inv X j σ' t s'/\tn i s'.heap/\(∀b∈L,t b=CL)/\W i n σ' t) ?_ m0 ⟨0,σ,H2,I2,P,λb hb=>(f2 b hb).1,w0⟩;rintro n s3 ⟨i,k,M,I3,E,K,w3⟩;rcases B i n k M w3 with⟨C,qn⟩|⟨go,N,hN,step⟩
 .refine Ro G (bK (T.done X rfl rfl rfl hc i j s3 k M X.xe I3 (Y K) E C) λr s4 ⟨S,I4⟩=>?_);subst S;exact TK ⟨k,M,I4,qn⟩
 .refine Ro G (bK (T.item X rfl rfl rfl hc i j s3 k M X.xe I3 (Y K) E go) λr s4 ⟨u,S,h4⟩=>?_)
  subst S;refine Ro G (bK h4 λ_ s5 ⟨x,H5,I5,r5,y5,Z,U⟩=>?_);have I5':=I5.pinned (Y U) (T.obj _ _ Z);refine Ro G (bK (hg _ s5 k H5 x u _ I5' r5 (step x H5 y5)) λ_ s6 ⟨O,H6,I6,q6⟩=>?_);refine Ro G (bK (hb _ s6 O H6 _ I6 q6) λf Q z=>?_);have l:∀{a:St} {q:Hp},Inv X (j++lV L s5.heap) a q Q->N a q->∃m,m<n/\∃i σ' t,Inv X j σ' t Q/\tn i Q.heap/\(∀b∈L,t b=CL)/\W i m σ' t:=λ{a q} p F=>by obtain⟨m',hm,w7⟩:=hN a q F;refine⟨m',hm,i+1,a,q,p.TY,T.keep _ _ _ Z λb hb o e=>(p.pin (b,o) (Ph _ (Ph _ (gh hb e)))).1,λb hb=>?_,w7⟩;obtain⟨o,e,d⟩:=T.obj _ _ Z b hb;exact(p.pin (b,o) (Ph _ (Ph _ (gh hb e)))).2.1
  cases f with
  |next=>obtain⟨a,q,p,F⟩:=z;exact l p F
  |cont=>obtain⟨a,q,p,F⟩:=z;exact l p F
  |brk=>obtain⟨a,q,p,z⟩:=z;exact⟨a,q,p.TY,z⟩
  |ret v=>obtain⟨x7,a,q,p,r7,z⟩:=z;exact⟨x7,a,q,p.TY,r7,z⟩
end
abbrev R2:=V->V->Hp->VK->Prop
def OpR(X:Cx)(f:OC->OC->Sem OC)(r:R2):Prop:=
 ∀(a:cc (OL×Obj)) (s:OK) (b:St) (H:Hp) (x y:V) (v u:OC) (Q:VK),Inv X a b H s->RelV x v->RelV y u->r x y H Q->
  wpAny (model X.prog X.w) X.A (f v u) (EP X a b Q) X.xe s
def MC(X:Cx)(f:OC->Sem OC)(r:V->Hp->VK->Prop):Prop:=
 ∀(a:cc (OL×Obj)) (s:OK) (b:St) (H:Hp) (x:V) (v:OC) (Q:VK),Inv X a b H s->RelV x v->r x H Q->
  wpAny (model X.prog X.w) X.A (f v) (EP X a b Q) X.xe s
def fy(X:Cx)(f:OC)(r:cc V->Hp->VK->Prop):Prop:=
 ∀(a:cc (OL×Obj)) (s:OK) (b:St) (H:Hp) (xs:cc V) (d:cc OC) (Q:VK),Inv X a b H s->Vals xs d->r xs H Q->
  wpAny (model X.prog X.w) X.A (call f d) (EP X a b Q) X.xe s
def wA(r:R2)(ta tb:TE):TE:=λa H Q=>ta a H λx d=>tb a d λy b=>r x y b Q
def Nw(r:V->Hp->VK->Prop)(ta:TE):TE:=λa H Q=>ta a H λx b=>r x b Q
def rI(C:Int->Int->Prop)(g:Int->Int->V):R2:=λx y H Q=>∃i j,x=.int i/\y=.int j/\C i j/\Q (g i j) H
def vE(g:Int->Int->V):R2:=λx y H Q=>∃i j,x=.int i/\y=.int j/\Q (g i j) H
def rU(g:Int->V):V->Hp->VK->Prop:=λx H Q=>∃i,x=.int i/\Q (g i) H
section
variable{X:Cx}{a b c:Po}{Z Y tc:TE}{pos:Pos}
theorem HW(ha:PE X a Z)(hb:PE X b Y){R:V->V->Hp->Prop}(I:Inv X pins σ H s)
  (h:Z σ H λx H1=>Y σ H1 λy H2=>R x y H2) {f:OC->OC->Sem OC}
  (k:∀v u s2 x y H2,Inv X pins σ H2 s2->RelV x v->RelV y u->R x y H2->wpAny (model X.prog X.w) X.A (f v u) Q X.xe s2):
  wpAny (model X.prog X.w) X.A (eval a X.env) (λv s₁=>wpAny (model X.prog X.w) X.A (eval b X.env) (λu s₂=>wpAny (model X.prog X.w) X.A (f v u) Q X.xe s₂) X.xe s₁) X.xe s:=by
 refine bK (ha pins s σ H _ I h) λv d ⟨x,H1,m,g,j⟩=>?_;refine bK (hb pins d σ H1 _ m j) λu s2 ⟨y,H2,l,e,i⟩=>?_;exact k v u s2 x y H2 l g e i
theorem KJ(j:OpR X (QJ op) r)(ha:PE X a Z)(hb:PE X b Y):PE X (.BinOp a op b pos) (wA r Z Y):=by intro d s e H Q I h;exact wpAny_BinOp (HW ha hb I h λv u f x y l k i g q=>j d f e l x y v u Q k i g q)
theorem K2(j:MC X (unaryOp op) r)(ha:PE X a Z):PE X (.UnaryOp op a pos) (Nw r Z):=by intro d s e H Q I h;exact UnaryOp_ (bK (ha d s e H _ I h) λv f ⟨x,l,k,g,i⟩=>j d f e l x v Q k g i)
theorem Mf{g:Int->Int->Int}
  (d:∀(i j:Int) (t u:Tok) (s:OK) (Q:OC->OK->Prop) (E:OC->OK->Prop),C i j->Q (.int (g i j) s.toks) {s with toks:=s.toks+1}->wpAny (model X.prog X.w) X.A (f (.int i t) (.int j u)) Q E s):
  OpR X f (rI C λi j=>.int (g i j)):=by
 intro e s o H x y v u Q I m l h;obtain⟨i,j,rfl,rfl,n,q⟩:=h;obtain⟨t,rfl⟩:=m;obtain⟨k,rfl⟩:=l;exact d i j t k s _ _ n ⟨.int (g i j),H,I.tok _,⟨_,rfl⟩,q⟩
theorem KA{g:Int->Int->Int}
  (d:∀(i j:Int) (t u:Tok) (s:OK) (Q:OC->OK->Prop) (E:OC->OK->Prop),Q (.int (g i j) s.toks) {s with toks:=s.toks+1}->wpAny (model X.prog X.w) X.A (f (.int i t) (.int j u)) Q E s):
  OpR X f (vE λi j=>.int (g i j)):=by
 intro e s n H x y v u Q I m l h;obtain⟨i,j,rfl,rfl,q⟩:=h;obtain⟨t,rfl⟩:=m;obtain⟨k,rfl⟩:=l;exact d i j t k s _ _ ⟨.int (g i j),H,I.tok _,⟨_,rfl⟩,q⟩
theorem HR{g:Int->Int->Bool}
  (d:∀(i j:Int) (t u:Tok) (s:OK) (Q:OC->OK->Prop) (E:OC->OK->Prop),Q (.bool (g i j)) s->wpAny (model X.prog X.w) X.A (f (.int i t) (.int j u)) Q E s):
  OpR X f (vE λi j=>.bl (g i j)):=by
 intro e s n H x y v u Q I m l h;obtain⟨i,j,rfl,rfl,q⟩:=h;obtain⟨t,rfl⟩:=m;obtain⟨k,rfl⟩:=l;exact d i j t k s _ _ ⟨.bl (g i j),H,I,rfl,q⟩
def JG(i j:Int):Prop:=0<=j/\j<=1000000/\i.natAbs<2^64
def XB(i j:Int):Prop:=(-(2^64)<i/\i<2^64)\/(-(2^64)<j/\j<2^64)
theorem XB.ok(h:XB i j):IntMulOk i j:=by
 rcases h with⟨h1,d⟩|⟨h1,d⟩
 .exact .of_left (acH h1 d)
 .exact .of_right (acH h1 d)
theorem JO:OpR X (QJ .Add) (vE λi j=>.int (i+j)):=KA λ_ _ _ _ _ _ _ q=>add_int q
theorem Io:OpR X (QJ .Sub) (vE λi j=>.int (i - j)):=KA λ_ _ _ _ _ _ _ q=>sub_int q
theorem Gk:OpR X (QJ .Mult) (rI XB λi j=>.int (i*j)):=Mf λ_ _ _ _ _ _ _ d q=>mul_int q d.ok
theorem GC:OpR X (QJ .Mod) (rI (λ_ j=>0<j) λi j=>.int (i % j)):=Mf λi j _ _ _ _ _ d q=>by have h1:(0:Int)<j:=d;exact mod_int' (by ext) (by rw[Int.fmod_eq_emod_of_nonneg i (by ext)];exact q)
theorem JN:OpR X (QJ .Pow) (rI JG λi j=>.int (i^j.toNat)):=Mf λ_ _ _ _ _ _ _ d q=>pow_int_small d.1 d.2.1 d.2.2 q
theorem Om{g:Int->Int}
  (d:∀(i:Int) (t:Tok) (s:OK) (Q:OC->OK->Prop) (E:OC->OK->Prop),Q (.int (g i) s.toks) {s with toks:=s.toks+1}->wpAny (model X.prog X.w) X.A (f (.int i t)) Q E s):
  MC X f (rU λi=>.int (g i)):=by
 intro e s k H x v Q I j h;obtain⟨i,rfl,q⟩:=h;obtain⟨t,rfl⟩:=j;exact d i t s _ _ ⟨.int (g i),H,I.tok _,⟨_,rfl⟩,q⟩
theorem HA:MC X (unaryOp .USub) (rU λi=>.int (-i)):=Om λ_ _ _ _ _ q=>neg_int q
end
section
variable{X:Cx}{a b c:Po}{Y Z tc:TE}{pos:Pos}
theorem G0(I:Inv X pins σ H s)(q:Q (.bl k) H)(e:k=k'):EP X pins σ Q (.bool k') s:=by subst e;exact⟨.bl k,H,I,rfl,q⟩
theorem Kr:OpR X (QS .Lt) (vE λi j=>.bl (decide (i<j))):=HR λ_ _ _ _ _ _ _ q=>lt_int q
theorem Lu:OpR X (QS .Gt) (vE λi j=>.bl (decide (j<i))):=HR λ_ _ _ _ _ _ _ q=>gt_int q
theorem Ke:OpR X (QS .GtE) (vE λi j=>.bl (decide (j<=i))):=HR λ_ _ _ _ _ _ _ q=>ge_int q
theorem GS:OpR X (QS .Is) (λx y H Q=>y=.Se/\Q (.bl (decide (x=.Se))) H):=by
 intro e s g H x y v u Q I d f h;obtain⟨rfl,q⟩:=h;cases f;refine is_none_gen (G0 I q ?_);cases x<;>first
  |(cases d;rfl)
  |(obtain⟨t,rfl⟩:=d;rfl)
theorem EC{op:Wc}{r:R2}(j:OpR X (QS op) r)(ha:PE X a Y)(hb:PE X b Z)(hm:behindInMarks op b=OP):PE X (.Compare a [op] [b] pos) (wA r Y Z):=by intro d s e H Q I h;exact aa5 (HW ha hb I h λv u f x y l k i g q=>j d f e l x y v u Q k i g q) hm
def v7(t:TE):TT:=λd H Q=>t d H λx e=>∃k,x=.bl k/\Q k e
theorem Cg(q:OpR X (QS op) r)(ha:PE X a Y)(hb:PE X b Z)(hm:behindInMarks op b=OP):PT X (.Compare a [op] [b] pos) (v7 (wA r Y Z)):=by
 intro d s f H Q I h;refine W7 (bK (ha d s f H _ I h) λv i ⟨x,E,A,m,p⟩=>bK (hb d i f E _ A p) λu g ⟨y,C,w,l,o⟩=>
  bK (q d g f C x y v u _ w m l o) λc F ⟨z,B,t,j,k,e,n⟩=>?_) hm
 subst e;cases j;exact QO ⟨B,t,n⟩
theorem nR:(Pd:Nat)<2^63:=by rw[Xw];decide
theorem tO:OpR X (QJ .Add) (λx y H Q=>∃i j,x=.str i/\y=.str j/\i.length+j.length<=Pd/\Q (.str (i++j)) H):=by intro d s l H x y v u Q I g f h;obtain⟨i,j,rfl,rfl,k,q⟩:=h;obtain⟨t,rfl⟩:=g;obtain⟨e,rfl⟩:=f;exact add_str (λe m=>⟨.str (i++j),H,I.tok _,⟨_,rfl⟩,q⟩) k
theorem lI(r:Vals [x] us):∃u,us=[u]/\RelV x u:=by
 cases r with
 |cons e d=>cases d;exact⟨_,rfl,e⟩
theorem E2(r:Vals [x,y] us):∃u w',us=[u,w']/\RelV x u/\RelV y w':=by
 cases r with
 |cons g f=>
  cases f with
  |cons e d=>cases d;exact⟨_,_,rfl,g,e⟩
theorem xj(f:X.calm=OG):fy X (.builtin "max") (λxs H Q=>∃i j,xs=[.int i,.int j]/\Q (.int (if j>i then j else i)) H):=by
 intro e s g H xs m Q I r h;obtain⟨i,j,rfl,q⟩:=h;obtain⟨u,l,rfl,⟨t,rfl⟩,⟨o,rfl⟩⟩:=E2 r;refine max_two_ints (I.ok.hd f) λp n k=>⟨_,H,I.kept k,?_,q⟩;by_cases d:j>i
 .rw[ai d,ai d];exact⟨_,rfl⟩
 .rw[ak d,ak d];exact⟨_,rfl⟩
def Lq(K:Bn)(x:V)(H:Hp)(n:Nat):Prop:=
 match x with
 |.str y=>y.length<=Pd/\n=y.length
 |.ZG y=>y.size<=Pd/\n=y.size
 |.ref p=>(∃xs,Tw K H p xs/\n=xs.length)\/∃xs,Tj K H p xs/\n=xs.length
 |_=>False
theorem AE:fy X (.builtin "len") (λxs H Q=>∃x n,xs=[x]/\Lq X.K x H n/\Q (.int n) H):=by
 intro k s v H xs w Q I r h;obtain⟨x,n,rfl,e,q⟩:=h;obtain⟨u,rfl,g⟩:=lI r;have A:=nR;have z:=Xw;cases x with
 |str y=>obtain⟨t,rfl⟩:=g;obtain⟨m,f⟩:=e;subst f;exact len_str (by ext) ⟨.int _,H,I.tok _,⟨_,rfl⟩,q⟩
 |ZG y=>obtain⟨t,rfl⟩:=g;obtain⟨m,f⟩:=e;subst f;exact PySem.W.len_bytes (by ext) ⟨.int _,H,I.tok _,⟨_,rfl⟩,q⟩
 |ref p=>
  cases g;have f:=e;rcases f with⟨xs,j,f⟩|⟨xs,j,f⟩
  .subst f;obtain⟨o,i,pl,l⟩:=I.list j;have d:=i.length;exact Calls.call_len_list pl.isList (by simp only[O8];ext) ⟨.int xs.length,H,I.tok _,⟨_,by simp only[O8];rw[d]⟩,q⟩
  .subst f;obtain⟨o,i,pl,l⟩:=I.tuple j;have d:=i.length;exact len_tuple pl (by simp only[O8];ext) ⟨.int xs.length,H,I.tok _,⟨_,by simp only[O8];rw[d]⟩,q⟩
 |_=>exact(show False from e).elim
end
structure aeo(h:Heap)(x dx C:OL)(mA:Str->cj OC):Prop where
 obj:h.get? x=cL (Wb C dx)
 ns:h.Ns1 dx mA
 ne:dx≠x
theorem Ug.some_of(r:Ug (cL v) o):∃u,o=cL u/\RelV v u:=by
 cases o with
 |none=>exact(show False from r).elim
 |some u=>exact⟨u,rfl,r⟩
structure Cls(K:Bn)(C:OL):Prop where
 pg:VS K C Str.empty=OG
 hd:VD K C=OG
 po:VF K C=OG
 sa:QH K (.ref C) "__setattr__"=cL (cL (.builtin "object.__setattr__"))
def AA(K:Bn)(C:OL)(f:Str):Prop:=QH K (.ref C) f=cL CL
structure Con(K:Bn)(C:OL)(f:Str)(v:V)(u:OC):Prop where
 at_:QH K (.ref C) f=cL (cL u)
 rel:RelV v u
 get:VG K u "__get__"=cL CL
 cp:PySem.W.copiedNames.contains f=OP
structure Meth(K:Bn)(C:OL)(m:Str)(f:OL):Prop where
 at_:QH K (.ref C) m=cL (cL (.ref f))
 fn:SX K (.ref f)=OG
 kp:Q0 K (.ref f)=OG
section
variable{X:Cx}{pins:cc (OL×Obj)}{σ:St}{H:Hp}{s:OK}{A:Pp}{E:OC->OK->Prop}{Q:OC->OK->Prop}{c:OC}{b:Bool}
inductive Us(K:Bn)(H:Hp):V->OC->Prop where
 |Se:Us K H .Se (.type "NoneType")
 |bl (x:Bool):Us K H (.bl x) (.type "bool")
 |int (i:Int):Us K H (.int i) (.type "int")
 |str (x:Str):Us K H (.str x) (.type "str")
 |Zr (x:UInt64):Us K H (.Zr x) (.type "float")
 |lst {a:OL} {xs:cc V} (e:H a=cL (.lst xs)):Us K H (.ref a) (.type "list")
 |frz {a:OL} {o:Obj} {xs:cc V} (e:H a=cL (.frz o (.lst xs))):Us K H (.ref a) (.type "list")
 |tup {a:OL} {xs:cc V} (e:H a=cL (.tup xs)):Us K H (.ref a) (.type "tuple")
 |dK {a:OL} {PL:cc (jA×V)} (e:H a=cL (.dK PL)):Us K H (.ref a) (.type "dict")
 |dT {a:OL} {PL:cc (cc jA×V)} (e:H a=cL (.dT PL)):Us K H (.ref a) (.type "dict")
 |ins {a C dx:OL} {fs:cc (Str×V)} (e:H a=cL (.ins C dx fs)) (cl:Cls K C) (ha:QH K (.ref C) "__class__"=cL (cL (.builtin "object.__class__")))
   (hn:VG K (.builtin "object.__class__") "__get__"=cL (cL (.builtin "getset_descriptor.__get__"))) (htk:PySem.W.takesIn K (.builtin "object.__class__")=cL OG)
   (hm:PySem.W.mroIn K C (.type "object")=cL OG):Us K H (.ref a) (.ref C)
end
structure RK(k:Nat)(A:Pp):Prop where
 hd:A.handled=CL
 dp:A.depth+3*k+5<recursionLimit
 un:A.units+16*k+200<cLine
theorem RK.mono(r:RK k A)(h:j<=k):RK j A:=⟨r.hd,by have:=r.dp;ext,by have:=r.un;ext⟩
theorem RK.deeper(r:RK (k+1) A)(env:Env):RK k (A.deeper env):=
 ⟨r.hd,by have:=r.dp;show A.depth+1+3*k+5<_;ext,by have:=r.un;show A.units+3+16*k+200<_;ext⟩
theorem RK.depth(r:RK k A):A.depth<recursionLimit:=by have:=r.dp;ext
theorem RK.units(r:RK k A):A.units+64<cLine:=by have:=r.un;ext
def iI:TA:=λ_ H Q=>Q [] H
def c8(ta:TE)(tr:TA):TA:=λa H Q=>ta a H λx d=>tr a d λxs b=>Q (x::xs) b
section
variable{X:Cx}{e:Po}{es:cc Po}{te:TE}{t:TA}{pos:Pos}
theorem iX:PA X [] iI:=λ_ _ _ _ H Q I h=>Calls.spliced_nil ⟨[],H,I,.nil,h⟩
theorem eP(ha:PE X e te)(l:PA X es t)(k:PZ (e::es) X.env=(OP,eval e X.env)::PZ es X.env:=by rfl):PA X (e::es) (c8 te t):=by intro pos a s b H Q I h;rw[k];refine Calls.spliced_cons (bK (ha a s b H _ I h) λu d ⟨x,p,n,g,j⟩=>?_);exact bK (l pos a d b p _ n j) λq r ⟨xs,o,m,f,i⟩=>⟨x::xs,o,m,.cons g f,i⟩
def wH(t:TA):TE:=λb H Q=>t b H λxs a=>xs.length<=Pd/\∀p,a p=CL->Q (.ref p) (upd a p (.tup xs))
def JF(t:TA):TE:=λb H Q=>t b H λxs a=>xs.length<=Pd/\∀p,a p=CL->Q (.ref p) (upd a p (.lst xs))
theorem zE{x1}(h:PA X es t):PE X (.Tuple es x1 pos) (wH t):=by intro a s g H Q I j;refine wpAny_Tuple_spliced (bK (h pos a s g H _ I j) λi d ⟨xs,l,f,r,z,q⟩=>⟨by rw[<-r.length];exact z,?_⟩);have k:=f.QX.fresh (OJ _);refine⟨.ref d.heap.objs.size,upd l d.heap.objs.size (.tup xs),f.laid (λb u e=>c0 _ e) (OJ _) ?_,rfl,q _ k⟩;exact⟨z,i,r,⟨_,c4 _ rfl,⟨rfl,_,rfl⟩,rfl⟩⟩
theorem G1(h:PA X es t):PE X (.List es pos) (JF t):=by intro a s g H Q I j;refine wpAny_List_spliced (bK (h pos a s g H _ I j) λi d ⟨xs,l,f,r,z,q⟩=>⟨by rw[<-r.length];exact z,?_⟩);have k:=f.QX.fresh (OJ _);refine⟨.ref d.heap.objs.size,upd l d.heap.objs.size (.lst xs),f.laid (λb u e=>c0 _ e) (OJ _) ?_,rfl,q _ k⟩;exact⟨z,i,0,r,c4 _ rfl⟩
end
abbrev Sp:=cc V->Hp->VK->XK->Prop
abbrev pY:=cc Env->Hp->OK->XK->OC->OK->Prop
structure XU(P:Pa)(w:Pz)(K:Bn)(mg:Str->cj OC)(base:Heap)(A:Pp)(outer:cc Env)(s:OK)(H:Hp):Prop where
 frames:A.frames=cL outer
 mod:Mod K mg base
 bs:∀b o,base.get? b=cL o->s.heap.get? b=cL o/\H b=CL
 XG:base.objs.size<=s.heap.objs.size
 Uh:s.heap.FunFrames base outer
 Yn:∀b∈tK outer,H b=CL
 QX:Ub P w H s.heap
 bare:AllBare s.gens
def CE(outer:cc Env)(P:Pa)(w:Pz)(H:Hp)(s:OK)(Q:VK)(u:OC)(a:OK):Prop:=
 ∃v H',a.os=s.os/\AllBare a.gens/\Un (tK outer) [] H H' s.heap a.heap/\Ub P w H' a.heap/\RelV v u/\Q v H'
def CR(b:pY)(outer:cc Env)(P:Pa)(w:Pz)(H:Hp)(s:OK)(Q:VK)(E:XK)(r:Yg)(a:OK):Prop:=
 match r with
 |.ok (.ret u)=>CE outer P w H s Q u a
 |.ok _=>False
 |.error e=>b outer H s E e a
structure FnOk(P:Pa)(w:Pz)(K:Bn)(mg:Str->cj OC)(base:Heap)(CX:pY)(k:Nat)(f:OL)(fd:Qx)(ps:cc Str)(sp:Sp):Prop where
 len:∀vs H Q E,sp vs H Q E->vs.length=ps.length
 run:∀(A:Pp) (outer:cc Env) (s:OK) (H:Hp) (args:Args) (us:cc OC) (vs:cc V) (Q:VK) (E:XK),RK k A->XU P w K mg base A outer s H->T8 s fd args (ps.zip us)->Vals vs us->sp vs H Q E->
  codeAny (model P w) A (.call (.ref f) args) (CR CX outer P w H s Q E) s
theorem FnOk.imp{P:Pa}{w:Pz}{K:Bn}{mg:Str->cj OC}{base:Heap}{e:pY}{k:Nat}{f:OL}{fd:Qx}{ps:cc Str}{sp b:Sp}(F:FnOk P w K mg base e k f fd ps sp)
  (h:∀vs H Q E,b vs H Q E->sp vs H Q E):FnOk P w K mg base e k f fd ps b:=
 ⟨λvs H Q E q=>F.len vs H Q E (h _ _ _ _ q),λA a s H d g vs Q E l m n i j=>F.run A a s H d g vs Q E l m n i (h _ _ _ _ j)⟩
section
variable{X:Cx}{Z:cc (OL×Obj)}{Y:St}{H:Hp}{s U:OK}
theorem Inv.abx(I:Inv X Z Y H s):XU X.prog X.w X.K X.mg X.base X.A X.stack s H:=
 ⟨I.ok.frames,I.ok.mod,I.bs,OZ I.ok.XG I.sz,I.stack,I.U1,I.QX,I.bare⟩
theorem Inv.after{Q:VK}{u:OC}(I:Inv X Z Y H s)(h:CE X.stack X.prog X.w H s Q u U):EP X Z Y Q u U:=by obtain⟨v,j,f,a,un,QX,r,q⟩:=h;obtain⟨i,g,d,t,e⟩:=U;obtain rfl:e=s.os:=f;exact⟨v,j,I.call (h':=i) (g':=g) (d':=d) (t':=t) (ch:=[]) un QX a (λb z=>cb z (by simp)),r,q⟩
end
def nk(sp:Sp)(b:cc V)(E:XK)(t:TA):TE:=λa H Q=>t a H λvs d=>sp (vs++b) d Q E
def Binds(K:Bn)(fd:Qx)(ps:cc Str)(ds:cc OC):Prop:=
 ∀(s:OK) (a:cc OC),K.In s.heap->(a++ds).length=ps.length->T8 s fd ⟨a,[]⟩ (ps.zip (a++ds))
theorem Binds.all{K:Bn}{fd:Qx}{ps:cc Str}(h:∀us:cc OC,us.length=ps.length->bindArgs fd ⟨us,[]⟩=pure (ps.zip us)):Binds K fd ps []:=λs us _ a=>by rw[Pu]at a⊢;exact .of_eq (h us a)
def jJ(f:pY)(X:Cx)(E:XK):Prop:=∀(a:cc (OL×Obj)) (d:St) (H:Hp) (s:OK) (e:OC) (b:OK),Inv X a d H s->f X.stack H s E e b->X.xe e b
section
variable{X:Cx}{U:pY}{k:Nat}{f C:OL}{fd:Qx}{Y:cc Str}{sp:Sp}{Z:cc V}{ds:cc OC}{E:XK}{x m:Str}{p pos apos:Pos}{e o:Po}{es:cc Po}{ta:TE}{t:TA}
theorem GG{a:cc (OL×Obj)}{g:St}{H:Hp}{s:OK}{Q:VK}{b:cc OC}{vs:cc V}(F:FnOk X.prog X.w X.K X.mg X.base U k f fd Y sp)(n:RK k X.A)(hb:Binds X.K fd Y ds)(hd:Vals Z ds)(l:jJ U X E)
  (I:Inv X a g H s) (r:Vals vs b) (h:sp (vs++Z) H Q E):wpAny (model X.prog X.w) X.A (call (.ref f) b) (EP X a g Q) X.xe s:=by
 have i:Vals (vs++Z) (b++ds):=r.append hd;have q:(b++ds).length=Y.length:=by rw[<-i.length];exact F.len _ _ _ _ h
 refine wpAny_call (Wr (F.run X.A X.stack s H ⟨b,[]⟩ (b++ds) (vs++Z) Q E n I.abx (hb s b I.V2 q) i h) λr j d=>?_);cases r with
 |error e=>exact l a g H s e j I d
 |ok v=>
  cases v with
  |ret u=>exact I.after d
  |next=>exact False.elim d
  |brk=>exact False.elim d
  |cont=>exact False.elim d
theorem D5(F:FnOk X.prog X.w X.K X.mg X.base U k f fd Y sp)(i:RK k X.A)(l:Gl X x)(hm:X.mg x=cL (.ref f))(j:Q0 X.K (.ref f)=OG)(hb:Binds X.K fd Y ds)(hd:Vals Z ds)(g:jJ U X E)
  (ha:PA X (e::es) t) (u:(x==("__debug__":Str))=OP:=by decide) (n:PZ (e::es) X.env=(OP,eval e X.env)::PZ es X.env:=by rfl) (v:(backTo pos (PZ es X.env)).any (·.1)=OP:=by rfl):
  PE X (.Call (.Name x p) (e::es) [] pos) (nk sp Z E t):=by
 intro a s d H Q I h;refine Uo (vB I l hm ?_ u);refine PySem.W.callWith_K I.ok.mod.kin j (bK (ha pos a s d H _ I h) λz B ⟨vs,G,b,r,q⟩=>⟨b.V2,?_⟩) n v;exact GG F i hb hd g b r q
structure Mk(K:Bn)(C f:OL):Prop where
 makes:Wf K C=OG
 init:QH K (.ref C) "__init__"=cL (cL (.ref f))
 fn:SX K (.ref f)=OG
 kp:Q0 K (.ref C)=OG
end
section
variable{X:Cx}{CX:pY}{k:Nat}{f C:OL}{fd:Qx}{Z ks:cc Str}{sp:Sp}{E:XK}{x m:Str}{p pos apos afX:Pos}{e o:Po}{es:cc Po}{kws:cc TF}{te ta:TE}{t tk:TA}{nm:cj Str}
structure abe(K:Bn)(fd:Qx)(Z ks:cc Str)(g:cc OC->cc OC->cc OC)(gV:cc V->cc V->cc V):Prop where
 to:∀(s:OK) (us ws:cc OC),K.In s.heap->(g us ws).length=Z.length->T8 s fd ⟨us,ks.zip ws⟩ (Z.zip (g us ws))
 rel:∀{vs:cc V} {us:cc OC} {zs:cc V} {ws:cc OC},Vals vs us->Vals zs ws->Vals (gV vs zs) (g us ws)
variable{g:cc OC->cc OC->cc OC}{gV:cc V->cc V->cc V}
end
structure Sa(N P:cc Str)(sc:Q1):Prop where
 kind:sc.kind=.function
 co:sc.isCoroutine=OP
 gen:sc.isGenerator=OP
 nd:N.Nodup
 pre:N.take P.length=P
 par:∀x∈P,sc.names.lookup x=cL .local\/sc.names.lookup x=cL .cell
 Yv:∀y∈sc.names,y.2≠.free
theorem nz{a:Str->cj Pg}:∀{binds:cc (Str×OC)} {m:Str->cj OC},(∀v,(x,v)∉binds)->bindL a binds m x=m x
 |[],_,_=>rfl
 |(n,v)::r,m,h=>by
  unfold bindL;rw[nz λw b=>h w (OV _ b)];split
  .have:x≠n:=by rintro rfl;exact h v O0
   simp[this]
  .rfl
theorem mY{a:Str->cj Pg}:∀{binds:cc (Str×OC)} {m:Str->cj OC},(∀v,(x,v)∉binds)->bindC a binds m x=m x
 |[],_,_=>rfl
 |(n,v)::r,m,h=>by
  unfold bindC;rw[mY λw b=>h w (OV _ b)];split
  .rfl
  .have:x≠n:=by rintro rfl;exact h v O0
   simp[this]
theorem mD{kindOf:Str->cj Pg}:∀{P:cc Str} {vs:cc OC} {i:Nat} {m:Str->cj OC},P.Nodup->P[i]?=cL x->vs[i]?=cL v->kindOf x=cL .local->
  bindL kindOf (P.zip vs) m x=cL v
 |[],_,_,_,_,h,_,_=>by simp at h
 |_::_,[],_,_,_,_,h,_=>by simp at h
 |p::P,w::vs,0,m,nd,h1,h2,hk=>by simp at h1 h2;subst h1;subst h2;show bindL kindOf ((p,w)::P.zip vs) m p=_;unfold bindL;rw[nz λv hv=>(Qj.mp nd).1 (Ut hv).1,ai hk];simp
 |p::P,w::vs,i+1,m,nd,h1,h2,hk=>by unfold bindL;exact mD (Qj.mp nd).2 (by simpa using h1) (by simpa using h2) hk
theorem mC{kindOf:Str->cj Pg}:∀{P:cc Str} {vs:cc OC} {i:Nat} {m:Str->cj OC},P.Nodup->P[i]?=cL x->vs[i]?=cL v->kindOf x≠cL .local->
  bindC kindOf (P.zip vs) m x=cL v
 |[],_,_,_,_,h,_,_=>by simp at h
 |_::_,[],_,_,_,_,h,_=>by simp at h
 |p::P,w::vs,0,m,nd,h1,h2,hk=>by simp at h1 h2;subst h1;subst h2;show bindC kindOf ((p,w)::P.zip vs) m p=_;unfold bindC;rw[mY λv hv=>(Qj.mp nd).1 (Ut hv).1,ak hk];simp
 |p::P,w::vs,i+1,m,nd,h1,h2,hk=>by unfold bindC;exact mC (Qj.mp nd).2 (by simpa using h1) (by simpa using h2) hk
def start(N:cc Str)(vs:cc V):St:=vs.map cL++ON (N.length - vs.length) CL
def iz(h:pY)(P:Pa)(w:Pz)(K:Bn)(mg:Str->cj OC)(base:Heap)(N:cc Str)(b:Str)(a:Q1)(f:OL)(g:OC)(A:Pp)(outer:cc Env)(s:OK)(H:Hp)(E:XK):Cx where
 prog:=P
 w:=w
 K:=K
 mg:=mg
 base:=base
 A:=A.deeper (envOfC b a s.heap.objs.size f g)
 N:=N
 s₀:=s
 H₀:=H
 env:=envOfC b a s.heap.objs.size f g
 outer:=outer
 stack:=envOfC b a s.heap.objs.size f g::outer
 ex:=[]
 calm:=OG
 fn:=λ_=>OG
 pn:=[]
 xe:=λe i=>wpAny (model P w) (A.deeper (envOfC b a s.heap.objs.size f g)) (leaving (envOfC b a s.heap.objs.size f g) e) (λ_ d=>h outer H s E e d) (λj d=>h outer H s E j d) i
theorem qR{sc:Q1}(h:sc.names.lookup x=cL .cell):∃c,(QT n sc.names []).lookup x=cL c:=by have q:=RJ sc.names n [] (.inl h);exact QG.mp q
theorem xH{K:Bn}
  (S:Sa N ps scope) (hd:A.handled=CL) (e0:XU P w K mg base A outer s H) (B:vs.length=ps.length) (r:Vals vs us)
  (x:InCallC s s.heap.objs.size (bindL (envOfC qual scope s.heap.objs.size f cd).kindOf (ps.zip us) λ_=>CL) (QT (s.heap.objs.size+1) scope.names []) (bindC (envOfC qual scope s.heap.objs.size f cd).kindOf (ps.zip us) λ_=>CL) s1):
  Inv (iz CX P w K mg base N qual scope f cd A outer s H E) [] (start N vs) H s1:=by
 have F:ps.length<=N.length:=by have:=ey Q8 S.pre;rw[P4]at this;ext
 obtain⟨h1,t,rfl,o⟩:=x.done;have m:∀b:OL,b∉(iz CX P w K mg base N qual scope f cd A outer s H E).ex:=λb z=>cb (show b∈([]:cc OL)from z) (by simp);refine⟨⟨e0.mod,S.kind,rfl,rfl,OJ _,λy z c h1 d=>?_,λy g=>?_,λy c _ h=>?_,λ_=>hd,Pp.frames_deeper e0.frames,.inr ⟨rfl,rfl⟩,λb z=>cb z (m b),e0.bs,e0.XG,λb _ _=>m b,λb z=>cb z (m b),e0.Uh,e0.Yn⟩,
  rfl,e0.bare,Un.kept o,⟨_,x.toInCall.ns,λi y v h1 d C=>?_⟩,λy c h=>⟨_,x.cell y c h⟩,e0.QX.fresh (OJ _),λy c h=>?_,λp l=>cb (show p∈([]:cc (OL×Obj))from l) (by simp),e0.QX.kept o,?_⟩
 .exact name_of_addr x.apart (QM h1) (QM d)
 .have g:=g
  rcases g with g|g
  .exact qR g
  .exact cb rfl (S.Yv _ (QM g))
 .exact Qo (x.above y c (QM h))
 .have hi:i<vs.length:=by
   unfold start at d;by_cases hi:i<vs.length
   .exact hi
   .rw[Pn (by simpa using hi)]at d;rw[Q5]at d;split at d<;>cases d
  have ha:vs[i]?=cL v:=by
   unfold start at d;rw[Pc (by simpa using hi),OT]at d;cases e:vs[i]? with
   |none=>rw[e]at d;cases d
   |some a=>rw[e]at d;cases d;rfl
  obtain⟨u,n,rv⟩:=r.get ha;have l:ps[i]?=cL y:=by rw[<-S.pre,QY (by ext)];exact h1
  have j:ps.Nodup:=by rw[<-S.pre];exact S.nd.sublist (List.take_sublist _ _)
  refine⟨u,rv,?_⟩;rcases S.par y (O9 l)with k|k
  .exact .inl ⟨k,mD j l n k⟩
  .obtain⟨c,e⟩:=qR k;refine .inr ⟨.inl k,c,e,?_⟩;have q:=x.cell y c e;rw[mC j l n (by show scope.names.lookup y≠_;rw[k];decide)]at q;exact q
 .exact e0.QX.fresh (Qo (x.above y c (QM h)))
 .unfold start;show _=N.length;rw[OO,OH,Py];ext
theorem LO{CX:pY}{P:Pa}{w:Pz}{K:Bn}{mg:Str->cj OC}{base:Heap}{k:Nat}{f:OL}{name qual:Str}{params:Arguments}{body:cc Rk}{scope:Q1}{dV kV doc pm RD ct oc:OC}{an od:cj OL}
  {WG:Array (cj OC)} {N ps:cc Str} {sp:Sp} (lk:K.lookup f=cL ⟨oc,od,.func (Rq name qual params body scope dV kV doc pm an RD ct),WG⟩) (Wm:Tf K RD qual=OG) (S:Sa N ps scope)
  (len:∀vs H Q E,sp vs H Q E->vs.length=ps.length)
  (SR:∀(A:Pp) (outer:cc Env) (s:OK) (H:Hp) (vs:cc V) (Q:VK) (E:XK),RK k (A.deeper (envOfC qual scope s.heap.objs.size f RD))->sp vs H Q E->
   ∃t,UY (iz CX P w K mg base N qual scope f RD A outer s H E) body t/\t {nx:=λ_ H'=>Q .Se H',rt:=Q} (start N vs) H):
  FnOk P w K mg base CX (k+1) f (Rq name qual params body scope dV kV doc pm an RD ct) ps sp:=by
 refine⟨len,λA outer s H args us vs Q E hr e0 hb r Y7=>?_⟩;have hl:=len _ _ _ _ Y7;have KX:K.In s.heap:=e0.mod.kin.keeps λb o e=>(e0.bs b o e).1;have lim:s.heap.NoLimit:=e0.mod.nolimit.keeps λb o e=>(e0.bs b o e).1;have Tq:∀y∈ps.zip us,scope.names.lookup y.1=cL .local\/(scope.names.lookup y.1=cL .cell/\((QT (s.heap.objs.size+1) scope.names []).lookup y.1).isSome=OG):=λ⟨n,v⟩ hy=>by
  rcases S.par n (Ut hy).1 with q|q
  .exact .inl q
  .exact .inr ⟨q,RJ _ _ _ (.inl q)⟩
 refine codeAny_call_function hr.depth (KX _ _ lk) rfl S.co S.gen rfl (PySem.W.codeRec_of KX Wm) (hb _ _ _ _ ?_);refine wpAny_newFunctionEnv_cells S.kind Tq λenv he s1 x=>?_;subst he;refine⟨lim.keeps x.toInCall.keep,codeAny_func ?_⟩;obtain⟨t,ht,hq⟩:=SR A outer s H vs Q E (hr.deeper _) Y7;have I:Inv (iz CX P w K mg base N qual scope f RD A outer s H E) [] (start N vs) H s1:=xH S hr.hd e0 hl r x;refine wpAny_mono (ht [] s1 (start N vs) H _ I hq) (λfl s' hs=>?_) λe s' hs=>hs
 have fin:∀{σ':St} {H':Hp} {v:V} {u:OC},Inv (iz CX P w K mg base N qual scope f RD A outer s H E) [] σ' H' s'->RelV v u->Q v H'->CE outer P w H s Q u s':=
  λ{σ' H' v u} J rv q=>⟨v,H',J.os,J.bare,J.base,J.QX,rv,q⟩
 cases fl with
 |ret u=>obtain⟨v,σ',H',J,rv,q⟩:=hs;exact fin J rv q
 |next=>obtain⟨σ',H',J,q⟩:=hs;exact fin (v:=V.Se) (u:=OC.none) J rfl q
 |brk=>obtain⟨_,_,_,q⟩:=hs;exact False.elim q
 |cont=>obtain⟨_,_,_,q⟩:=hs;exact False.elim q
section
variable{X:Cx}{x:Str}{p pos:Pos}{e:Po}{es:cc Po}{t:TA}{id T:String}{r:cc V->Hp->VK->Prop}
def B8(r:cc V->Hp->VK->Prop)(t:TA):TE:=λa H Q=>t a H λvs b=>r vs b Q
theorem A6(m:fy X (.builtin id) r)(k:Gl X x)(hm:X.mg x=CL)(j:Qd x=cL (.builtin id))(ha:PA X (e::es) t)(hn:x≠ "__name__":=by decide)(n:(x==("__debug__":Str))=OP:=by decide)
  (l:PZ (e::es) X.env=(OP,eval e X.env)::PZ es X.env:=by rfl) (o:(backTo pos (PZ es X.env)).any (·.1)=OP:=by rfl):PE X (.Call (.Name x p) (e::es) [] pos) (B8 r t):=by
 intro a s b H Q I h;refine Uo (kL I k hm j ?_ hn n);exact aaj (bK (ha pos a s b H _ I h) λd f ⟨vs,u,q,g,i⟩=>m a f b u vs d Q q g i) l o
theorem xc(m:fy X (.type T) r)(k:Gl X x)(hm:X.mg x=CL)(j:Qd x=cL (.type T))(ha:PA X (e::es) t)(hn:x≠ "__name__":=by decide)(n:(x==("__debug__":Str))=OP:=by decide)
  (l:PZ (e::es) X.env=(OP,eval e X.env)::PZ es X.env:=by rfl) (o:(backTo pos (PZ es X.env)).any (·.1)=OP:=by rfl):PE X (.Call (.Name x p) (e::es) [] pos) (B8 r t):=by
 intro a s b H Q I h;refine Uo (kL I k hm j ?_ hn n);exact R8 (bK (ha pos a s b H _ I h) λd f ⟨vs,u,q,g,i⟩=>m a f b u vs d Q q g i) l o
end
end L2
namespace HT
open PySem PyProof.Rows
section
open PySem.SeqAt
open PySem.AutoSeq1 (wpAny_loadPart')
open PySem.MeetsSeq PySem.MeetsSeq2 PySem.MeetsSeq3
end
section
variable{prog:Pa}{w:Pz}{A:Pp}{E:OC->OK->Prop}{s:OK}
theorem cat_tup{t b:OL}{vs ws:cc OC}{Q:OC->OK->Prop}(r:IsTup s.heap t vs.toArray)(hb:IsTup s.heap b ws.toArray)(l:vs≠[])
  (h1:ws=[]->Q (.ref t) s) (u:ws≠[]->Q (.ref s.heap.objs.size) {s with heap:=s.heap.push {cls:=.type "tuple",data:=.seq (vs++ws).toArray}})
  (hsz:vs.length+ws.length<=Pd):wpAny (model prog w) A (QJ .Add (.ref t) (.ref b)) Q E s:=by
 obtain⟨⟨cls,dd,data,j⟩,g,o,n,m⟩:=id r;obtain⟨⟨v,d,i,q⟩,h,p,k,a⟩:=id hb;simp only at o m p a;subst o m p a;have e:vs.toArray++ws.toArray=(vs++ws).toArray:=by simp
 by_cases f:ws=[]
 .exact Ws ⟨_,g,rfl⟩ ⟨_,h,rfl⟩ UQ VT SY SH (Sz _ _)
   (tuple_addW1 t b vs.toArray ws.toArray n k dd d j q (by simpa using l) (by simp[f])) ⟨g,h,h1 f⟩
 .refine Ws ⟨_,g,rfl⟩ ⟨_,h,rfl⟩ UQ VT SY SH (Sz _ _)
   (tuple_addW2 t b vs.toArray ws.toArray n k dd d j q (by simpa using l) (by simpa using f) (by rw[O8,O8];exact hsz)) ⟨g,h,?_⟩
  rw[e];exact u f
def sIx(n d:Nat):cj Int->Nat
 |none=>d
 |some v=>if v<0 then(v+(n:Int)).toNat else min v.toNat n
theorem sIx_none(n d:Nat):sIx n d CL=d:=rfl
theorem sIx_nat(n d k:Nat):sIx n d (cL (k:Int))=min k n:=by show(if(k:Int)<0 then((k:Int)+(n:Int)).toNat else min (k:Int).toNat n)=min k n;rw[ak (by ext),Qp]
theorem Jl(n d:Nat)(hd:d<=n)(o:cj Int):sIx n d o<=n:=by
 cases o with
 |none=>exact hd
 |some v=>
  show(if v<0 then(v+(n:Int)).toNat else min v.toNat n)<=n;by_cases a:v<0
  .rw[ai a];ext
  .rw[ak a];exact Xx _ _
theorem uy(v:Int)(n d:Nat):(if v<0 then max (v+(n:Int)) 0 else min v (n:Int))=((sIx n d (cL v):Nat):Int):=by
 show(if v<0 then max (v+(n:Int)) 0 else min v (n:Int))=(((if v<0 then(v+(n:Int)).toNat else min v.toNat n):Nat):Int);by_cases a:v<0
 .simp only[ai a];ext
 .simp only[ak a];ext
theorem sH(lo hi:cj Int)(n:Nat):Pb.Slice.sliceAdjust lo hi 1 (n:Int)=(((sIx n 0 lo:Nat):Int),((sIx n n hi:Nat):Int)):=by
 have h1:¬((1:Int)<0):=by ext
 unfold Pb.Slice.sliceAdjust;simp only[h1,if_false];refine Prod.ext ?_ ?_
 .cases lo with
  |none=>rfl
  |some v=>exact uy v n 0
 .cases hi with
  |none=>rfl
  |some v=>exact uy v n n
theorem sK(i j:Nat):Pb.Slice.slicePlaces (i:Int) (j:Int) 1=j - i:=by
 unfold Pb.Slice.slicePlaces;have h1:(1:Int)>0:=by ext
 simp only[h1,if_true,Zh];split<;>ext
theorem eS(p:Tg v o)(h:Q o s):wpAny (model prog w) A (Pb.Slice.slicePartIndex v) Q E s:=by
 cases p with
 |none=>exact slicePart_none h
 |int i t=>exact slicePart_int h
theorem fV{lo hi:cj Int}{Q:Int×Int×Nat->OK->Prop}(e:s.heap.IsSliceOf sl vl vu .none)(pl:Tg vl lo)(d:Tg vu hi)
  (h:Q (((sIx n 0 lo:Nat):Int),1,sIx n n hi - sIx n 0 lo) s):wpAny (model prog w) A (Pb.Slice.sliceApplied (.ref sl) (pure (n:Int))) Q E s:=by
 obtain⟨f,b,g,a⟩:=id e;unfold Pb.Slice.sliceApplied Pb.Slice.sliceFields;refine lD (lD (Q3 b a rfl (lD (Q3 b a rfl (lD (Q3 b a rfl (OE ?_)))))));refine lD (slicePart_none ?_);rw[ak (by decide)];refine lD (eS pl (lD (eS d (lD (OE ?_)))));show wpAny _ _ (match Pb.Slice.sliceAdjust lo hi 1 (n:Int)with|(lo,hi)=>pure (lo,(1:Int),Pb.Slice.slicePlaces lo hi 1)) _ _ s;rw[sH lo hi n];show wpAny _ _ (pure (((sIx n 0 lo:Nat):Int),(1:Int),Pb.Slice.slicePlaces ((sIx n 0 lo:Nat):Int) ((sIx n n hi:Nat):Int) 1)) _ _ s;rw[sK];exact OE h
theorem AW(xs:Array OC)(i k:Nat):((PH k).filterMap λ(m:Nat)=>xs[((i:Int)+(m:Int)*1).toNat]?).toArray=((xs.toList.drop i).take k).toArray:=by
 have e:(λ(m:Nat)=>xs[((i:Int)+(m:Int)*1).toNat]?)=λm=>xs[i+m]? :=by
  funext m;have:((i:Int)+(m:Int)*1).toNat=i+m:=by ext
  rw[this]
 rw[e];have:=pick_run xs i k;rw[Wg]at this;have e2:((λx=>xs[x]?)∘λx=>i+x)=λm=>xs[i+m]? :=rfl;rw[e2]at this;rw[this]
theorem getItem_tuple_cut{lo hi:cj Int}(a:IsTup s.heap t items)(e:s.heap.IsSliceOf sl vl vu .none)(pl:Tg vl lo)(f:Tg vu hi)
  (i:¬(sIx items.size 0 lo=0/\sIx items.size items.size hi=items.size))
  (h:Q (.ref s.heap.objs.size) {s with heap:=s.heap.push {cls:=.type "tuple",data:=.seq ((items.toList.drop (sIx items.size 0 lo)).take (sIx items.size items.size hi - sIx items.size 0 lo)).toArray}})
  (hsz:items.size<=Pd):wpAny (model prog w) A (getItem (.ref t) (.ref sl)) Q E s:=by
 have b:sizeOk (.seq ((items.toList.drop (sIx items.size 0 lo)).take (sIx items.size items.size hi - sIx items.size 0 lo)).toArray):=by show((items.toList.drop (sIx items.size 0 lo)).take (sIx items.size items.size hi - sIx items.size 0 lo)).toArray.size<=Pd;rw[O8,P4,Qy,Pt];ext
 have o:sIx items.size items.size hi<=items.size:=Jl _ _ (OJ _) hi;obtain⟨g,l,k,p⟩:=id e;have j:s.TypeIs (.ref sl) "slice":=⟨g,l,k⟩;unfold getItem
 try with_reducible refine QE ?_
 first|refine lD (OE ?_)|skip
 refine lD (Uy a.typeIs (by decide) ?_);refine lD (QA a.typeIs PJ
  (Qk PJ a.typeIs entry_tuple_getitem ?_ (args_tuple_getitem _ _)))
 show wpAny _ _ (Pb.Tuple.tupleItemsOf (.ref t)>>=_) _ _ s;refine lD (tupleItemsOf_ a ?_);refine lD (SI j ?_);rw[ai (by decide)];refine lD (fV e pl f ?_);have d:¬((((sIx items.size 0 lo:Nat):Int)==0&&(1:Int)==1&&(sIx items.size items.size hi - sIx items.size 0 lo)==items.size)=OG):=by intro q;rw[Ld,Ld]at q;have n:=eq_of_beq q.1.1;have m:=eq_of_beq q.2;exact i ⟨by ext,by ext⟩
 show wpAny _ _ (if(((sIx items.size 0 lo:Nat):Int)==0&&(1:Int)==1&&(sIx items.size items.size hi - sIx items.size 0 lo)==items.size)=OG then _ else _) _ _ s;rw[ak d,AW]
 first
  |exact lD (Pw (OE ⟨_,rfl,OE h⟩) b)
  |exact lD (Pw (lD (OE (OE ⟨_,rfl,OE h⟩))) b)
  |exact lD (lD (Pw (OE (OE ⟨_,rfl,OE h⟩)) b))
  |exact lD (lD (Pw (OE ⟨_,rfl,OE h⟩) b))
end
end HT
namespace L2
open PySem PySem.Spec PyProof.Rows
abbrev TO:=St->Hp->(cj Int->Hp->Prop)->Prop
def PO(X:Cx)(e:cj Po)(t:TO):Prop:=
 ∀(a:cc (OL×Obj)) (s:OK) (b:St) (H:Hp) (Q:cj Int->Hp->Prop),Inv X a b H s->t b H Q->
  wpAny (model X.prog X.w) X.A (evalPart e X.env) (λu d=>∃o H',Inv X a b H' d/\Tg u o/\Q o H') X.xe s
def uS:TO:=λ_ H Q=>Q CL H
def A5(t:TE):TO:=λa H Q=>t a H λx b=>∃i,x=.int i/\Q (cL i) b
section
variable{X:Cx}{e:Po}{te:TE}{Z Y:cj Po}{U S:TO}{pos p2:Pos}
theorem Eg:PO X CL uS:=by intro a s b H Q I h;rw[VU];exact OE ⟨CL,H,I,.none,h⟩
theorem uN(h:PE X e te):PO X (cL e) (A5 te):=by intro a s b H Q I g;rw[evalPart_some];refine bK (h a s b H _ I g) λu l ⟨x,k,j,d,f⟩=>?_;obtain⟨i,rfl,q⟩:=f;obtain⟨t,rfl⟩:=d;exact⟨cL i,k,j,.int i t,q⟩
def GU(X:Cx)(r:V->cj Int->cj Int->Hp->VK->Prop):Prop:=
 ∀(a:cc (OL×Obj)) (s:OK) (b:St) (H:Hp) (x:V) (v f d:OC) (Z Y:cj Int) (g:OL) (Q:VK),Inv X a b H s->RelV x v->s.heap.IsSliceOf g f d .none->Tg f Z->Tg d Y->r x Z Y H Q->
  ∃T id,typeLookup (.type T) "__getitem__"=pure (cL (.builtin id))/\s.TypeIs v T/\wpAny (model X.prog X.w) X.A (getItem v (.ref g)) (EP X a b Q) X.xe s
def NK(r:V->cj Int->cj Int->Hp->VK->Prop)(te:TE)(U S:TO):TE:=λa H Q=>te a H λx f=>U a f λl d=>S a d λu b=>r x l u b Q
theorem Al{r:V->cj Int->cj Int->Hp->VK->Prop}(E:GU X r)(J:PE X e te)(F:PO X Z U)(B:PO X Y S):PE X (.Subscript e (.Slice Z Y CL p2) pos) (NK r te U S):=by intro a s f H Q I h;refine Subscript_ (bK (J a s f H _ I h) λv m ⟨x,H1,O,n,t⟩=>?_);refine wpAny_Slice (bK (F a m f H1 _ O t) λi k ⟨l,P,N,pl,p⟩=>bK (B a k f P _ N p) λg d ⟨u,j,M,z,o⟩=>?_);rw[VU];refine OE ?_;have L:Inv X a f j {d with heap:=d.heap.push {cls:=.type "slice",data:=.fields #[i,g,.none]}}:=M.kept (t':=d.toks) λb ob q=>c0 _ q;obtain⟨T,id,K,C,G⟩:=E a {d with heap:=d.heap.push {cls:=.type "slice",data:=.fields #[i,g,.none]}} f j x v i g l u d.heap.objs.size Q L n (Heap.IsSliceOf.new ..) pl z o;show wpAny (model X.prog X.w) X.A (subscriptTail e (.Slice Z Y CL p2) v (.ref d.heap.objs.size)) (EP X a f Q) X.xe {d with heap:=d.heap.push {cls:=.type "slice",data:=.fields #[i,g,.none]}};exact tail_any (ops:=[.ref d.heap.objs.size,v]) C K G (by with_unfolding_all rfl)
def w9(xs:cc V)(Z Y:cj Int):cc V:=(xs.drop (HT.sIx xs.length 0 Z)).take (HT.sIx xs.length xs.length Y - HT.sIx xs.length 0 Z)
theorem j7(xs:cc V)(Z Y:cj Int):(w9 xs Z Y).length<=xs.length:=by unfold w9;rw[P4,Qy];ext
def LC(K:Bn):V->cj Int->cj Int->Hp->VK->Prop:=λx Z Y H Q=>∃a xs,x=.ref a/\Tj K H a xs/\
 ¬(HT.sIx xs.length 0 Z=0/\HT.sIx xs.length xs.length Y=xs.length)/\∀p,H p=CL->Q (.ref p) (upd H p (.tup (w9 xs Z Y)))
theorem Ig:GU X (LC X.K):=by
 intro f s p H x v u t Z Y w Q I j n pl k h;obtain⟨a,xs,rfl,l,m,q⟩:=h;cases j;obtain⟨o,r,i,g⟩:=I.tuple l;have d:o.toArray.size=xs.length:=by rw[O8];exact r.length.symm
 refine⟨"tuple",_,PJ.lookup,i.typeIs,?_⟩;refine HT.getItem_tuple_cut i n pl k (by rw[d];exact m) ?_ (by rw[d];exact g);rw[d];refine⟨.ref s.heap.objs.size,_,I.laid (λb z q=>c0 _ q) (OJ _) ?_,rfl,q _ (I.QX.fresh (OJ _))⟩;exact⟨OZ (j7 xs Z Y) g,_,(r.drop (HT.sIx xs.length 0 Z)).take (HT.sIx xs.length xs.length Y - HT.sIx xs.length 0 Z),Ui.new _ _⟩
def E6(K:Bn):R2:=λx y H Q=>∃a b xs ys,x=.ref a/\y=.ref b/\Tj K H a xs/\Tj K H b ys/\xs≠[]/\xs.length+ys.length<=Pd/\
 (ys=[]->Q (.ref a) H)/\(ys≠[]->∀p,H p=CL->Q (.ref p) (upd H p (.tup (xs++ys))))
theorem Vals.U0(r:Vals xs us):us=[]↔xs=[]:=by
 cases r with
 |nil=>simp
 |cons _ _=>simp
theorem C4:OpR X (QJ .Add) (E6 X.K):=by intro g s r H x y v u Q I k j h;obtain⟨a,b,xs,ys,rfl,rfl,ha,p,o,i,m,l⟩:=h;cases k;cases j;obtain⟨B,f,n,_⟩:=I.tuple ha;obtain⟨A,d,p2,_⟩:=I.tuple p;refine HT.cat_tup n p2 (λz=>o (f.U0.mp z)) (λz=>⟨.ref a,H,I,rfl,m (d.U0.mp z)⟩) (λz=>?_) (by rw[<-f.length,<-d.length];exact i);refine⟨.ref s.heap.objs.size,_,I.laid (λb t q=>c0 _ q) (OJ _) ?_,rfl,l (λw=>z (d.U0.mpr w)) _ (I.QX.fresh (OJ _))⟩;exact⟨by rw[OO];exact i,_,f.append d,Ui.new _ _⟩
end
def JD(n:Nat)(i:Int):cj Nat:=if 0<=i then(if i<n then cL i.toNat else CL)else if -(n:Int)<=i then cL (i+n).toNat else CL
def mS(xs:cc α)(i:Int):cj α:=(JD xs.length i).bind λj=>xs[j]?
theorem Ee(h:JD n i=cL j):seqIndex? i n=cL j/\j<n/\ -(n:Int)<=i/\i<n:=by
 unfold JD at h;by_cases h0:0<=i
 .rw[ai h0]at h
  by_cases h1:i<n
  .rw[ai h1]at h;have e:=Pr h;exact⟨by rw[seqIndex_of h0 h1,e],by ext,by ext,h1⟩
  .rw[ak h1]at h;cases h
 .rw[ak h0]at h
  by_cases h1: -(n:Int)<=i
  .rw[ai h1]at h;have e:=Pr h;exact⟨by rw[seqIndex_neg (by ext) h1,e],by ext,h1,by ext⟩
  .rw[ak h1]at h;cases h
theorem pK(h:mS xs i=cL v):∃j,seqIndex? i xs.length=cL j/\xs[j]?=cL v/\j<xs.length/\ -(xs.length:Int)<=i/\i<xs.length:=by
 unfold mS at h;cases e:JD xs.length i with
 |none=>rw[e]at h;cases h
 |some j=>rw[e]at h;obtain⟨h1,d,b,a⟩:=Ee e;exact⟨j,h1,h,d,b,a⟩
theorem uW{j:Nat}(h:xs[j]?=cL v):mS xs (j:Int)=cL v:=by
 have a:=(OI.mp h).1;have e:JD xs.length (j:Int)=cL j:=by unfold JD;rw[ai (by ext),ai (by ext)];simp
 unfold mS;rw[e];exact h
def uU(b:Po):Prop:=∀o i,subscripted b OP o i=operate [o,i] (getItem o i)
def XF(X:Cx)(r:R2):Prop:=
 ∀(d a:Po) (b:cc (OL×Obj)) (s:OK) (e:St) (H:Hp) (x y:V) (v u:OC) (Q:VK),Inv X b e H s->RelV x v->RelV y u->r x y H Q->
  subscripted a OP v u=operate [v,u] (getItem v u)->wpAny (model X.prog X.w) X.A (subscriptTail d a v u) (EP X b e Q) X.xe s
def L7(X:Cx)(id:String)(r:V->cc V->Hp->VK->Prop):Prop:=
 ∀(a:cc (OL×Obj)) (s:OK) (b:St) (H:Hp) (x:V) (xs:cc V) (v:OC) (d:cc OC) (Q:VK),Inv X a b H s->RelV x v->Vals xs d->r x xs H Q->
  wpAny (model X.prog X.w) X.A (call (.builtin id) (v::d)) (EP X a b Q) X.xe s
section
variable{X:Cx}{a b:Po}{ta tb:TE}{pos:Pos}
theorem XF.or(h:XF X r)(h':XF X r'):XF X (λx y H Q=>r x y H Q\/r' x y H Q):=by
 intro d e f s g H x y v u Q I j i q k;rcases q with q|q
 .exact h d e f s g H x y v u Q I j i q k
 .exact h' d e f s g H x y v u Q I j i q k
theorem Ff{r:R2}(k:XF X r)(ha:PE X a ta)(hb:PE X b tb)(j:uU b):PE X (.Subscript a b pos) (wA r ta tb):=by intro d s e H Q I h;exact Subscript_ (HW ha hb I h λv u f x y m l i g q=>k a b d f e m x y v u Q l i g q (j _ _))
def Ks(K:Bn):R2:=λx y H Q=>∃p xs i v,x=.ref p/\y=.int i/\Tw K H p xs/\mS xs i=cL v/\Q v H
def wM(K:Bn):R2:=λx y H Q=>∃p xs i v,x=.ref p/\y=.int i/\Tj K H p xs/\mS xs i=cL v/\Q v H
def KF:R2:=λx y H Q=>∃z i c,x=.str z/\y=.int i/\z.length<=Pd/\mS z.cps.toList i=cL c/\Q (.str ⟨#[c]⟩) H
theorem DW:XF X (Ks X.K):=by
 intro f g d s n H x y v u Q I A o h l;obtain⟨p,xs,i,z,rfl,rfl,B,E,q⟩:=h;cases A;obtain⟨t,rfl⟩:=o;obtain⟨M,r,pl,N⟩:=I.list B;obtain⟨j,h1,J,O,G,F⟩:=pK E;obtain⟨w,m,L⟩:=r.get J;have C:=r.length;have hn:=nR;have e:EP X d n Q w s:=⟨z,H,I,L,q⟩;by_cases h0:0<=i
 .have k:i.toNat=j:=by
   rw[seqIndex_of h0 F]at h1;exact Pr h1
  exact item_listR pl.isList h0 (by ext) (by rw[k];simpa using m) e l
 .have k:(i+(M.toArray.size:Int)).toNat=j:=by
   rw[seqIndex_neg (by ext) G]at h1;rw[O8,<-C];exact Pr h1
  exact subscriptTail_builtinR pl.isList.typeIs YN.lookup
   (wpAny_getItem_list_neg pl.isList (by ext) (by rw[O8]<;>ext) (by ext) (by rw[k];simpa using m) ⟨rfl,e⟩) l
theorem zS:XF X (wM X.K):=by
 intro e f d s k H x y v u Q I m l h n;obtain⟨p,xs,i,z,rfl,rfl,o,B,q⟩:=h;cases m;obtain⟨t,rfl⟩:=l;obtain⟨N,r,pl,G⟩:=I.tuple o;obtain⟨j,h1,C,M,L,J⟩:=pK B;obtain⟨w,E,F⟩:=r.get C;have A:=r.length;have hn:=nR;have g:EP X d k Q w s:=⟨z,H,I,F,q⟩;exact subscriptTail_builtinR pl.typeIs slot_tuple_getitem.lookup
  (getItem_tuple pl (by ext) (by ext) (by rw[O8,<-A];exact h1) (by simpa using E) ⟨rfl,g⟩) n
theorem GJ:XF X KF:=by
 intro d e f s w H x y v u Q I k g h l;obtain⟨z,i,c,rfl,rfl,B,n,q⟩:=h;obtain⟨t,rfl⟩:=k;obtain⟨A,rfl⟩:=g;obtain⟨j,h1,r,C,p,o⟩:=pK n;have m:z.cps.toList.length=z.length:=by simp[Str.length]
 rw[m]at h1 p o;have hn:=nR;exact tail_any (Vu s z t) slot_str_getitem.lookup (getItem_str (by have e1:decide (i< -(2^63:Int))=OP:=a7 (by ext);have e2:decide (i≥2^63)=OP:=a7 (by ext);rw[e1,e2,Bool.or_false]) (by rw[h1];simpa using r) ⟨.str ⟨#[c]⟩,H,I.tok _,⟨_,rfl⟩,q⟩) l
def Ms(K:Bn):R2:=λx y H Q=>Ks K x y H Q\/wM K x y H Q\/KF x y H Q
theorem IM:XF X (Ms X.K):=DW.or (zS.or GJ)
theorem oZ(lo hi:cj Int)(n:Nat):(sliceBounds lo hi CL n).1=((HT.sIx n 0 lo:Nat):Int)/\(sliceBounds lo hi CL n).2.1=((HT.sIx n n hi:Nat):Int)/\(sliceBounds lo hi CL n).2.2=1:=by
 refine⟨?_,?_,rfl⟩
 .cases lo with
  |none=>simp[sliceBounds,HT.sIx]
  |some i=>
   simp only[sliceBounds,HT.sIx,Wh,show(1:Int)>0 by decide,if_true];by_cases h:i<0
   .simp only[h,if_true]<;>ext
   .simp only[h,if_false]<;>ext
 .cases hi with
  |none=>simp[sliceBounds,HT.sIx]
  |some i=>
   simp only[sliceBounds,HT.sIx,Wh,show(1:Int)>0 by decide,if_true];by_cases h:i<0
   .simp only[h,if_true]<;>ext
   .simp only[h,if_false]<;>ext
theorem mh(d:cc OC)(lo hi:cj Int):slicePick d.toArray lo hi CL=((d.drop (HT.sIx d.length 0 lo)).take (HT.sIx d.length d.length hi - HT.sIx d.length 0 lo)).toArray:=by obtain⟨h1,f,e⟩:=oZ lo hi d.toArray.size;unfold slicePick;rw[h1,f,e];simp only[sliceRange_one,pick_run,O8]<;>rfl
def LP(K:Bn):V->cj Int->cj Int->Hp->VK->Prop:=λx lo hi H Q=>∃a xs,x=.ref a/\Tw K H a xs/\∀p,H p=CL->Q (.ref p) (upd H p (.lst (w9 xs lo hi)))
theorem De:GU X (LP X.K):=by intro e s m H x v o n lo hi p Q I g l pl i h;obtain⟨a,xs,rfl,k,q⟩:=h;cases g;obtain⟨u,r,f,j⟩:=I.list k;have d:=r.length;refine⟨"list",_,YN.lookup,f.isList.typeIs,?_⟩;refine wpAny_getItem_list_slice f.isList l pl i .none (by simp) ?_ (by rw[O8]<;>ext);rw[mh,<-d];refine⟨.ref s.heap.objs.size,_,I.laid (λb t q=>c0 _ q) (OJ _) ?_,rfl,q _ (I.QX.fresh (OJ _))⟩;exact⟨OZ (j7 xs lo hi) j,_,0,(r.drop (HT.sIx xs.length 0 lo)).take (HT.sIx xs.length xs.length hi - HT.sIx xs.length 0 lo),c4 _ rfl⟩
theorem nA:fy X (.type "list") (λxs H Q=>∃p ys,xs=[.ref p]/\(Tw X.K H p ys\/Tj X.K H p ys)/\∀l,H l=CL->Q (.ref l) (upd H l (.lst ys))):=by
 intro j s E H xs G Q I r h;obtain⟨p,ys,rfl,t,q⟩:=h;obtain⟨u,rfl,F⟩:=lI r;cases F
 have z:∀(f:cc OC),Vals ys f->ys.length<=Pd->∀(d:Heap) (i:Nat),(∀b o',s.heap.get? b=cL o'->d.get? b=cL o')->
   d.get? s.heap.objs.size=cL {cls:=.type "list",dict:=CL,data:=.seq f.toArray i,slots:= #[]}->EP X j E Q (.ref s.heap.objs.size) {s with heap:=d}:=λf g m d i k e=>
  ⟨.ref s.heap.objs.size,_,I.laid k (OJ _) (show Qt X.prog X.w _ d _ (.lst ys)from⟨m,f,i,g,e⟩),rfl,q _ (I.QX.fresh (OJ _))⟩
 rcases t with t|t
 .obtain⟨f,g,pl,m⟩:=I.list t;have v:=g.length;obtain⟨o,A,C,n,B⟩:=pl.isList;exact acI p (.inl rfl) A C B (λd i k e=>z f g m d i k e) (by simp only[O8]<;>ext)
 .obtain⟨f,g,pl,m⟩:=I.tuple t;have v:=g.length;obtain⟨o,A,C,n,B⟩:=pl;exact acI p (.inr rfl) A C B (λd i k e=>z f g m d i k e) (by simp only[O8]<;>ext)
theorem l8:fy X (.type "tuple") (λxs H Q=>∃p ys,xs=[.ref p]/\((Tw X.K H p ys/\∀l,H l=CL->Q (.ref l) (upd H l (.tup ys)))\/(Tj X.K H p ys/\Q (.ref p) H))):=by
 intro g s A H xs B Q I r h;obtain⟨p,ys,rfl,h⟩:=h;obtain⟨u,rfl,n⟩:=lI r;cases n;rcases h with⟨f,q⟩|⟨f,q⟩
 .obtain⟨k,d,pl,i⟩:=I.list f
  have j:=d.length;refine call_tuple_list pl.isList (λv t=>?_) (by simp only[O8]<;>ext);have m:=I.kept (t':=s.toks) t
  have z:=
   m.laid (t':=s.toks) (λb o e=>c0 _ e) (OJ _) (show Qt X.prog X.w _ _ _ (.tup ys)from⟨i,k,d,Ui.new _ _⟩)
  exact⟨.ref v.objs.size,_,z,rfl,q _ (m.QX.fresh (OJ _))⟩
 .obtain⟨k,d,pl,i⟩:=I.tuple f;exact call_tuple_same pl ⟨.ref p,H,I,rfl,q⟩
def Np(K:Bn)(T:String)(x:V)(H:Hp):Prop:=match x with
 |.str _=>T= "str"
 |.int _=>T= "int"
 |.ref p=>(T= "list"/\∃xs,Tw K H p xs)\/(T= "tuple"/\∃o,K.lookup p=cL o/\o.cls=.type "tuple"/\o.dict=CL)\/
   (T= "dict"/\((∃PL,H p=cL (.dK PL))\/∃PL,H p=cL (.dT PL)))\/(T= "set"/\∃S n,H p=cL (.set S n))
 |_=>False
theorem Ix(I:Inv X pins σ H s)(r:RelV x v)(ty:Np X.K T x H):
  s.TypeIs v T/\∀a,v=.ref a->∃ob,s.heap.get? a=cL ob/\ob.dict=CL:=by
 cases x with
 |str z=>obtain⟨t,rfl⟩:=r;cases(show T= "str" from ty);exact⟨Vu s z t,λ_ e=>nomatch e⟩
 |int i=>obtain⟨t,rfl⟩:=r;cases(show T= "int" from ty);exact⟨RU s i t,λ_ e=>nomatch e⟩
 |ref p=>
  cases r;rcases ty with⟨rfl,xs,h⟩|⟨rfl,o,d,j,g⟩|⟨rfl,d⟩|⟨rfl,S,n,d⟩
  .obtain⟨k,_,pl,_⟩:=I.list h;refine⟨pl.isList.typeIs,λa e=>?_⟩;cases e;obtain⟨o,n,e,c,g,_⟩:=pl;exact⟨o,e,g⟩
  .refine⟨⟨o,I.V2 p o d,j⟩,λa e=>?_⟩;cases e;exact⟨o,I.V2 _ o d,g⟩
  .have z:∃o,s.heap.get? p=cL o/\o.ExactDict:=by
    rcases d with⟨PL,d⟩|⟨PL,d⟩
    .obtain⟨_,_,_,_,o,_,_,e,f,_⟩:=I.QX p _ d;exact⟨o,e,f⟩
    .obtain⟨_,_,_,_,o,_,_,e,f,_⟩:=I.QX p _ d;exact⟨o,e,f⟩
   obtain⟨o,e,f⟩:=z;refine⟨⟨o,e,f.1⟩,λa e2=>?_⟩;cases e2;exact⟨o,e,f.2.1⟩
  .obtain⟨o,_,_,_,e,f,_⟩:=I.QX p _ d;refine⟨⟨o,e,f.1⟩,λa e2=>?_⟩;cases e2;exact⟨o,e,f.2.1⟩
 |_=>exact False.elim ty
def Kd(K:Bn)(T:String)(r:V->cc V->Hp->VK->Prop)(f:TE)(t:TA):TE:=λd H Q=>f d H λx e=>Np K T x e/\t d e λxs g=>r x xs g Q
variable{o e:Po}{es:cc Po}{to:TE}{t:TA}{name:Str}{Z Y:Pos}{T U:String}{r:V->cc V->Hp->VK->Prop}
theorem LZ(z:PlainAttrs T)(slot:Slot T name U)(g:typeOf (.builtin U)=pure (.type "method_descriptor"))(hm:L7 X U r)(B:PE X o to)(ha:PA X (e::es) t)
  (G:attributeBase o name X.env (eval o X.env)=eval o X.env:=by rfl)
  (i:((backTo Y (PZ (e::es) X.env)).all (λx=> !x.1)&&(backToKw Y (keywordEach [] X.env)).all (λx=>x.1.isSome)
   &&decide ((e::es).length+([]:cc TF).length+(if([]:cc TF).isEmpty then 0 else 1)<30))=OG:=by rfl)
  (F:(Z.endLine==Y.line)=OG:=by rfl) (A:PZ (e::es) X.env=(OP,eval e X.env)::PZ es X.env:=by rfl) (E:(backTo Y (PZ es X.env)).any (·.1)=OP:=by rfl):
  PE X (.Call (.Attribute o name Z) (e::es) [] Y) (Kd X.K T r to t):=by
 intro d s f H Q I h;refine wpAny_Call_method_late G i F rfl (bK (B d s f H _ I h) λv p ⟨x,M,l,j,ty,w⟩=>?_);obtain⟨h1,C⟩:=Ix l j ty;refine⟨T,U,z,slot,g,h1,C,?_⟩;have k:=ha Y d p f M _ l w;rw[A]at k⊢;refine Calls.callWith_builtin (by show(OP||(backTo Y (PZ es X.env)).any (·.1))=OP;rw[E]<;>rfl) (Calls.evalArgs_plain ?_);exact bK k λm n ⟨vs,L,J,q,u⟩=>hm d n f L x vs v m Q J j q u
end
def Ou(X:Cx)(id:String)(r:V->cc V->Hp->VK->Prop):Prop:=
 ∀(a:cc (OL×Obj)) (s:OK) (b:St) (H:Hp) (x:V) (xs:cc V) (v:OC) (d:cc OC) (Q:VK),Inv X a b H s->RelV x v->Vals xs d->r x xs H Q->
  wpAny (model X.prog X.w) X.A (call (.builtin id) (v::d)) (EP X a b Q) X.xe s
theorem Vals.one:∀{x:V} {a:cc OC},Vals [x] a->∃u,a=[u]/\RelV x u
 |_,_,.cons r .nil=>⟨_,rfl,r⟩
theorem Vals.rep(h:Vals xs us):∀k:Nat,Vals (ON k xs).flatten (ON k us).flatten
 |0=>.nil
 |k+1=>by rw[Qh,Qh,Rm,Rm];exact Vals.append h (Vals.rep h k)
theorem jF(a:cc OC):∀(k:Nat) (acc:cc OC),
  Td (λx1 x2=>x1++x2) acc.toArray (ON k a.toArray)=(acc++(ON k a).flatten).toArray
 |0,acc=>by simp
 |k+1,acc=>by
  have e:acc.toArray++a.toArray=(acc++a).toArray:=by simp
  have e2:(acc++a)++(ON k a).flatten=acc++(ON (k+1) a).flatten:=by rw[Qh,Rm,Pj]
  rw[<-e2,<-jF a k (acc++a),<-e,Qh,Th]
section
variable{X:Cx}{Z:cc (OL×Obj)}{Y:St}{H:Hp}{s:OK}{l b:OL}{xs ys zs:cc V}
theorem Inv.acF{d a:cc OC}(I:Inv X Z Y H s)(k:H l=cL (.lst xs))
  (e:s.heap.get? l=cL {cls:=.type "list",data:=.seq d.toArray n}) (i:f d.toArray=a.toArray) (g:Vals ys a) (hz:ys.length<=Pd):
  Inv X Z Y (upd H l (.lst ys)) {s with heap:=s.heap.update l (Obj.mapSeq f),toks:=t'}:=by
 have q:=adT e f;rw[i]at q;refine I.write (by rw[k];exact trivial) (.inl rfl) (λm u j h=>(c5 s.heap (Obj.mapSeq f) (ee j)).trans h) ⟨_,q⟩ ?_;exact⟨hz,a,_,g,q⟩
theorem Inv.Zs(I:Inv X Z Y H s)(a:Vals ys Qe)(hz:ys.length<=Pd):
  Inv X Z Y (upd H s.heap.objs.size (.lst ys)) {s with heap:=s.heap.push {cls:=.type "list",data:=.seq Qe.toArray},toks:=t'}:=
 I.laid (λ_ _ q=>c0 _ q) (OJ _) ⟨hz,Qe,0,a,c4 _ rfl⟩
theorem Inv.fresh(I:Inv X Z Y H s):H s.heap.objs.size=CL:=I.QX.fresh (OJ _)
theorem Inv.Zz(I:Inv X Z Y H s)(d:H l=cL (.lst xs)):xs.length<=Pd/\∃(a:cc OC) (n:Nat),Vals xs a/\xs.length=a.length/\s.heap.get? l=cL {cls:=.type "list",data:=.seq a.toArray n}:=by obtain⟨z,a,n,r,e⟩:=I.QX l _ d;exact⟨z,a,n,r,r.length,e⟩
theorem Ay(h:n<=Pd):Pb.List.listTooLong n=OP:=by unfold Pb.List.listTooLong;exact a7 (by ext)
end
section
variable{X:Cx}
def nF:V->cc V->Hp->VK->Prop:=λx vs H Q=>∃l xs y,x=.ref l/\vs=[y]/\H l=cL (.lst xs)/\xs.length<Pd/\Q .Se (upd H l (.lst (xs++[y])))
theorem jS:Ou X "list.append" nF:=by intro a s i H x vs v j Q I d rv h;obtain⟨l,xs,y,rfl,rfl,b,k,q⟩:=h;cases d;obtain⟨u,rfl,f⟩:=rv.one;obtain⟨z,g,n,r,m,e⟩:=I.Zz b;refine TH F.slot_list_append ⟨_,e,rfl⟩ F.entry_list_append (F.args_list_append_2 _ _) (PySem.list_append l g.toArray n u (by rw[O8];ext)) ⟨e,?_⟩;refine⟨.Se,_,I.acF b e (by simp) (r.append (.cons f .nil)) ?_,rfl,q⟩;rw[OO,P8];ext
theorem uX(xs:cc α)(k:Nat):(ON k xs).flatten.length=k*xs.length:=by
 induction k with
 |zero=>simp
 |succ k a=>rw[Qh,Rm,OO,a,Zi,Nat.add_comm]
end
section
variable{prog:Pa}{w:Pz}{A:Pp}{E:OC->OK->Prop}{s:OK}
set_option maxRecDepth 100000 in
end
end L2
namespace Att
open PySem PySem.W PySem.Calls PyProof.Rows
theorem kl:∀(d:cc Int) (vs:cc OC),WellAll P h vs (d.map WData.int)->IntsAre vs d:=by
 intro d
 induction d with
 |nil=>intro vs w;rw[Pq]at w;cases w;exact .nil
 |cons n d e=>
  intro vs w;rw[OM]at w;cases w with
  |cons a b=>cases a;exact .cons _ _ (e _ b)
theorem xQ{l:OpenLaw}(hn:l.most=cL n)
  (m:l.row.toRowW.claim.pre args=OG) (g:WellAll P h vals args):
  ∃a vs ns,vals=[OC.ref a]/\args=[WData.list (ns.map WData.int)]/\h.get? a=cL {cls:=.type "list",data:=.seq vs.toArray}/\IntsAre vs ns/\ns.length<=n:=by
 have i:=(pre_splitW m).1;have k:l.pre.holds [] {args:=args}=OG:=(pre_splitW m).2;obtain⟨d,r,rfl,h1,w⟩:=hasAllW_cons i;obtain rfl:=hasAllW_nil w;obtain⟨xs,rfl,v⟩:=hasW_list h1;obtain⟨ns,rfl⟩:=items_int v;have b:ns.length<=n:=by
  unfold OpenLaw.pre at k;have f:(WTm.not (.lt (.lit (.int (n:Int))) (.len (.arg 0)))).holds [] {args:=[.list (ns.map .int)]}=OG:=by have f:=(holds_andW k).1;rw[hn]at f;exact f
  have e:=condW_of f (w_not (w_lt w_lit (w_len_list (w_arg rfl))));rw[OH]at e;refine Q7 λq=>?_;have t:(n:Int)<((ns.length:Nat):Int):=by ext
  first
   |(rw[a6 t]at e;exact cb e (by decide))
   |(simp at e;ext)
 cases g with
 |cons p o=>
  cases o;cases p with
  |list u j=>exact⟨_,_,ns,rfl,rfl,u,kl ns _ j,b⟩
theorem xg(l:OpenLaw)(args:cc WData):l.row.toRowW.claim.post args (.bool OG) args=OG:=
 postW_of
  (show WShape.has [] (.bool OG) .bool=OG by first|rfl|decide|simp[WShape.has,WShape.arms,WShape.armsAll])
  (show(WTm.eq .res (.lit (.bool OG))).value [] {args:=args,res:=cL (.bool OG),after:=args}=cL (.bool (OG==OG))from w_eq_bool (w_res rfl) w_lit) rfl
theorem attach_call{l:OpenLaw}{n:Nat}{q:Pa}{e:cc Str}{C:(Str->cj OC)->Heap->Prop}{B:Pz->Heap->Prop}{d:DefRec}
  (hn:l.most=cL n) (u:d.params.defaults=[])
  (call:∀(w:Pz) (s₀ b:OK) (mg mb:Str->cj OC) (fa:OL) (o:Obj) (m k h:OC) (a:OL) (vs:cc OC) (j:cc Int),
   Ground q e [] C w s₀ mg mb b.heap->B w b.heap->
   b.heap.get? fa=cL o->o.data=.func (docDef d.name d.params d.body d.scope m k h)->b.heap.CodeRec k d.name->mg d.name=cL (.ref fa)->
   b.heap.get? a=cL {cls:=.type "list",data:=.seq vs.toArray}->IntsAre vs j->j.length<=n->b.gens= #[]->
   codeAny (model l.prog w) callerA (.call (.ref fa) ⟨[.ref a],[]⟩) (λr s'=>r=.ok (.ret (.bool OG))/\OldK b.heap s'.heap/\s'.os=b.os/\AllBare s'.gens) b):
  WalkO q e C B l.row.toRowW d [] (λf vs=>Zj f vs):=by
 intro w s₀ b mg mb G Y fa o m k h O kV H K T z t J A v as S P E p I;obtain rfl:O=.none:=Dflts.none z u;obtain rfl:kV=.none:=Dflts.noKw z;obtain⟨a,vs,j,rfl,rfl,Q,g,i⟩:=xQ hn S p;refine enter_call (Wr (call w s₀ b mg mb fa o m k h a vs j G Y H (fd_plain K) T t Q g i J) λr s' F=>?_);obtain⟨rfl,N,M,L⟩:=F;exact⟨.inl ⟨.bool OG,.bool OG,[],rfl,λ_=>rfl,.bool OG,xg l _,λ_=>⟨UL,λ_ hm=>(nomatch hm)⟩⟩,N,M,L⟩
end Att
namespace L2
open PySem PySem.Spec PyProof.Rows
theorem nr:∀{vs:cc OC} {a:cc Int},IntsAre vs a->Vals (a.map V.int) vs
 |_,_,.nil=>.nil
 |_,_,.cons n t h=>.cons ⟨t,rfl⟩ (nr h)
def Kx(H:Hp):Prop:=∀b,H b=CL\/∃o xs,H b=cL (.frz o (.lst xs))
theorem yh{P:Pa}{w:Pz}{K:Bn}{mg mb:Str->cj OC}{Q:pY}{k:Nat}{fa a:OL}{fd:Qx}{x:Str}{sp:Sp}{f:OK}{vs:cc OC}{l:cc Int}
  (O:K.In f.heap) (N:f.heap.Ns PK mg) (hb:f.heap.Ns builtinsNs mb) (B:∀x:Str,x≠ "__name__"->mb x=Qd x) (YB:f.heap.NoLimit) (Z:f.gens= #[])
  (ha:f.heap.get? a=cL {cls:=.type "list",data:=.seq vs.toArray}) (hi:IntsAre vs l) (J:l.length<=Pd) (Y:RK k callerA)
  (F:∀base:Heap,K.In base->base.Ns PK mg->FnOk P w K mg base Q k fa fd [x] sp) (WO:∀(s:OK) (u:OC),T8 s fd ⟨[u],[]⟩ [(x,u)])
  (Y7:∀H:Hp,Kx H->Tw K H a (l.map V.int)->sp [.ref a] H (λv _=>v=.bl OG) λ_ _ _=>False)
  (C:∀H e s',Q [] H f (λ_ _ _=>False) e s'->False):
  codeAny (model P w) callerA (.call (.ref fa) ⟨[.ref a],[]⟩) (λr s'=>r=.ok (.ret (.bool OG))/\OldK f.heap s'.heap/\s'.os=f.os/\AllBare s'.gens) f:=by
 have rv:=nr hi;have G:=hi.length
 have i:∀H:Hp,Kx H->Tw K H a (l.map V.int)->Ub P w H f.heap->(∀b,H b≠CL->b=a)->(H a≠CL->K.lookup a=CL)->
   codeAny (model P w) callerA (.call (.ref fa) ⟨[.ref a],[]⟩) (λr s'=>r=.ok (.ret (.bool OG))/\OldK f.heap s'.heap/\s'.os=f.os/\AllBare s'.gens) f:=by
  intro H L hS QX M hK;have gv:∀{b:OL} {o:Obj},f.heap.get? b=cL o->H b=CL->(oG f.heap H).get? b=cL o:=λe n=>AK e n;have Zy:∀{b:OL} {o:Obj} {es:Array QB} {t:Nat},f.heap.get? b=cL o->o.data=.dict es t->H b=CL:=λ{b o es t} e d=>by
   cases q:H b with
   |none=>rfl
   |some u=>have E:b=a:=M b (by rw[q];simp);subst E;rw[ha]at e;cases e;have d':Data.seq vs.toArray _=Data.dict es t:=d;cases d'
  have g:∀{b:OL} {m:Str->cj OC},f.heap.Ns b m->(oG f.heap H).Ns b m:=λ{b m} ⟨o,es,t,e,d,r⟩=>⟨o,es,t,gv e (Zy e d),d,r⟩;have p:K.In (oG f.heap H):=λb o e=>gv (O b o e) (by
   cases q:H b with
   |none=>rfl
   |some u=>have E:b=a:=M b (by rw[q];simp);subst E;rw[hK (by rw[q];simp)]at e;cases e)
  have hM:Mod K mg (oG f.heap H):=⟨p,g N,⟨mb,g hb,B⟩,let⟨mc,h1,h2⟩:=YB;⟨mc,g h1,h2⟩⟩;have e0:XU P w K mg (oG f.heap H) callerA [] f H:=⟨rfl,hM,λb o e=>ET e,Zk (xh _ _),trivial,λb hb=>cb (show b∈([]:cc OL)from hb) (by simp),QX,.of_eq Z⟩;refine Wr ((F _ p (g N)).run callerA [] f H ⟨[.ref a],[]⟩ [.ref a] [.ref a] _ _ Y e0 (WO f (.ref a)) (.cons rfl .nil) (Y7 H L hS)) λr s' h=>?_;cases r with
  |error e=>exact(C H e s' h).elim
  |ok fl=>
   cases fl with
   |next=>exact False.elim h
   |brk=>exact False.elim h
   |cont=>exact False.elim h
   |ret u=>
    obtain⟨v,H',X,A,un,I,T,q⟩:=h;have U:v=.bl OG:=q;subst U;obtain rfl:u=OC.bool OG:=T;refine⟨rfl,OldK.of_keep λb o e=>?_,X,A⟩;cases q:H b with
    |none=>exact un.keep b o e q (by intro z;exact cb (show b∈([]:cc OL)from z) (by simp)) (by simp)
    |some u=>
     rcases L b with z|⟨ob,xs,z⟩
     .rw[q]at z;cases z
     .have S:=un.UK b ob _ z;obtain⟨e1,_⟩:=QX b _ z;obtain⟨e2,_⟩:=I b _ S;rw[e]at e1;cases e1;exact e2
 cases hk:K.lookup a with
 |some o=>have e:=O a o hk;rw[ha]at e;cases e;refine i (λ_=>CL) (λ_=>.inl rfl) (.inr ⟨_,vs.toArray,_,hk,rfl,rfl,rfl,by rw[O8,G];exact J,by simpa using rv⟩) (λb u z=>by have j:(CL:cj HO)=cL u:=z;cases j) (λb z=>cb rfl z) λz=>cb rfl z
 |none=>
  refine i (λb=>if b=a then cL (.frz {cls:=.type "list",data:=.seq vs.toArray} (.lst (l.map V.int)))else CL) (λb=>?_) (.inl (.inr ⟨{cls:=.type "list",data:=.seq vs.toArray},ai rfl⟩)) (λb u z=>?_) (λb z=>?_) λ_=>hk
  .by_cases hb:b=a
   .exact .inr ⟨_,_,ai hb⟩
   .exact .inl (ak hb)
  .by_cases hb:b=a
   .have j:=(ai hb).symm.trans z;cases j;subst hb;exact⟨ha,by rw[OH];exact J,vs,_,rv,ha⟩
   .have j:=(ak hb).symm.trans z;cases j
  .by_cases hb:b=a
   .exact hb
   .exact cb (ak hb) z
def ir(s:Rk):Arguments:=match s with
 |.FunctionDef _ a _ _ _ _ _ _ _ _=>a
 |_=>{posonlyargs:=[],args:=[],vararg:=CL,kwonlyargs:=[],kw_defaults:=[],kwarg:=CL,defaults:=[]}
def cF(s:Rk):cc Rk:=match s with
 |.FunctionDef _ _ b _ _ _ _ _ _ _=>b
 |_=>[]
def aw(s:Rk):Q1:=match s with
 |.FunctionDef _ _ _ _ _ _ sc _ _ _=>sc
 |_=>{kind:=.function,names:=[],isGenerator:=OP,isCoroutine:=OP}
abbrev jC:pY:=λ_ _ _ _ _ _=>False
abbrev E0:XK:=λ_ _ _=>False
theorem LQ:jJ jC X E0:=λ_ _ _ _ _ _ _ h=>h.elim
structure Vk(K:Bn)(x qual:Str)(st:Rk)(f:OL)(fd:Qx):Prop where
 ex:∃(oc:OC) (od:cj OL) (kV doc pm:OC) (an:cj OL) (RD ct:OC) (WG:Array (cj OC)),
  fd=Rq x qual (ir st) (cF st) (aw st) .none kV doc pm an RD ct/\K.lookup f=cL ⟨oc,od,.func fd,WG⟩/\Tf K RD qual=OG
 kp:Q0 K (.ref f)=OG
section
variable{P:Pa}{w:Pz}{K:Bn}{mg:Str->cj OC}{base:Heap}
theorem Vk.ok{x a:Str}{st:Rk}{f:OL}{fd:Qx}{N ps:cc Str}{k:Nat}{sp:Sp}(F:Vk K x a st f fd)(S:Sa N ps (aw st))(len:∀vs H Q E,sp vs H Q E->vs.length=ps.length)
  (l:∀(b:OC) (A:Pp) (outer:cc Env) (s:OK) (H:Hp) (vs:cc V) (Q:VK) (E:XK),RK k (A.deeper (envOfC a (aw st) s.heap.objs.size f b))->sp vs H Q E->
   ∃t,UY (iz jC P w K mg base N a (aw st) f b A outer s H E).Xp (cF st) t/\t {nx:=λ_ H'=>Q .Se H',rt:=Q} (start N vs) H):FnOk P w K mg base jC (k+1) f fd ps sp:=by
 obtain⟨o,n,kV,g,m,p,b,ct,r,rfl,d,j⟩:=F.ex;refine LO d j S len λA outer s H vs Q E e i=>?_;obtain⟨t,h,q⟩:=l b A outer s H vs Q E e i;exact⟨t,h.Xp,q⟩
theorem Vk.binds{x a:Str}{st:Rk}{f:OL}{fd:Qx}{ps:cc Str}(F:Vk K x a st f fd)
  (h:∀(kV b e:OC) (g:cj OL) (i ct:OC) (d:cc OC),d.length=ps.length->bindArgs (Rq x a (ir st) (cF st) (aw st) .none kV b e g i ct) ⟨d,[]⟩=pure (ps.zip d)):Binds K fd ps []:=by
 obtain⟨k,j,kV,b,e,g,i,ct,n,rfl,l,m⟩:=F.ex;exact .all (h kV b e g i ct)
theorem Bc{st:Rk}{kV a d b ct:OC}(l:K.lookup f=cL ⟨oc,od,.func (Rq x qual (ir st) (cF st) (aw st) .none kV a d an b ct),WG⟩)
  (c:Tf K b qual=OG) (k:Q0 K (.ref f)=OG):Vk K x qual st f (Rq x qual (ir st) (cF st) (aw st) .none kV a d an b ct):=⟨⟨oc,od,kV,a,d,an,b,ct,WG,rfl,l,c⟩,k⟩
end
def QL(H H':Hp):Prop:=∀b o,H b=cL o->H' b=cL o
theorem QL.refl(H:Hp):QL H H:=λ_ _ h=>h
theorem QL.trans(a:QL H H1)(b:QL H1 H2):QL H H2:=λc o h=>b c o (a c o h)
theorem QL.free(e:QL H H')(h:H' l=CL):H l=CL:=by
 cases q:H l with
 |none=>rfl
 |some o=>rw[e l o q]at h;cases h
end L2
set_option maxHeartbeats 4000000
namespace L2
open PySem PySem.Spec PyProof.Rows
mutual
inductive DV(K:Bn)(H:Hp):V->OD->Prop
 |Se:DV K H .Se .none
 |bl (b:Bool):DV K H (.bl b) (.bool b)
 |int (i:Int):DV K H (.int i) (.int i)
 |str (x:Str):DV K H (.str x) (.str x)
 |tup {a:OL} {xs:cc V} {ds:cc OD}:Tj K H a xs->QC K H xs ds->DV K H (.ref a) (.tuple ds)
 |lst {a:OL} {xs:cc V} {ds:cc OD}:Tw K H a xs->QC K H xs ds->DV K H (.ref a) (.list ds)
inductive QC(K:Bn)(H:Hp):cc V->cc OD->Prop
 |nil:QC K H [] []
 |cons {v:V} {vs:cc V} {d:OD} {ds:cc OD}:DV K H v d->QC K H vs ds->QC K H (v::vs) (d::ds)
end
section
variable{X:Cx}{Z:cc (OL×Obj)}{σ:St}{H:Hp}{s:OK}
mutual
theorem DV.reads(I:Inv X Z σ H s):∀{v:V} {d:OD} {u:OC},DV X.K H v d->RelV v u->∃as,QV s.heap u d as
 |_,_,_,.Se,r=>by cases r;exact⟨_,.none⟩
 |_,_,_,.bl b,r=>by cases r;exact⟨_,.bool b⟩
 |_,_,_,.int i,r=>by obtain⟨t,rfl⟩:=r;exact⟨_,.int i t⟩
 |_,_,_,.str x,r=>by obtain⟨t,rfl⟩:=r;exact⟨_,.str x t⟩
 |_,_,_,.tup h hs,r=>by cases r;obtain⟨a,rv,⟨o,e,c,n,d⟩,_⟩:=I.tuple h;obtain⟨as,q⟩:=QC.reads I hs rv;exact⟨_,.tuple e c d (by simpa using q)⟩
 |_,_,_,.lst h hs,r=>by cases r;obtain⟨a,rv,⟨o,n,e,c,_,d⟩,_⟩:=I.list h;obtain⟨as,q⟩:=QC.reads I hs rv;exact⟨_,.list e c d (by simpa using q)⟩
theorem QC.reads(I:Inv X Z σ H s):∀{vs:cc V} {ds:cc OD} {a:cc OC},QC X.K H vs ds->Vals vs a->∃as,QW s.heap a ds as
 |_,_,_,.nil,r=>by cases r;exact⟨_,.nil⟩
 |_,_,_,.cons h hs,r=>by
  cases r with
  |cons d b=>obtain⟨as,q⟩:=DV.reads I h d;obtain⟨bs,e⟩:=QC.reads I hs b;exact⟨_,.cons q e⟩
end
end
def Dx(K:Bn)(neg:Bool):R2:=λx y H Q=>∃dx dy,DV K H x dx/\DV K H y dy/\dx.canLay0=OG/\dy.canLay0=OG/\dx.depth<=64/\Q (.bl (if neg then !OD.eqv dx dy else OD.eqv dx dy)) H
section
variable{X:Cx}
theorem GF(k:X.A.units+64<cLine):OpR X (QS .Eq) (Dx X.K OP):=by intro a s j H x y v u Q I d b h;obtain⟨dx,m,h1,i,l1,g,l,q⟩:=h;obtain⟨as,f⟩:=h1.reads I d;obtain⟨bs,e⟩:=i.reads I b;exact aa6 f e l1 g (by ext) ⟨.bl _,H,I,rfl,q⟩
theorem Hv(k:X.A.units+64<cLine):OpR X (QS .NotEq) (Dx X.K OG):=by intro a s j H x y v u Q I d b h;obtain⟨dx,m,h1,i,l1,g,l,q⟩:=h;obtain⟨as,f⟩:=h1.reads I d;obtain⟨bs,e⟩:=i.reads I b;exact aa7 f e l1 g (by ext) ⟨.bl _,H,I,rfl,q⟩
theorem zW:OpR X (QJ .FloorDiv) (rI (λ_ j=>0<j/\j.natAbs.log2<9000) λi j=>.int (i/j)):=Mf λi j _ _ _ _ _ a q=>by have h1:(0:Int)<j:=a.1;exact floordiv_int (by ext) (by rw[Int.fdiv_eq_ediv_of_nonneg i (by ext)];exact q) (.inl (PyProof.noPylong_of_log2 a.2))
end
def eA(env:Env):cc (Str×Pg)->cc (Str×OL)->cc (Str×OL)
 |[],acc=>acc
 |(n,k)::r,acc=>if(k==Pg.free)=OG then(match env.cells.lookup n with|some c=>eA env r ((n,c)::acc)|none=>eA env r acc)else eA env r acc
theorem iL{f:Str×Pg->cc (Str×OL)->Sem (ForInStep (cc (Str×OL)))}
  (h1:∀n k acc,(k==Pg.free)=OP->f (n,k) acc=pure (.yield acc)) (a:∀n c acc,env.cells.lookup n=cL c->f (n,.free) acc=pure (.yield ((n,c)::acc))):
  ∀(names:cc (Str×Pg)) (acc:cc (Str×OL)),(∀y∈names,y.2=.free->∃c,env.cells.lookup y.1=cL c)->forIn names acc f=pure (eA env names acc)
 |[],acc,_=>rfl
 |(n,k)::r,acc,h=>by
  have b:=λy g=>h y (OV _ g);rw[Uu];cases hk:(k==Pg.free)with
  |false=>rw[h1 n k acc hk,pure_bind];show forIn r acc f=_;rw[iL h1 a r acc b];simp only[eA,hk,OS,if_false]
  |true=>
   have e:k=.free:=by simpa using hk
   subst e;obtain⟨c,d⟩:=h _ O0 rfl;rw[a n c acc d,pure_bind];show forIn r ((n,c)::acc) f=_;rw[iL h1 a r _ b];have i:=d;simp only[eA,hk,if_true,i]
theorem sW(h:∀y∈scope.names,y.2=.free->∃c,env.cells.lookup y.1=cL c):closureFor scope env=pure (eA env scope.names []):=by simp only[closureFor];rw[iL (λn k a b=>by simp only[b,OS,if_false]) (λn c a d=>by simp only[eF,if_true,cellOf,d,pure_bind]) scope.names [] h,pure_bind]
theorem gQ:∀(names:cc (Str×Pg)) (acc:cc (Str×OL)),(∀x c,acc.lookup x=cL c->env.cells.lookup x=cL c)->∀x c,(eA env names acc).lookup x=cL c->env.cells.lookup x=cL c
 |[],_,h,x,c,e=>h x c e
 |(n,k)::r,acc,h,x,c,e=>by
  unfold eA at e;split at e
  .split at e
   .rename_i f b
    refine gQ r _ (λy d q=>?_) x c e;rw[Qb]at q;split at q
    .rename_i a;cases q;rw[eq_of_beq a];exact b
    .exact h y d q
   .exact gQ r acc h x c e
  .exact gQ r acc h x c e
theorem im:∀(names:cc (Str×Pg)) (acc:cc (Str×OL)) (x:Str),(acc.lookup x).isSome=OG->((eA env names acc).lookup x).isSome=OG
 |[],_,_,h=>h
 |(n,k)::r,acc,x,h=>by
  unfold eA;split
  .split
   .refine im r _ x ?_
    rw[Qb];split
    .rfl
    .exact h
   .exact im r acc x h
  .exact im r acc x h
theorem jb:∀(names:cc (Str×Pg)) (acc:cc (Str×OL)) (x:Str) (c:OL),(x,Pg.free)∈names->env.cells.lookup x=cL c->((eA env names acc).lookup x).isSome=OG
 |[],_,_,_,h,_=>by cases h
 |(n,k)::r,acc,x,c,h,hc=>by
  rcases Pe.mp h with z|h
  .cases z;simp only[eA,eF,if_true,hc];exact im r _ _ (by simp[Qb])
  .unfold eA
   split
   .split
    .exact jb r _ x c h hc
    .exact jb r acc x c h hc
   .exact jb r acc x c h hc
theorem rM(h:(x,Pg.free)∈names)(a:env.cells.lookup x=cL c):(eA env names []).lookup x=cL c:=by
 have q:=jb names [] x c h a;cases e:(eA env names []).lookup x with
 |none=>rw[e]at q;cases q
 |some d=>have z:=gQ names [] (λy d q=>by cases q) x d e;rw[a]at z;exact z.symm
theorem r9{env:Env}{a:Q1}{x:Str}{k:Pg}(h:(relabel a env).names.lookup x=cL k):∃k0,(x,k0)∈a.names/\(k=k0\/(k0=.free/\k=.cell)):=by
 obtain⟨⟨n,k0⟩,hm,e⟩:=OW.mp (QM h);simp only at e;split at e
 .rename_i b
  cases e;have d:(k0==Pg.free)=OG:=by rw[Ld,Ld]at b;exact b.1.1
  exact⟨k0,hm,.inr ⟨by simpa using d,rfl⟩⟩
 .cases e;exact⟨_,hm,.inl rfl⟩
theorem gc{env:Env}:∀{names:cc (Str×Pg)} {x:Str},names.lookup x=cL .free->
  (names.map λ(n,k)=>if(k==Pg.free&&env.scope.kind==.function&&env.kindOf n==cL .cell)then(n,Pg.cell)else(n,k)).lookup x=cL .cell\/
  (names.map λ(n,k)=>if(k==Pg.free&&env.scope.kind==.function&&env.kindOf n==cL .cell)then(n,Pg.cell)else(n,k)).lookup x=cL .free
 |[],_,h=>by cases h
 |(n,k)::r,x,h=>by
  rw[Qb]at h;rw[OM];dsimp only;by_cases a:(k==Pg.free&&env.scope.kind==.function&&env.kindOf n==cL .cell)=OG
  .rw[ai a,Qb]
   cases hx:x==n with
   |true=>exact .inl rfl
   |false=>rw[hx]at h;exact gc h
  .rw[ak a,Qb]
   cases hx:x==n with
   |true=>rw[hx]at h;exact .inr h
   |false=>rw[hx]at h;exact gc h
def b7(own:cc Str)(a:cc (Str×Nat)):cc Str:=own++a.map (·.1)
def dP(own:cc Str)(b:cc (Str×Nat))(a:St):St:=own.map (λ_=>CL)++b.map λp=>(a[p.2]?).join
def Vm(X:Cx)(a:Q1):cc (Str×Nat)->Prop
 |[]=>True
 |p::r=>(X.N[p.2]?=cL p.1/\a.names.lookup p.1=cL .free/\(X.env.scope.names.lookup p.1=cL .cell\/X.env.scope.names.lookup p.1=cL .free))/\Vm X a r
theorem Vm.mem:∀{a:cc (Str×Nat)},Vm X scope a->∀p∈a,X.N[p.2]?=cL p.1/\scope.names.lookup p.1=cL .free/\(X.env.scope.names.lookup p.1=cL .cell\/X.env.scope.names.lookup p.1=cL .free)
 |[],_,p,hp=>by cases hp
 |q::r,h,p,hp=>by
  rcases Pe.mp hp with z|hp
  .rw[z];exact h.1
  .exact h.2.mem p hp
def pX(X:Cx)(a:Q1)(C:OL):cc (Str×OL):=QT (C+1) a.names (eA X.env a.names [])
theorem kK:∀(names:cc (Str×Pg)) (n:Nat) (acc:cc (Str×OL)) (x:Str) (c:OL),(QT n names acc).lookup x=cL c->(n<=c/\(x,Pg.cell)∈names)\/acc.lookup x=cL c
 |[],_,_,_,_,h=>.inr h
 |(y,k)::r,n,acc,x,c,h=>by
  unfold QT at h;by_cases a:(k==Pg.cell)=OG
  .rw[ai a]at h
   have e:k=.cell:=by simpa using a
   rcases kK r _ _ x c h with⟨h1,b⟩|h1
   .exact .inl ⟨SS h1,OV _ b⟩
   .rw[Qb]at h1
    split at h1
    .rename_i d;cases h1;exact .inl ⟨OJ _,by rw[eq_of_beq d,e];exact O0⟩
    .exact .inr h1
  .rw[ak a]at h
   rcases kK r _ _ x c h with⟨h1,b⟩|h1
   .exact .inl ⟨h1,OV _ b⟩
   .exact .inr h1
theorem BV:∀(names:cc (Str×Pg)) (n:Nat) (acc:cc (Str×OL)) (x:Str),(x,Pg.cell)∉names->(QT n names acc).lookup x=acc.lookup x
 |[],_,_,_,_=>rfl
 |(y,k)::r,n,acc,x,h=>by
  have b:=λz=>h (OV _ z);unfold QT;by_cases a:(k==Pg.cell)=OG
  .have e:k=.cell:=by simpa using a
   rw[ai a,BV r _ _ x b,Qb];have d:(x==y)=OP:=by refine beq_eq_false_iff_ne.mpr λz=>h ?_;rw[z,e];exact O0
   rw[d]
  .rw[ak a];exact BV r _ _ x b
theorem kS:∀(names:cc (Str×Pg)) (h:Heap) (acc:cc (Str×OL)) (x:Str) (c:OL),(QT h.objs.size names acc).lookup x=cL c->(h.objs.size<=c/\(pushCells h names).IsCell c CL)\/acc.lookup x=cL c
 |[],_,_,_,_,e=>.inr e
 |(y,k)::r,h,acc,x,c,e=>by
  unfold QT at e;unfold pushCells;by_cases a:(k==Pg.cell)=OG
  .rw[ai a]at e⊢
   rw[<-di h {cls:=.type "cell",data:=.cell CL}]at e;rcases kS r _ _ x c e with⟨h1,b⟩|h1
   .rw[di]at h1;exact .inl ⟨SS h1,b⟩
   .rw[Qb]at h1
    split at h1
    .cases h1;exact .inl ⟨OJ _,_,Vc _ _ _ _ (c4 _ rfl),rfl⟩
    .exact .inr h1
  .rw[ak a]at e⊢;exact kS r _ _ x c e
theorem sO:∀(names:cc (Str×Pg)) (n:Nat) (acc:cc (Str×OL)),(∀x c,acc.lookup x=cL c->c<n)->(∀x y c,acc.lookup x=cL c->acc.lookup y=cL c->x=y)->∀x y c,(QT n names acc).lookup x=cL c->(QT n names acc).lookup y=cL c->x=y
 |[],_,_,_,h2,x,y,c,e1,e2=>h2 x y c e1 e2
 |(z,k)::r,n,acc,h1,h2,x,y,c,e1,e2=>by
  unfold QT at e1 e2;by_cases g:(k==Pg.cell)=OG
  .rw[ai g]at e1 e2
   refine sO r (n+1) ((z,n)::acc) (λa d q=>?_) (λa b d f e=>?_) x y c e1 e2
   .rw[Qb]at q
    split at q
    .cases q;exact QI _
    .exact RY (h1 a d q)
   .rw[Qb]at f e
    split at f
    .rename_i ha
     split at e
     .rename_i h;rw[eq_of_beq ha,eq_of_beq h]
     .cases f;exact cb (h1 b _ e) (Qa _)
    .split at e
     .cases e;exact cb (h1 a _ f) (Qa _)
     .exact h2 a b d f e
  .rw[ak g]at e1 e2;exact sO r n acc h1 h2 x y c e1 e2
theorem tT:∀{names:cc (Str×Pg)} {x:Str} {k a:Pg},(names.map (·.1)).Nodup->names.lookup x=cL k->(x,a)∈names->k=a
 |[],_,_,_,_,h,_=>by cases h
 |(y,j)::r,x,k,a,hn,h,hm=>by
  rw[OM,Qj]at hn;rw[Qb]at h;rcases Pe.mp hm with e|X6
  .cases e;rw[eF]at h;exact(Pr h).symm
  .cases hx:x==y with
   |true=>rw[eq_of_beq hx]at X6;exact cb (OW.mpr ⟨_,X6,rfl⟩) hn.1
   |false=>rw[hx]at h;exact tT hn.2 h X6
def bf(X:Cx)(s:OK)(H:Hp)(a:Q1)(C:OL)(N:cc Str)(fp:cc OL):Cx:=
 {X with N:=N,s₀:=s,H₀:=H,env:=compEnvC a (pX X a C) C X.env,outer:=X.stack,stack:=X.stack,ex:=fp,fn:=λx=>((eA X.env a.names []).lookup x).isNone,pn:=[],xe:=λ_ _=>False}
section
variable{X:Cx}{Z:cc (OL×Obj)}{Y:St}{H:Hp}{s:OK}
theorem mN{a:Q1}(I:Inv X Z Y H s)(e:(eA X.env a.names []).lookup x=cL c):X.env.cells.lookup x=cL c/\c<s.heap.objs.size:=by have h:=gQ _ _ (λ_ _ q=>by cases q) x c e;obtain⟨v,o,z,_⟩:=I.cell x c h;exact⟨h,c3 z⟩
theorem uH(I:Inv X Z Y H s)(J:scope.kind=.function)(B:(scope.names.map (·.1)).Nodup)
  (A:∀y∈scope.names,y.2=.free->∃c,X.env.cells.lookup y.1=cL c) (d:s.heap.objs.size<=C) (g:∀b∈fp,mq X Z H b) (j:∀b∈fp,b<s.heap.objs.size):(bf X s H scope C N fp).Ok where
 mod:=I.ok.mod
 kind:=J
 glob:=I.ok.glob
 blt:=I.ok.blt
 above:=d
 inj:=sO _ _ _ (λx c e=>RY (Pk (mN I e).2 d)) λx y c h1 i=>I.ok.inj x y c (mN I h1).1 (mN I i).1
 has:=λx n=>by
  have F:∃k,(relabel scope X.env).names.lookup x=cL k/\(k=.cell\/k=.free):=by
   rcases n with z|z
   .exact⟨_,z,.inl rfl⟩
   .exact⟨_,z,.inr rfl⟩
  obtain⟨k,u,E⟩:=F;obtain⟨k0,hm,G⟩:=r9 u;have e:k0=.free\/k0=.cell:=by
   rcases G with z|⟨z,_⟩
   .subst z
    rcases E with z|z
    .exact .inr z
    .exact .inl z
   .exact .inl z
  have q:((pX X scope C).lookup x).isSome=OG:=by
   rcases e with e|e
   .subst e;obtain⟨c,v⟩:=A _ hm rfl;exact RJ _ _ _ (.inr (by rw[rM hm v];rfl))
   .subst e
    refine RJ _ _ _ (.inl ?_);cases z:scope.names.lookup x with
    |none=>exact cb hm (λhm=>by
      have:∀{l:cc (Str×Pg)},l.lookup x=CL->(x,Pg.cell)∉l:=λ{l}=>by
       induction l with
       |nil=>exact λ_=>by simp
       |cons p r m=>
        intro h q;rw[Qb]at h;rcases Pe.mp q with q|q
        .rw[<-q,eF]at h;cases h
        .split at h
         .cases h
         .exact m h q
      exact this z hm)
    |some K=>rw[tT B z hm]
  exact QG.mp q
 Y4:=λx c h1 i=>by
  have f:((eA X.env scope.names []).lookup x).isNone=OG:=h1;have w:=i;rcases kK _ _ _ x c w with⟨z,_⟩|z
  .exact OZ d (SS z)
  .rw[z]at f;cases f
 hd:=I.ok.hd
 frames:=I.ok.frames
 ZD:=.inl rfl
 Zt:=λb a=>⟨PN (Pk (j b a) d),λx c e=>by
  rcases kK _ _ _ x c e with⟨z,_⟩|z
  .exact RB (Pk (Pk (j b a) d) (SS z))
  .exact(g b a).2.2.2.2.1 x c (mN I z).1⟩
 bs:=I.bs
 XG:=OZ I.ok.XG I.sz
 V9:=λb o e a=>by
  rcases(g b a).2.2.2.1 with z|z
  .exact I.ok.V9 b o e z
  .exact cb (Pk (c3 e) (OZ I.ok.XG z)) (Qa _)
 V3:=λb a t=>by
  rcases Pe.mp (I.U3 b t)with z|z
  .exact(g b a).2.1 z
  .exact(g b a).2.2.1 z
 Uh:=I.stack
 Yn:=I.U1
theorem AJ(I:Inv X Z Y H s)(Tq:scope.kind=.function)(XI:(scope.names.map (·.1)).Nodup)
  (XS:∀y∈scope.names,y.2=.free->∃c,X.env.cells.lookup y.1=cL c) (Z2:Vm X scope fv) (hD:s.heap.objs.size<=D) (Y1:D<C) (hC:s.heap.objs.size<=C) (hf:∀b∈fp,mq X Z H b) (X4:∀b∈fp,b<s.heap.objs.size)
  (Vr:h1.Ns C m) (Zd:∀x c,(pX X scope C).lookup x=cL c->C<c->∃v,h1.IsCell c v) (hk:∀b o,s.heap.get? b=cL o->h1.get? b=cL o) (hd:∃n,h1.get? D=cL {cls:=.type "list",data:=.seq #[] n}):
  Inv (bf X s H scope C (b7 own fv) fp) [] (dP own fv Y) (upd H D (.lst [])) {s with heap:=h1,toks:=t1}:=by
 have hn:=I.QX.fresh hD;obtain⟨n,hd⟩:=hd;have hCD:=RB Y1;have Xu:∀x c,(pX X scope C).lookup x=cL c->C<c\/(X.env.cells.lookup x=cL c/\c<s.heap.objs.size):=λx c e=>by
  rcases kK _ _ _ x c e with⟨z,_⟩|z
  .exact .inl z
  .exact .inr (mN I z)
 refine⟨uH I Tq XI XS hC hf X4,rfl,I.bare,Un.laid hk hD hn,⟨m,Vr,λi x v e1 e2 e3=>?_⟩,λx c e=>?_,?_,λx c e=>?_,λp hp=>cb (show p∈([]:cc (OL×Obj))from hp) (by simp),?_,?_⟩
 .
  have e1':(own++fv.map (·.1))[i]?=cL x:=e1;have X7:(own.map (λ_=>(CL:cj V))++fv.map λp=>(Y[p.2]?).join)[i]?=cL (cL v):=e2;have hi:own.length<=i:=by
   by_cases hi:i<own.length
   .rw[Pc (by simpa using hi),OT]at X7
    cases q:own[i]? with
    |none=>rw[q]at X7;cases X7
    |some _=>rw[q]at X7;cases X7
   .omega
  rw[Pn hi,OT]at e1';rw[Pn (by simpa using hi),OT,OH]at X7;cases q:fv[i - own.length]? with
  |none=>rw[q]at e1';cases e1'
  |some p=>
   rw[q]at e1' X7;have ex:=Pr e1';subst ex;have ev:(Y[p.2]?).join=cL v:=Pr X7;obtain⟨g1,g2,g3⟩:=Z2.mem p (O9 q);have ev2:Y[p.2]?=cL (cL v):=by
    cases z:Y[p.2]? with
    |none=>rw[z]at ev;cases ev
    |some y=>rw[z]at ev;exact ey cL ev
   obtain⟨m0,_,hl⟩:=I.loc;obtain⟨u,r,l⟩:=hl p.2 p.1 v g1 ev2 (.inr g3);refine⟨u,r,?_⟩;have l2:∃c,X.env.cells.lookup p.1=cL c/\s.heap.IsCell c (cL u):=by
    rcases l with⟨k,_⟩|⟨_,c,e,z⟩
    .have k':X.env.scope.names.lookup p.1=cL .local:=k
     rcases g3 with z|z
     .rw[z]at k';cases k'
     .rw[z]at k';cases k'
    .exact⟨c,e,z⟩
   obtain⟨c,e,o,ho,hdc⟩:=l2;refine .inr ⟨?_,c,?_,o,hk c o ho,hdc⟩
   .exact gc g2
   .show(pX X scope C).lookup p.1=cL c;unfold pX;rw[BV _ _ _ _ λz=>by cases tT XI g2 z];exact rM (QM g2) e
 .rcases Xu x c e with z|⟨z,_⟩
  .exact Zd x c e z
  .obtain⟨v,o,ho,hdc⟩:=I.cell x c z;exact⟨v,o,hk c o ho,hdc⟩
 .show upd H D (.lst []) C=CL;rw[au hCD];exact I.QX.fresh hC
 .show upd H D (.lst []) c=CL
  rcases Xu x c e with z|⟨z1,z2⟩
  .rw[au (RB (Sn Y1 z))];exact I.QX.fresh (OZ hC (Qo z))
  .rw[au (PN (Pk z2 hD))];exact I.TC x c z1
 .exact I.QX.laid hk hD ⟨by show 0<=Pd;exact P0 _,[],n,.nil,hd⟩
 .show(own.map (λ_=>(CL:cj V))++fv.map λp=>(Y[p.2]?).join).length=(own++fv.map (·.1)).length;simp
end
def wL(X:Cx)(d:cc Po)(t:TT):Prop:=
 ∀(a:cc (OL×Obj)) (s:OK) (b:St) (H:Hp) (Q:Bool->Hp->Prop),Inv X a b H s->t b H Q->
  wpAny (model X.prog X.w) X.A (forIn d OG λc r=>if r=OG then do let ok<-isTrue c X.env (eval c X.env);pure (ForInStep.yield ok)else pure (ForInStep.yield r)) (TP X a b Q) X.xe s
def sk:TT:=λ_ H Q=>Q OG H
theorem lW:wL X [] sk:=λ_ _ _ H _ I h=>wpAny_tests_nil ⟨H,I,h⟩
theorem yg(h:PT X c tc):wL X [c] tc:=λa s b H Q I d=>wpAny_tests_one (h a s b H Q I d)
def sr(J:It)(D:OL)(d:St)(g:TG)(h:TT)(te:TE)(k:Hp)(Fin:Hp->Prop):Prop:=
 ∃W:Nat->Nat->St->Hp->Prop,(∃m,W 0 m d (upd k D (.lst [])))/\∀i m σ H,W i m σ H->
  (J.stop i H/\Fin H)\/(J.go i H/\∃N:St->Hp->Prop,(∀σ' H',N σ' H'->∃m',m'<m/\W (i+1) m' σ' H')/\
   ∀x H',J.Y8 i H x H'->g x σ H' λa j=>h a j λb f=>if b=OG then te a f λy e=>∃ys,e D=cL (.lst ys)/\ys.length<Pd/\N a (upd e D (.lst (ys++[y])))else N a f)
section
variable{prog:Pa}{w:Pz}{A:Pp}{s:OK}
theorem xM{elt tg iter:Po}{d:cc Po}{b:Q1}{pos:Pos}{i acc:OC}{env:Env}{R:Yg->OK->Prop}{XE:OC->OK->Prop}(o:∀x s1,XE x s1->notedBy (model prog w) A env (λe s2=>R (.error e) s2) x s1)(I:Nat->OK->Prop)
  (f:∀n s,I n s->wpAny (model prog w) A (pyNext i) (λr s1=>match r with
   |none=>R (.ok .next) s1
   |some v=>wpAny (model prog w) A (letOwnedTupleGo tg i v) (λ_ s2=>wpAny (model prog w) A (assign tg env v) (λ_ s3=>
     wpAny (model prog w) A (forIn d OG λc r=>if r=OG then do let ok<-isTrue c env (eval c env);pure (ForInStep.yield ok)else pure (ForInStep.yield r)) (λok s4=>
      if ok=OG then wpAny (model prog w) A (eval elt env) (λx s5=>
       wpAny (model prog w) A (call (.builtin "list.append") [acc,x]) (λ_ s6=>∃m,m<n/\I m s6) (λ_ _=>False) s5) XE s4
      else∃m,m<n/\I m s4) (λ_ _=>False) s3) (λ_ _=>False) s2) (λ_ _=>False) s1) (λ_ _=>False) s)
  (n:Nat) (h:I n s):codeAny (model prog w) A (.compLoop (.ListComp elt [⟨tg,iter,d,0⟩] b pos) 0 i acc env) R s:=by
 refine codeAny_loop rfl I (λn s p=>?_) n h;show wpAny _ A (Sem.onRaise (compTurn (.ListComp elt [⟨tg,iter,d,0⟩] b pos) 0 i acc env) (λx=>do noteFrame x env;theTreesLotGoes x)) _ _ s;refine wpAny_noted ?_;rw[compTurn_list]
 have g:∀{α:Type} {t:Sem α} {Q l:α->OK->Prop} {E:OC->OK->Prop} {s:OK},wpAny (model prog w) A t Q (λ_ _=>False) s->(∀a s',Q a s'->l a s')->wpAny (model prog w) A t l E s:=
  λh1 j=>wpAny_mono h1 j λ_ _ z=>False.elim z
 refine lD (wpAny_standAt (lD (g (f n s p) λr s1 h1=>?_)));cases r with
 |none=>exact OE h1
 |some v=>
  refine lD (g h1 λ_ s2 j=>lD (g j λ_ s3 B=>lD (g B λok s4 k=>?_)));cases ok with
  |false=>exact OE ⟨rfl,k⟩
  |true=>exact lD (lD (wpAny_mono k (λx s5 u=>lD (g u λ_ s6 q=>OE (OE ⟨rfl,q⟩))) o))
end
section
variable{X:Cx}{Z:cc (OL×Obj)}{Y:St}{H:Hp}{s:OK}
theorem pD
  (h:Q (newEnv scope s.heap.objs.size globals (QT (s.heap.objs.size+1) scope.names closure) qual CL .none (cL env) builtinsNs) {s with heap:=pushCells (s.heap.push {cls:=.type "dict",data:=.dict #[]}) scope.names}):
  wpAny M A (newFunctionEnv scope globals closure [] qual CL .none (cL env)) Q E s:=by
 simp only[newFunctionEnv,Option.isSome_some,if_true];refine lD (wpAny_alloc ?_);refine lD (wpAny_layCells _ (λd a b=>by cases hkc:a==Pg.cell<;>simp[hkc]) _ _ _ _ ?_);rw[show({s with heap:=s.heap.push {cls:=.type "dict",data:=.dict #[]}}:OK).heap.objs.size=s.heap.objs.size+1 from di ..];rw[XX];exact lD (OE (OE h))
theorem tm{elt tg iter:Po}{t:cc Po}{scope:Q1}{pos:Pos}{own:cc Str}{h:cc (Str×Nat)}{g:TG}{tc:TT}{te:TE}{E:OC->OK->Prop}{it:OL}{fp:cc OL}{Q:Nat->Heap->Prop}{J:It}{Fin:OL->Hp->Prop}
  {RR:OC->OL->Yg->OK->Prop} (I:Inv X Z Y H s) (hc:X.calm=OG) (Tq:scope.kind=.function) (XI:(scope.names.map (·.1)).Nodup) (XS:∀y∈scope.names,y.2=.free->∃c,X.env.cells.lookup y.1=cL c) (Z2:Vm X scope h)
  (T:Turn X.prog X.w X.K tg J fp it Q) (st:Q 0 s.heap) (B:∀b∈fp,mq X Z H b)
  (hg:∀C,PG (bf X s H scope C (b7 own h) fp) tg g) (ht:∀C,wL (bf X s H scope C (b7 own h) fp) t tc) {W:OL->OC->OK->Prop} (he:∀C,PE ((bf X s H scope C (b7 own h) fp).TX (W C)) elt te) (hEE:∀D C x s1,s.heap.objs.size<=C->W C x s1->notedBy (model X.prog X.w) X.A (compEnvC scope (pX X scope C) C X.env) (λe s2=>RR (.ref D) C (.error e) s2) x s1)
  (hR:∀D,H D=CL->sr J D (dP own h Y) g tc te H (Fin D))
  (hRR:∀D C H' s',Inv X Z Y H' s'->Fin D H'->(∃m,s'.heap.Ns C m)->s.heap.objs.size<=C->H' C=CL->RR (.ref D) C (.ok .next) s'):
  wpAny (model X.prog X.w) X.A (newList []) (λacc s3=>wpAny (model X.prog X.w) X.A (newFunctionEnv scope X.env.globals (eA X.env scope.names []) [] X.env.qual CL .none (cL X.env)) (λZF s4=>
   codeAny (model X.prog X.w) X.A (.compStart (.ListComp elt [⟨tg,iter,t,0⟩] scope pos) 0 (.ref it) acc {ZF with scope:=relabel scope X.env}) (RR acc ZF.locals) s4) E s3) E s:=by
 refine Pw ?_;generalize hH2:s.heap.push {cls:=.type "list",dict:=CL,data:=.seq ([]:cc OC).toArray}=h2;have hz:h2.objs.size=s.heap.objs.size+1:=by rw[<-hH2,di]
 refine pD (s:={s with heap:=h2}) ?_;have Y1:s.heap.objs.size<h2.objs.size:=by rw[hz];exact QI _
 have hC:s.heap.objs.size<=h2.objs.size:=Qo Y1;generalize hH1:pushCells (h2.push {cls:=.type "dict",data:=.dict #[]}) scope.names=h1;have U:∀b o,h2.get? b=cL o->h1.get? b=cL o:=λb o e=>by rw[<-hH1];exact Vc _ _ b o (c0 _ e)
 have kp:∀b o,s.heap.get? b=cL o->h1.get? b=cL o:=λb o e=>U b o (by rw[<-hH2];exact c0 _ e);have Vr:h1.Ns h2.objs.size (λ_=>CL):=by rw[<-hH1];exact(Heap.Ns.new h2 (.type "dict")).keeps (Vc _ _)
 have Zd:∀x c,(pX X scope h2.objs.size).lookup x=cL c->h2.objs.size<c->∃v,h1.IsCell c v:=λx c e SG=>by
  have e':(QT (h2.push {cls:=.type "dict",data:=.dict #[]}).objs.size scope.names (eA X.env scope.names [])).lookup x=cL c:=by rw[di];exact e
  rcases kS _ _ _ x c e' with⟨_,z⟩|z
  .exact⟨CL,by rw[<-hH1];exact z⟩
  .exact cb (Sn (mN I z).2 (Sn Y1 SG)) (Qa _)
 have hd:∃n,h1.get? s.heap.objs.size=cL {cls:=.type "list",data:=.seq #[] n}:=⟨0,U _ _ (by rw[<-hH2];exact c4 _ rfl)⟩;have X4:∀b∈fp,b<s.heap.objs.size:=λb f=>by obtain⟨o,e,_⟩:=T.obj 0 _ st b f;exact c3 e
 have hn:H s.heap.objs.size=CL:=I.QX.fresh (OJ _);obtain⟨W,⟨m0,w0⟩,P⟩:=hR s.heap.objs.size hn;have F:∀{pl:cc (OL×Obj)} {H':Hp},(∀b∈fp,H' b=CL)->(∀p∈pl,p.1∉fp)->∀b∈fp,mq (bf X s H scope h2.objs.size (b7 own h) fp) pl H' b:=λ{pl H'} ZK Xt b f=>by have ok:=uH (C:=h2.objs.size) (N:=b7 own h) I Tq XI XS hC B X4;exact⟨ZK b f,(ok.Zt b f).1,ok.V3 b f,.inl f,(ok.Zt b f).2,λp hp=>by have hp':p∈([]:cc (OL×Obj))++pl:=hp;intro z;exact Xt p (by simpa using hp') (by rw[z];exact f)⟩
 have k:∀s4:OK,s4={s with heap:=h1}->
   codeAny (model X.prog X.w) X.A (.compLoop (.ListComp elt [⟨tg,iter,t,0⟩] scope pos) 0 (.ref it) (.ref s.heap.objs.size) (compEnvC scope (pX X scope h2.objs.size) h2.objs.size X.env)) (RR (.ref s.heap.objs.size) h2.objs.size) s4:=by
  rintro s4 rfl
  have I0:Inv (bf X s H scope h2.objs.size (b7 own h) fp) [] (dP own h Y) (upd H s.heap.objs.size (.lst [])) {s with heap:=h1}:=
   AJ I Tq XI XS Z2 (OJ _) Y1 hC B X4 Vr Zd kp hd
  have st0:Q 0 h1:=T.keep 0 _ _ st λb _ o e=>kp b o e;have fr0:∀b∈fp,(upd H s.heap.objs.size (.lst [])) b=CL:=λb f=>by rw[au (PN (X4 b f))];exact(B b f).1
  refine xM (λx s1 z=>hEE _ _ x s1 hC z) (λn s'=>∃i σ' H',Inv (bf X s H scope h2.objs.size (b7 own h) fp) [] σ' H' s'/\Q i s'.heap/\(∀b∈fp,H' b=CL)/\W i n σ' H') ?_ m0 ⟨0,_,_,I0,st0,fr0,w0⟩;rintro n s5 ⟨i,j,H5,I5,YW,fr5,w5⟩;rcases P i n j H5 w5 with⟨S,fin⟩|⟨go,N,hN,step⟩
  .refine bK (T.done (bf X s H scope h2.objs.size (b7 own h) fp) rfl rfl rfl hc i [] s5 j H5 (λ_ _=>False) I5 (F fr5 (by simp)) YW S) λr s6 ⟨hr,M⟩=>?_;subst hr;obtain⟨mm,hm,_⟩:=M.loc;refine hRR _ _ H5 s6 ?_ fin ⟨mm,hm⟩ hC M.free;exact I.Yc (ch:=fp) M.os M.base M.QX M.bare λb f=>⟨(B b f).2.2.2.1,(B b f).2.1,(B b f).2.2.2.2.1,(B b f).2.2.2.2.2⟩
  .refine bK (T.item (bf X s H scope h2.objs.size (b7 own h) fp) rfl rfl rfl hc i [] s5 j H5 (λ_ _=>False) I5 (F fr5 (by simp)) YW go) λr s6 ⟨u,hr,h6⟩=>?_
   subst hr;refine bK h6 λ_ s7 ⟨x,H7,I7,r7,y7,q,fr7⟩=>?_;have I7':=I7.pinned (fp:=fp) (F fr7 (by simp)) (T.obj _ _ q);have l:∀{a:St} {G:Hp} {L:OK},Inv (bf X s H scope h2.objs.size (b7 own h) fp) ([]++lV fp s7.heap) a G L->N a G->∃m,m<n/\∃i σ' H',Inv (bf X s H scope h2.objs.size (b7 own h) fp) [] σ' H' L/\Q i L.heap/\(∀b∈fp,H' b=CL)/\W i m σ' H':=λ{a G L} I8 n8=>by obtain⟨m',hm,w8⟩:=hN a G n8;refine⟨m',hm,i+1,a,G,I8.TY,T.keep _ _ _ q λb f o e=>(I8.pin (b,o) (Ph _ (Ph _ (gh f e)))).1,λb f=>?_,w8⟩;obtain⟨o,e,d⟩:=T.obj _ _ q b f;exact(I8.pin (b,o) (Ph _ (Ph _ (gh f e)))).2.1
   refine bK (hg _ _ s7 j H7 x u _ I7' r7 (step x H7 y7)) λ_ L ⟨a,G,I8,q8⟩=>?_;refine bK (ht _ _ L a G _ I8 q8) λok s9 ⟨H9,I9,q9⟩=>?_;cases ok with
   |false=>rw[ak OX]at q9⊢;exact l I9 q9
   |true=>rw[ai rfl]at q9⊢;refine bK (he _ _ s9 a H9 _ (I9.TX _) q9) λy s10 ⟨O,H10,abp,r10,ys,hy,hl,q10⟩=>?_;have I10:=abp.S3;refine bK (jS _ s10 a H10 (.ref s.heap.objs.size) [O] (.ref s.heap.objs.size) [y] (λ_ H11=>N a H11) I10 rfl (.cons r10 .nil) ⟨_,ys,O,rfl,rfl,hy,hl,q10⟩) λ_ s11 ⟨v11,H11,I11,_,q11⟩=>?_;exact l I11 q11
 exact codeAny_compStart_list (k _ rfl) (T.self _ 0 _ _ _ (T.keep 0 _ _ st λb _ o e=>kp b o e) (k _ rfl))
def mX(own:cc Str)(e:cc (Str×Nat))(b:TI)(g:TG)(d:TT)(te:TE):TE:=λY H Q=>b Y H λJ a=>∀D,a D=CL->sr J D (dP own e Y) g d te a λf=>Q (.ref D) f
theorem vO{a:Q1}(ok:X.Ok)(h:∀y∈a.names,y.2=.free->(X.env.scope.names.lookup y.1=cL .cell\/X.env.scope.names.lookup y.1=cL .free)):∀y∈a.names,y.2=.free->∃c,X.env.cells.lookup y.1=cL c:=
 λy b e=>ok.has y.1 (h y b e)
theorem K1{a sc:Q1}(h:(a.names.all λy=> !(y.2==Pg.free)||(sc.names.lookup y.1==cL Pg.cell)||(sc.names.lookup y.1==cL Pg.free))=OG):
  ∀y∈a.names,y.2=.free->(sc.names.lookup y.1=cL .cell\/sc.names.lookup y.1=cL .free):=λy b e=>by
 have q:=PF.mp h y b;rw[e]at q
 simpa using q
theorem vh{elt tg iter:Po}{ifs:cc Po}{scope:Q1}{pos:Pos}(own:cc Str)(fv:cc (Str×Nat)){wi:TI}{g:TG}{tc:TT}{te:TE}(hc:X.calm=OG)(hi:PI X tg iter wi)
  (hg:∀s H C fp,PG (bf X s H scope C (b7 own fv) fp) tg g) (ht:∀s H C fp,wL (bf X s H scope C (b7 own fv) fp) ifs tc) (he:∀s H C fp,PE (bf X s H scope C (b7 own fv) fp) elt te) (Z2:Vm X scope fv)
  (ab7:(scope.names.all λy=> !(y.2==Pg.free)||(X.env.scope.names.lookup y.1==cL Pg.cell)||(X.env.scope.names.lookup y.1==cL Pg.free))=OG)
  (Tq:scope.kind=.function:=by rfl) (XI:(scope.names.map (·.1)).Nodup:=by decide+kernel)
  (YK:∀y∈scope.names,y.2=.local->scope.names.lookup y.1=cL .local:=by decide+kernel) (hs:∀x,foldedSetIterable iter X.env x=pure x:=by intro _;rfl):
  PE X (.ListComp elt [⟨tg,iter,ifs,0⟩] scope pos) (mX own fv wi g tc te):=by
 intro Z s Y H Q I h;have XS:=K1 ab7;rw[eval_ListComp];refine wpAny_comprehension_free (use:=CL) rfl hs (sW (vO I.ok XS)) Tq YK (bK (hi Z s Y H _ I h) λxv s1 h1=>bK h1 λitv s2 h2=>?_);obtain⟨it,fp,tn,J,H2,e,I2,T,st2,f2,R⟩:=h2;subst e;refine tm I2 hc Tq XI (vO I.ok XS) Z2 T st2 f2 (λC=>hg _ _ C _) (λC=>ht _ _ C _) (W:=λ_ _ _=>False) (λC=>he _ _ C _) (λ_ _ _ _ _ z=>z.elim) (Fin:=λD H'=>Q (.ref D) H') R ?_;intro D C H' s' I' fin hm hC hn;obtain⟨m,hm⟩:=hm;refine⟨m,hm,λh' YU=>⟨.ref D,H',?_,rfl,fin⟩⟩;obtain⟨f0,f1,_,f3,f4,f5⟩:=I2.VY hC hn;exact I'.turned (t':=s'.toks) (λb o hb q=>(YU.2 b hb).trans q) f0 f1 f3 f4 f5
end
theorem DQ{J:It}{D:OL}{d:St}{g:TG}{j:TT}{te:TE}{k:Hp}{Fin:Hp->Prop}(n:Nat)(a:Nat->St->Hp->Prop)(h0:a 0 d (upd k D (.lst [])))(f:∀i σ H,i<n->a i σ H->J.go i H)(r:∀σ H,a n σ H->J.stop n H)
  (q:∀i σ H x H',i<n->a i σ H->J.Y8 i H x H'->g x σ H' λσ2 H2=>j σ2 H2 λb H3=>if b=OG then te σ2 H3 λy H4=>∃ys,H4 D=cL (.lst ys)/\ys.length<Pd/\a (i+1) σ2 (upd H4 D (.lst (ys++[y])))else a (i+1) σ2 H3)
  (hd:∀σ H,a n σ H->Fin H):sr J D d g j te k Fin:=by
 refine⟨λi m σ H=>m=n - i/\i<=n/\a i σ H,⟨n,by simp,P0 _,h0⟩,?_⟩;rintro i m σ H ⟨rfl,hi,p⟩;by_cases h:i<n
 .exact .inr ⟨f i σ H h p,a (i+1),λl H' o=>⟨n - (i+1),by ext,rfl,h,o⟩,λx H' y=>q i σ H x H' h p y⟩
 .have e:i=n:=by ext
  subst e;exact .inl ⟨r σ H p,hd σ H p⟩
def rA(P:Pa)(w:Pz)(K:Bn)(mg:Str->cj OC)(base:Heap)(k:Nat)(x:Str)(ps:cc Str)(sp:Sp):Prop:=
 ∃(f:OL) (a:Qx),FnOk P w K mg base jC k f a ps sp/\Binds K a ps []/\Q0 K (.ref f)=OG/\mg x=cL (.ref f)
theorem oi(C:rA X.prog X.w X.K X.mg X.base k x ps sp)(g:RK j X.A)(ha:PA X (e::es) t)(a:k<=j:=by decide)(h:Gl X x:=by rfl)
  (l:(x==("__debug__":Str))=OP:=by decide) (i:PZ (e::es) X.env=(OP,eval e X.env)::PZ es X.env:=by rfl) (n:(backTo pos (PZ es X.env)).any (·.1)=OP:=by rfl):
  PE X (.Call (.Name x p) (e::es) [] pos) (nk sp [] E0 t):=by
 obtain⟨f,o,F,b,d,m⟩:=C;exact D5 F (g.mono a) h m d b .nil LQ ha l i n
theorem zG{α:Type}{xs:cc α}{i:Int}{v:α}(h0:0<=i)(h:xs[i.toNat]?=cL v):mS xs i=cL v:=by have q:=uW h;rwa [Int.toNat_of_nonneg h0]at q
theorem QL.tup{K:Bn}(e:QL H H')(h:Tj K H a xs):Tj K H' a xs:=by
 rcases h with(h|⟨o,h⟩)|h
 .exact .inl (.inl (e _ _ h))
 .exact .inl (.inr ⟨o,e _ _ h⟩)
 .exact .inr h
theorem bE(h:H p=CL)(o:HO):QL H (upd H p o):=λb u q=>by rw[au (bB q h)];exact q
theorem Kk:Qd "max"=cL (.builtin "max"):=by decide+kernel
theorem F8:Qd "min"=cL (.builtin "min"):=by decide+kernel
theorem o7:Qd "isinstance"=cL (.builtin "isinstance"):=by decide+kernel
theorem LR:Qd "len"=cL (.builtin "len"):=by decide+kernel
theorem yw:Qd "sorted"=cL (.builtin "sorted"):=by decide+kernel
theorem Lo:Qd "all"=cL (.builtin "all"):=by decide+kernel
theorem Ju:Qd "list"=cL (.type "list"):=by decide+kernel
theorem C8:Qd "tuple"=cL (.type "tuple"):=by decide+kernel
end L2
namespace L3
open PySem L2
abbrev D:=OD
inductive PV where
 |fz (d:D)
 |ow (ds:cc D)
 |pl (i:Nat)
abbrev aB:=cc (cj PV)
structure Xc where
 cls:Str
 fs:cc (Str×D)
inductive Res(α:Type) where
 |ok (a:α)
 |er (x:Xc)
 |bad
namespace Res
def bind(r:Res α)(f:α->Res β):Res β:=match r with
 |.ok a=>f a
 |.er x=>.er x
 |.bad=>.bad
def Qf:cj α->Res α
 |some a=>.ok a
 |none=>.bad
theorem bind_ok(a:α)(f:α->Res β):(Res.ok a).bind f=f a:=rfl
end Res
abbrev eJ:=@Res.bind_ok
abbrev aN:=OL->Prop
def aY(O:aN)(p:OL):aN:=λb=>O b\/b=p
def zP(O:aN)(p:OL):aN:=λb=>O b/\b≠p
def Vt:aN:=λ_=>False
def Ev(O:aN)(H:Hp)(a:aN)(H':Hp):Prop:=∀b o,H b=cL o->¬O b->H' b=cL o/\¬a b
theorem Ev.refl:Ev O H O H:=λ_ _ h n=>⟨h,n⟩
theorem Ev.trans(a:Ev O H O1 H1)(b:Ev O1 H1 O2 H2):Ev O H O2 H2:=λp o h n=>let⟨h1,n1⟩:=a p o h n;b p o h1 n1
theorem Ev.grow(s:QL H H'):Ev O H O H':=λb o h n=>⟨s b o h,n⟩
theorem Ev.add(s:QL H H')(a:H p=CL):Ev O H (aY O p) H':=λb o h n=>⟨s b o h,λz=>z.elim n λe=>by simp_all⟩
theorem Ev.sub(h:∀b,O' b->O b):Ev O H O' H:=λb o e n=>⟨e,λz=>n (h b z)⟩
theorem Ev.mut(a:O p)(u:HO):Ev O H O (upd H p u):=λb o h n=>⟨by rw[au (λe=>n (by simp_all))];exact h,n⟩
def Su(K:Bn)(H:Hp)(a:OL)(xs:cc V):Prop:=Rd H a (.lst xs)\/∃(b:cc OC) (n:Nat),K.lookup a=cL {cls:=.type "list",data:=.seq b.toArray n}/\xs.length<=Pd/\Vals xs b
theorem Su.sq(h:Su K H a xs):Tw K H a xs:=by
 rcases h with h|⟨Qe,n,h1,h2,h3⟩
 .exact .inl h
 .exact .inr ⟨_,Qe.toArray,n,h1,rfl,rfl,rfl,by rw[O8,<-h3.length];exact h2,by ext⟩
theorem Su.of(h:H a=cL (.lst xs)):Su K H a xs:=.inl (.inl h)
theorem Su.same(e:QL H H')(h:Su K H a xs):Su K H' a xs:=by
 rcases h with(h|⟨o,h⟩)|h
 .exact .inl (.inl (e _ _ h))
 .exact .inl (.inr ⟨o,e _ _ h⟩)
 .exact .inr h
theorem il(H:Hp):QL (λ_=>CL) H:=λ_ _ h=>by cases h
def UZ(O:aN)(K:Bn)(H:Hp)(a:OL)(xs:cc V):Prop:=Su K H a xs/\(O a->Su K (λ_=>CL) a xs)
def TU(O:aN)(K:Bn)(H:Hp)(a:OL)(xs:cc V):Prop:=Tj K H a xs/\(O a->Tj K (λ_=>CL) a xs)
section
variable{O Z:aN}{K:Bn}{H H':Hp}{a:OL}{xs:cc V}
theorem UZ.ev(h:UZ O K H a xs)(e:Ev O H Z H'):UZ Z K H' a xs:=by
 obtain⟨h,k⟩:=h;by_cases z:O a
 .exact⟨Su.same (il H') (k z),λ_=>k z⟩
 .rcases h with(h|⟨o,h⟩)|h
  .obtain⟨h1,b⟩:=e a _ h z;exact⟨.inl (.inl h1),λy=>cb y b⟩
  .obtain⟨h1,b⟩:=e a _ h z;exact⟨.inl (.inr ⟨o,h1⟩),λy=>cb y b⟩
  .exact⟨.inr h,λ_=>.inr h⟩
theorem TU.ev(h:TU O K H a xs)(e:Ev O H Z H'):TU Z K H' a xs:=by
 obtain⟨h,k⟩:=h;by_cases z:O a
 .exact⟨(il H').tup (k z),λ_=>k z⟩
 .rcases h with(h|⟨o,h⟩)|h
  .obtain⟨h1,b⟩:=e a _ h z;exact⟨.inl (.inl h1),λy=>cb y b⟩
  .obtain⟨h1,b⟩:=e a _ h z;exact⟨.inl (.inr ⟨o,h1⟩),λy=>cb y b⟩
  .exact⟨.inr h,λ_=>.inr h⟩
end
mutual
inductive DV(O:aN)(K:Bn)(H:Hp):V->D->Prop
 |Se:DV O K H .Se .none
 |bl (b:Bool):DV O K H (.bl b) (.bool b)
 |int (i:Int):DV O K H (.int i) (.int i)
 |str (x:Str):DV O K H (.str x) (.str x)
 |tup {a:OL} {xs:cc V} {ds:cc D}:TU O K H a xs->QC O K H xs ds->DV O K H (.ref a) (.tuple ds)
 |lst {a:OL} {xs:cc V} {ds:cc D}:UZ O K H a xs->QC O K H xs ds->DV O K H (.ref a) (.list ds)
inductive QC(O:aN)(K:Bn)(H:Hp):cc V->cc D->Prop
 |nil:QC O K H [] []
 |cons {v:V} {vs:cc V} {d:D} {ds:cc D}:DV O K H v d->QC O K H vs ds->QC O K H (v::vs) (d::ds)
end
section
variable{O Z:aN}{K:Bn}{H H':Hp}
mutual
theorem DV.ev(e:Ev O H Z H'):∀{v:V} {d:D},DV O K H v d->DV Z K H' v d
 |_,_,.Se=>.Se
 |_,_,.bl b=>.bl b
 |_,_,.int i=>.int i
 |_,_,.str x=>.str x
 |_,_,.tup h hs=>.tup (h.ev e) (QC.ev e hs)
 |_,_,.lst h hs=>.lst (h.ev e) (QC.ev e hs)
theorem QC.ev(e:Ev O H Z H'):∀{vs:cc V} {ds:cc D},QC O K H vs ds->QC Z K H' vs ds
 |_,_,.nil=>.nil
 |_,_,.cons h hs=>.cons (DV.ev e h) (QC.ev e hs)
end
theorem QC.length:∀{vs:cc V} {ds:cc D},QC O K H vs ds->vs.length=ds.length
 |_,_,.nil=>rfl
 |_,_,.cons _ t=>by rw[OQ,OQ,t.length]
theorem QC.get:∀{vs:cc V} {ds:cc D} {i:Nat} {d:D},QC O K H vs ds->ds[i]?=cL d->∃v,vs[i]?=cL v/\DV O K H v d
 |_,_,_,_,.nil,e=>by simp at e
 |_,_,0,_,.cons h _,e=>by simp_all
 |_,_,i+1,d,.cons _ t,e=>by obtain⟨v,h1,a⟩:=QC.get t (by simpa using e);simp_all
theorem QC.WJ:∀{vs:cc V} {ds:cc D} {i:Nat} {v:V},QC O K H vs ds->vs[i]?=cL v->∃d,ds[i]?=cL d/\DV O K H v d
 |_,_,_,_,.nil,e=>by simp at e
 |_,_,0,_,.cons h _,e=>by simp_all
 |_,_,i+1,v,.cons _ t,e=>by obtain⟨d,h1,a⟩:=QC.WJ t (by simpa using e);simp_all
theorem QC.append:∀{vs ws:cc V} {ds es:cc D},QC O K H vs ds->QC O K H ws es->QC O K H (vs++ws) (ds++es)
 |_,_,_,_,.nil,h=>h
 |_,_,_,_,.cons h t,g=>.cons h (QC.append t g)
theorem QC.take:∀{vs:cc V} {ds:cc D} (n:Nat),QC O K H vs ds->QC O K H (vs.take n) (ds.take n)
 |_,_,0,_=>.nil
 |_,_,_+1,.nil=>.nil
 |_,_,n+1,.cons h t=>.cons h (QC.take n t)
theorem QC.drop:∀{vs:cc V} {ds:cc D} (n:Nat),QC O K H vs ds->QC O K H (vs.drop n) (ds.drop n)
 |_,_,0,h=>h
 |_,_,_+1,.nil=>.nil
 |_,_,n+1,.cons _ t=>QC.drop n t
theorem QC.flat(h:QC O K H vs ds):∀n:Nat,QC O K H (ON n vs).flatten (ON n ds).flatten
 |0=>.nil
 |n+1=>by rw[Qh,Qh,Rm,Rm];exact h.append (QC.flat h n)
mutual
theorem DV.plain:∀{v:V} {d:D},DV O K H v d->L2.DV K H v d
 |_,_,.Se=>.Se
 |_,_,.bl b=>.bl b
 |_,_,.int i=>.int i
 |_,_,.str x=>.str x
 |_,_,.tup h hs=>.tup h.1 (QC.plain hs)
 |_,_,.lst h hs=>.lst h.1.sq (QC.plain hs)
theorem QC.plain:∀{vs:cc V} {ds:cc D},QC O K H vs ds->L2.QC K H vs ds
 |_,_,.nil=>.nil
 |_,_,.cons h hs=>.cons (DV.plain h) (QC.plain hs)
end
end
def DX(O:aN)(K:Bn)(H:Hp)(v:V):D->Prop
 |.list ds=>∃a xs,v=.ref a/\Su K H a xs/\QC O K H xs ds
 |d=>DV O K H v d
theorem DV.x(h:DV O K H v d):DX O K H v d:=by
 cases h with
 |lst h a=>exact⟨_,_,rfl,h.1,a⟩
 |Se=>exact .Se
 |bl b=>exact .bl b
 |int i=>exact .int i
 |str x=>exact .str x
 |tup h a=>exact .tup h a
theorem DX.plain(h:DX O K H v d):L2.DV K H v d:=by
 cases d with
 |list ds=>obtain⟨a,xs,rfl,h1,e⟩:=h;exact .lst h1.sq e.plain
 |none=>exact DV.plain h
 |bool b=>exact DV.plain h
 |int i=>exact DV.plain h
 |str x=>exact DV.plain h
 |tuple ds=>exact DV.plain h
 |dict PL=>exact DV.plain h
def U6(K:Bn)(b:Hp)(O:aN)(H:Hp)(v:V):PV->Prop
 |.fz d=>DV O K H v d
 |.ow ds=>∃a vs,v=.ref a/\O a/\b a=CL/\H a=cL (.lst vs)/\QC O K H vs ds
 |.pl _=>False
structure Rl(K:Bn)(B:aN)(H0:Hp)(O:aN)(σ:St)(H:Hp)(ρ:aB):Prop where
 same:QL H0 H
 bo:∀a,B a->O a
 bd:∀a,B a->H0 a≠CL
 od:∀a,H a=CL->¬O a
 len:σ.length=ρ.length
 slot:∀(i:Nat) (x:PV),ρ[i]?=cL (cL x)->∃v,σ[i]?=cL (cL v)/\U6 K H0 O H v x
 one:∀(i j:Nat) (ds es:cc D) (v:V),ρ[i]?=cL (cL (.ow ds))->ρ[j]?=cL (cL (.ow es))->σ[i]?=cL (cL v)->σ[j]?=cL (cL v)->i=j
def To(K:Bn)(e:Hp)(O:aN)(b:St)(H:Hp)(ρ:aB)(v:V):PV->Prop
 |.fz d=>DV O K H v d
 |.ow ds=>∃a vs,v=.ref a/\O a/\e a=CL/\H a=cL (.lst vs)/\QC O K H vs ds/\∀(i:Nat) (es:cc D),ρ[i]?=cL (cL (.ow es))->b[i]?≠cL (cL (.ref a))
 |.pl i=>b[i]?=cL (cL v)
def iq:PV->Prop
 |.ow _=>False
 |_=>True
def gy:PV->PV
 |.ow ds=>.fz (.list ds)
 |p=>p
section
variable{K:Bn}{B O X:aN}{Z H H':Hp}{Y:St}{ρ ρ':aB}{v:V}
theorem U6.grow(s:QL H H')(h:U6 K Z O H v x):U6 K Z O H' v x:=by
 cases x with
 |fz d=>exact DV.ev (Ev.grow s) h
 |ow ds=>obtain⟨a,vs,e,h1,g,f,b⟩:=h;exact⟨a,vs,e,h1,g,s _ _ f,b.ev (Ev.grow s)⟩
 |pl i=>exact h
theorem Rl.grow(R:Rl K B Z O Y H ρ)(s:QL H H'):Rl K B Z O Y H' ρ:=
 ⟨R.same.trans s,R.bo,R.bd,λa h=>R.od a (s.free h),R.len,λi x h=>let⟨v,h1,h2⟩:=R.slot i x h;⟨v,h1,h2.grow s⟩,R.one⟩
theorem Rl.Ya(R:Rl K B Z O Y H ρ)(h:H p=CL):Z p=CL:=R.same.free h
theorem Rl.add(R:Rl K B Z O Y H ρ)(s:QL H H')(f:H p=CL)(g:H' p≠CL):Rl K B Z (aY O p) Y H' ρ:=by
 refine⟨R.same.trans s,λa h=>.inl (R.bo a h),R.bd,λa h z=>z.elim (R.od a (s.free h)) λe=>g (by simp_all),R.len,λi x h=>?_,R.one⟩;obtain⟨v,h1,b⟩:=R.slot i x h;refine⟨v,h1,?_⟩;cases x with
 |fz d=>exact DV.ev (Ev.add s f) b
 |ow ds=>obtain⟨a,vs,e,m,l,k,j⟩:=b;exact⟨a,vs,e,.inl m,l,s _ _ k,j.ev (Ev.add s f)⟩
 |pl i=>exact b
theorem Rl.XT(R:Rl K B Z O Y H ρ)(h:Z a=CL):¬B a:=λz=>R.bd a z h
theorem Rl.sub(R:Rl K B Z O Y H ρ){a:OL}(h0:Z a=CL)(h:∀(i:Nat) (es:cc D),ρ[i]?=cL (cL (.ow es))->Y[i]?≠cL (cL (.ref a))):Rl K B Z (zP O a) Y H ρ:=by
 refine⟨R.same,λb f=>⟨R.bo b f,λe=>R.XT h0 (e▸f)⟩,R.bd,λb f z=>R.od b f z.1,R.len,λi x j=>?_,R.one⟩;obtain⟨v,h1,g⟩:=R.slot i x j;refine⟨v,h1,?_⟩;cases x with
 |fz d=>exact DV.ev (Ev.sub λb z=>z.1) g
 |ow ds=>obtain⟨b,vs,e,n,m,l,k⟩:=g;subst e;exact⟨b,vs,rfl,⟨n,λe=>h i ds j (by rw[h1,e])⟩,m,l,k.ev (Ev.sub λb z=>z.1)⟩
 |pl i=>exact g
theorem ph(h:H a=cL (.lst vs))(n:¬O a)(hd:QC O K H vs ds):DV O K H (.ref a) (.list ds):=.lst ⟨Su.of h,λz=>cb z n⟩ hd
theorem jO{pv:PV}(R:Rl K B Z O Y H ρ)(h:To K Z O Y H ρ v pv):∃X,Ev O H X H/\Rl K B Z X Y H ρ/\To K Z X Y H ρ v (gy pv):=by
 cases pv with
 |fz d=>exact⟨O,.refl,R,h⟩
 |pl i=>exact⟨O,.refl,R,h⟩
 |ow ds=>obtain⟨a,vs,rfl,h1,j,g,f,e⟩:=h;exact⟨zP O a,Ev.sub λb z=>z.1,R.sub j e,ph g (λz=>z.2 rfl) (f.ev (Ev.sub λb z=>z.1))⟩
theorem kB(pv:PV):iq (gy pv):=by cases pv<;>trivial
theorem To.keep{pv:PV}(a:iq pv)(e:Ev O H X H')(h:To K Z O Y H ρ v pv):To K Z X Y H' ρ' v pv:=by
 cases pv with
 |fz d=>exact DV.ev e h
 |pl i=>exact h
 |ow ds=>exact a.elim
def NB:cj (cj PV)->cj D
 |some (cL (.fz d))=>cL d
 |some (cL (.ow ds))=>cL (.list ds)
 |_=>CL
def nv(ρ:aB):PV->cj D
 |.fz d=>cL d
 |.ow ds=>cL (.list ds)
 |.pl i=>NB ρ[i]?
theorem jf{pv:PV}(R:Rl K B Z O Y H ρ)(h:To K Z O Y H ρ v pv)(e:nv ρ pv=cL d):DX O K H v d:=by
 cases pv with
 |fz n=>cases e;exact DV.x h
 |ow ds=>cases e;obtain⟨a,vs,rfl,h1,r,l,k,p⟩:=h;exact⟨a,vs,rfl,Su.of l,k⟩
 |pl i=>
  have b:NB ρ[i]?=cL d:=e;have m:=h;cases q:ρ[i]? with
  |none=>rw[q]at b;cases b
  |some o=>
   cases o with
   |none=>rw[q]at b;cases b
   |some x=>
    obtain⟨u,g,f⟩:=R.slot i x q;rw[m]at g;cases g;rw[q]at b;cases x with
    |fz n=>cases b;exact DV.x f
    |ow ds=>cases b;obtain⟨a,vs,rfl,k1,k2,k3,k4⟩:=f;exact⟨a,vs,rfl,Su.of k3,k4⟩
    |pl j=>exact f.elim
def Nf(ρ:aB)(i:Nat):cj (cj PV)->cj (D×aB)
 |some (cL (.fz d))=>cL (d,ρ)
 |some (cL (.ow ds))=>cL (.list ds,ρ.set i (cL (.fz (.list ds))))
 |_=>CL
def rZ(ρ:aB):PV->cj (D×aB)
 |.fz d=>cL (d,ρ)
 |.ow ds=>cL (.list ds,ρ)
 |.pl i=>Nf ρ i ρ[i]?
theorem aP{l:cc α}(h:(l.set i x)[j]?=cL y):(j=i/\y=x)\/(j≠i/\l[j]?=cL y):=by
 rw[Qn]at h;by_cases e:i=j
 .rw[ai e]at h
  split at h
  .cases h;exact .inl ⟨e.symm,rfl⟩
  .cases h
 .rw[ak e]at h;exact .inr ⟨λz=>e z.symm,h⟩
theorem mQ{pv:PV}(R:Rl K B Z O Y H ρ)(h:To K Z O Y H ρ v pv)(e:rZ ρ pv=cL (d,ρ')):∃X,Ev O H X H/\Rl K B Z X Y H ρ'/\DV X K H v d:=by
 cases pv with
 |fz T=>cases e;exact⟨O,.refl,R,h⟩
 |ow ds=>cases e;obtain⟨a,vs,rfl,h1,S,Q,P,N⟩:=h;exact⟨zP O a,Ev.sub λb z=>z.1,R.sub S N,ph Q (λz=>z.2 rfl) (P.ev (Ev.sub λb z=>z.1))⟩
 |pl i=>
  have f:Nf ρ i ρ[i]?=cL (d,ρ'):=e;have t:=h;cases q:ρ[i]? with
  |none=>rw[q]at f;cases f
  |some o=>
   cases o with
   |none=>rw[q]at f;cases f
   |some x=>
    obtain⟨u,E,A⟩:=R.slot i x q;rw[t]at E;cases E;rw[q]at f;cases x with
    |fz T=>cases f;exact⟨O,.refl,R,A⟩
    |pl j=>exact A.elim
    |ow ds=>
     cases f;obtain⟨a,vs,rfl,k1,k2,k3,k4⟩:=A;have es:Ev O H (zP O a) H:=Ev.sub λb z=>z.1;have F:=ph k3 (λz=>z.2 rfl) (k4.ev es);refine⟨zP O a,es,⟨R.same,λb m=>⟨R.bo b m,λe=>R.XT k2 (e▸m)⟩,R.bd,λb m z=>R.od b m z.1,by rw[Qq];exact R.len,λj x l=>?_,λj k xs ys w r p=>?_⟩,F⟩
     .rcases aP l with⟨rfl,g⟩|⟨U,l⟩
      .cases g;exact⟨_,t,F⟩
      .obtain⟨u,C,n⟩:=R.slot j x l
       refine⟨u,C,?_⟩;cases x with
       |fz d=>exact DV.ev es n
       |pl i=>exact n
       |ow xs=>obtain⟨b,G,rfl,M,L,J,I⟩:=n;exact⟨b,G,rfl,⟨M,λz=>U (R.one j i xs ds (.ref a) l q (by rw[C,z]) t)⟩,L,J,I.ev es⟩
     .rcases aP r with⟨rfl,g⟩|⟨_,r⟩
      .cases g
      .rcases aP p with⟨rfl,g⟩|⟨_,p⟩
       .cases g
       .exact R.one j k xs ys w r p
end
def XN(K:Bn)(B:aN)(H:Hp)(c:OC)(dx:cj OL)(x:Xc):Prop:=
 (∃a,c=.ref a/\Qr K PK x.cls=cL (cL (.ref a)))/\∃fs,(∀p,dx=cL p->H p=cL (.xd fs))/\∀f d,x.fs.lookup f=cL d->dx≠CL/\∃v,fs.lookup f=cL v/\DV B K H v d
def XE(K:Bn)(B:aN)(a:Hp)(E:XK)(x:Xc):Prop:=∀c dx H',QL a H'->XN K B H' c dx x->E c dx H'
def WR(K:Bn)(E:XK)(B:aN)(b:Hp)(P:α->Prop):Res α->Prop
 |.ok a=>P a
 |.er x=>XE K B b E x
 |.bad=>False
section
variable{K:Bn}{E:XK}{B:aN}{Z:Hp}
theorem WR.bind(h:WR K E B Z P (r.bind k)):WR K E B Z (λa=>WR K E B Z P (k a)) r:=by cases r<;>exact h
theorem WR.Qf(h:WR K E B Z P ((Res.Qf o).bind k)):∃a,o=cL a/\WR K E B Z P (k a):=by
 cases o with
 |none=>exact h.elim
 |some a=>exact⟨a,rfl,h⟩
theorem WR.imp(h:WR K E B Z P r)(g:∀a,P a->P' a):WR K E B Z P' r:=by
 cases r with
 |ok a=>exact g a h
 |er x=>exact h
 |bad=>exact h
end
abbrev FE:=aB->Res (PV×aB)
abbrev FT:=aB->Res (Bool×aB)
abbrev FA:=aB->Res (cc PV×aB)
def EO(K:Bn)(E:XK)(t:TE)(f:FE):Prop:=
 ∀(B:aN) (b:Hp) (O:aN) (a:St) (H:Hp) (ρ:aB) (Q:VK),Rl K B b O a H ρ->WR K E B b (λr=>∀O' v H',Ev O H O' H'->Rl K B b O' a H' r.2->To K b O' a H' r.2 v r.1->Q v H') (f ρ)->t a H Q
def Vi(K:Bn)(E:XK)(t:TT)(f:FT):Prop:=
 ∀(B:aN) (b:Hp) (O:aN) (a:St) (H:Hp) (ρ:aB) (Q:Bool->Hp->Prop),Rl K B b O a H ρ->WR K E B b (λr=>∀O' H',Ev O H O' H'->Rl K B b O' a H' r.2->Q r.1 H') (f ρ)->t a H Q
def AO(K:Bn)(E:XK)(t:TA)(f:FA):Prop:=
 ∀(B:aN) (b:Hp) (O:aN) (a:St) (H:Hp) (ρ:aB) (Q:cc V->Hp->Prop),Rl K B b O a H ρ->WR K E B b (λr=>∀O' vs H',Ev O H O' H'->Rl K B b O' a H' r.2->Paired (λv pv=>To K b O' a H' r.2 v pv/\iq pv) vs r.1->Q vs H') (f ρ)->t a H Q
inductive RV where
 |fz (d:D)
 |ow (ds:cc D)
def RV.pv:RV->PV
 |.fz d=>.fz d
 |.ow ds=>.ow ds
def Fin(O:aN)(K:Bn)(H:Hp)(Q:VK):RV->Prop
 |.fz d=>∀v H',QL H H'->DV O K H' v d->Q v H'
 |.ow ds=>∀p vs H',QL H H'->H p=CL->H' p=cL (.lst vs)->QC (aY O p) K H' vs ds->Q (.ref p) H'
def jy(O:aN)(H:Hp):Prop:=∀a,H a=CL->¬O a
section
variable{K:Bn}{E:XK}{B O X:aN}{Y H H':Hp}{Z:St}{ρ ρ':aB}{v:V}
theorem iV(R:Rl K B Y O Z H ρ)(h:∀X v H',Ev O H X H'->Rl K B Y X Z H' ρ->To K Y X Z H' ρ v rv.pv->Q v H'):Fin O K H Q rv:=by
 cases rv with
 |fz d=>exact λv H' s f=>h O v H' (Ev.grow s) (R.grow s) f
 |ow ds=>intro p vs H' s b e f;refine h (aY O p) (.ref p) H' (Ev.add s b) (R.add s b (by rw[e];simp)) ⟨p,vs,rfl,.inr rfl,R.Ya b,e,f,λi es hi z=>?_⟩;obtain⟨u,h1,a,j,e2,m,l,g,k⟩:=R.slot i _ hi;rw[z]at h1;cases h1;cases e2;rw[b]at g;cases g
theorem Fin.new(hd:QC O K H vs ds)(h:Fin O K H Q (.ow ds)):∀p,H p=CL->Q (.ref p) (upd H p (.lst vs)):=λp a=>
 h p vs _ (bE a _) a ay (hd.ev (Ev.add (bE a _) a))
theorem Fin.Wa(hd:QC O K H vs ds)(b:jy O H)(h:Fin O K H Q (.fz (.tuple ds))):∀p,H p=CL->Q (.ref p) (upd H p (.tup vs)):=λp a=>
 h (.ref p) _ (bE a _) (.tup ⟨Tj.of ay,λz=>cb z (b p a)⟩ (hd.ev (Ev.grow (bE a _))))
theorem Fin.at(h:Fin O K H Q (.fz d))(a:DV O K H v d):Q v H:=h v H (QL.refl H) a
def v3(ρ:aB)(i:Nat):cj (cj PV)->Res (PV×aB)
 |some (cL (.fz d))=>.ok (.fz d,ρ)
 |some (cL (.ow _))=>.ok (.pl i,ρ)
 |_=>.bad
def aa(i:Nat):FE:=λρ=>v3 ρ i ρ[i]?
theorem GA:EO K E (fY i) (aa i):=by
 intro B Y O Z H ρ Q R w;unfold aa at w;cases q:ρ[i]? with
 |none=>rw[q]at w;exact w.elim
 |some o=>
  cases o with
  |none=>rw[q]at w;exact w.elim
  |some x=>
   rw[q]at w;obtain⟨v,h1,a⟩:=R.slot i x q;cases x with
   |fz d=>exact⟨v,h1,w O v H .refl R a⟩
   |ow ds=>exact⟨v,h1,w O v H .refl R h1⟩
   |pl j=>exact w.elim
def pC(d:D):FE:=λρ=>.ok (.fz d,ρ)
theorem zj(h:∀O H,DV O K H v d):EO K E (tC v) (pC d):=λB Y O Z H ρ Q R w=>w O v H .refl R (h O H)
theorem Jp:EO K E (tC (.int i)) (pC (.int i)):=zj λ_ _=>.int i
theorem KT:EO K E (tC (.bl b)) (pC (.bool b)):=zj λ_ _=>.bl b
theorem Ii:EO K E (tC (.str x)) (pC (.str x)):=zj λ_ _=>.str x
theorem Hf:EO K E (tC .Se) (pC .none):=zj λ_ _=>.Se
def iA(K:Bn)(r:R2)(f:D->D->cj RV):Prop:=∀(O:aN) (H:Hp) (x y:V) (dx a:D) (rv:RV) (Q:VK),jy O H->DX O K H x dx->DX O K H y a->f dx a=cL rv->Fin O K H Q rv->r x y H Q
def az(f:D->D->cj RV)(fa fb:FE):FE:=λρ=>(fa ρ).bind λa=>(fb a.2).bind λb=>(Res.Qf (nv b.2 (gy a.1))).bind λdx=>(Res.Qf (nv b.2 b.1)).bind λd=>(Res.Qf (f dx d)).bind λrv=>.ok (rv.pv,b.2)
theorem E4(p:iA K r f)(ha:EO K E ta fa)(hb:EO K E tb fb):EO K E (wA r ta tb) (az f fa fb):=by intro B Y O Z H ρ Q R w;refine ha B Y O Z H ρ _ R (w.bind.imp λa h J x I e1 u o=>?_);obtain⟨C,e2,R2,n⟩:=jO u o;refine hb B Y C Z I a.2 _ R2 (h.bind.imp λb d A y G e3 e m=>?_);have g:=n.keep (kB a.1) e3 (ρ':=b.2);obtain⟨dx,j,d⟩:=d.Qf;obtain⟨q,i,d⟩:=d.Qf;obtain⟨rv,k,d⟩:=d.Qf;refine p A G x y dx q rv Q e.od (jf e g j) (jf e m i) k (iV e λz v F e4 t l=>?_);exact d z v F (e1.trans (e2.trans (e3.trans e4))) t l
def Ih(f:D->cj RV)(fa:FE):FE:=λρ=>(fa ρ).bind λa=>(Res.Qf (nv a.2 a.1)).bind λdx=>(Res.Qf (f dx)).bind λrv=>.ok (rv.pv,a.2)
def MA:D->cj Bool
 |.bool b=>cL b
 |_=>CL
theorem GK(h:DX O K H x d)(e:MA d=cL b):x=.bl b:=by cases d<;>cases e;cases h;rfl
def aF(fa:FE):aB->Res (Bool×aB):=λρ=>(fa ρ).bind λa=>(Res.Qf (nv a.2 a.1)).bind λd=>(Res.Qf (MA d)).bind λb=>.ok (b,a.2)
theorem jg(ha:EO K E ta fa):Vi K E (v7 ta) (aF fa):=by intro B Y O Z H ρ Q R w;refine ha B Y O Z H ρ _ R (w.bind.imp λa e j x k e1 f i=>?_);obtain⟨d,g,e⟩:=e.Qf;obtain⟨b,h,e⟩:=e.Qf;exact⟨b,GK (jf f i g) h,e j k e1 f⟩
theorem LG(ha:EO K E ta fa):Vi K E (tB ta) (aF fa):=jg ha
def pJ(fa fb:FT):FT:=λρ=>(fa ρ).bind λa=>if a.1=OG then fb a.2 else .ok (OP,a.2)
def ya(fa fb:FT):FT:=λρ=>(fa ρ).bind λa=>if a.1=OG then .ok (OG,a.2)else fb a.2
def km(fa:FT):FT:=λρ=>(fa ρ).bind λa=>.ok (!a.1,a.2)
theorem Vi.next(h:Vi K E t f)(R:Rl K B Y O1 Z H1 ρ)(e1:Ev O H O1 H1)(w:WR K E B Y (λr=>∀X H',Ev O H X H'->Rl K B Y X Z H' r.2->Q r.1 H') (f ρ)):t Z H1 Q:=
 h B Y O1 Z H1 ρ Q R (w.imp λr q X H' a b=>q X H' (e1.trans a) b)
theorem EO.next(h:EO K E t f)(R:Rl K B Y O1 Z H1 ρ)(e1:Ev O H O1 H1)(w:WR K E B Y (λr=>∀X v H',Ev O H X H'->Rl K B Y X Z H' r.2->To K Y X Z H' r.2 v r.1->Q v H') (f ρ)):t Z H1 Q:=
 h B Y O1 Z H1 ρ Q R (w.imp λr q X v H' b d a=>q X v H' (e1.trans b) d a)
theorem DJ(h1:Vi K E t f)(i:Vi K E u g):Vi K E (K8 t u) (pJ f g):=by
 intro B Y O Z H ρ Q R w;refine h1 B Y O Z H ρ _ R (w.bind.imp λa d j k e1 e=>?_);obtain⟨b,h⟩:=a;cases b with
 |true=>exact i.next e e1 d
 |false=>exact d j k e1 e
theorem Ja(h1:Vi K E t f)(i:Vi K E u g):Vi K E (MX t u) (ya f g):=by
 intro B Y O Z H ρ Q R w;refine h1 B Y O Z H ρ _ R (w.bind.imp λa d j k e1 e=>?_);obtain⟨b,h⟩:=a;cases b with
 |true=>exact d j k e1 e
 |false=>exact i.next e e1 d
theorem EJ(h1:Vi K E t f):Vi K E (CV t) (km f):=by intro B Y O Z H ρ Q R w;exact h1 B Y O Z H ρ _ R (w.bind.imp λa b e g e1 d=>b e g e1 d)
def dH:FT:=λρ=>.ok (OG,ρ)
theorem Bf:Vi K E sk dH:=λB Y O Z H ρ Q R w=>w O H .refl R
def wR(fa fb:FE):FE:=λρ=>(aF fa ρ).bind λa=>if a.1=OG then fb a.2 else .ok (.fz (.bool OP),a.2)
def xq(fa:FE):FE:=λρ=>(aF fa ρ).bind λa=>.ok (.fz (.bool (!a.1)),a.2)
theorem HZ(ha:EO K E ta fa)(hb:EO K E tb fb):EO K E (Ga ta tb) (wR fa fb):=by
 intro B Y O Z H ρ Q R w;refine jg ha B Y O Z H ρ (λc d=>if c=OG then tb Z d Q else Q (.bl OP) d) R (w.bind.imp λa e h d e1 f=>?_);obtain⟨b,g⟩:=a;cases b with
 |true=>exact hb.next f e1 e
 |false=>exact e h _ d e1 f (.bl OP)
theorem Jr(ha:EO K E ta fa):EO K E (Gc ta) (xq fa):=by intro B Y O Z H ρ Q R w;exact jg ha B Y O Z H ρ (λc b=>Q (.bl (!c)) b) R (w.bind.imp λa d f b e1 e=>d f _ b e1 e (.bl _))
def am:FA:=λρ=>.ok ([],ρ)
def af(fa:FE)(d:FA):FA:=λρ=>(fa ρ).bind λa=>(d a.2).bind λb=>.ok (gy a.1::b.1,b.2)
theorem HG:AO K E iI am:=λB Y O Z H ρ Q R w=>w O [] H .refl R .nil
theorem Er(ha:EO K E ta fa)(i:AO K E tr fr):AO K E (c8 ta tr) (af fa fr):=by intro B Y O Z H ρ Q R w;refine ha B Y O Z H ρ _ R (w.bind.imp λa e p x o e1 k h=>?_);obtain⟨m,e2,R2,g⟩:=jO k h;refine i B Y m Z o a.2 _ R2 (e.bind.imp λb d l ys n e3 j f=>?_);exact d l (x::ys) n (e1.trans (e2.trans e3)) j (.cons ⟨g.keep (kB a.1) e3,kB a.1⟩ f)
def pL(ρ:aB):cc PV->cj (cc D)
 |[]=>cL []
 |p::r=>match nv ρ p with
  |some d=>(match pL ρ r with
   |some ds=>cL (d::ds)
   |none=>CL)
  |none=>CL
theorem ou(R:Rl K B Y O Z H ρ):∀{vs:cc V} {ps:cc PV} {ds:cc D},Paired (λv pv=>To K Y O Z H ρ v pv/\iq pv) vs ps->pL ρ ps=cL ds->Paired (DX O K H) vs ds
 |_,_,_,.nil,e=>by cases e;exact .nil
 |_,_,_,.cons (l₂:=ps) (b:=p) h t,e=>by
  unfold pL at e;cases q:nv ρ p with
  |none=>simp_all
  |some d=>
   rw[q]at e;dsimp only at e;cases q2:pL ρ ps with
   |none=>simp_all
   |some a=>rw[q2]at e;cases e;exact .cons (jf R h.1 q) (ou R t q2)
def lj(ρ:aB):cc PV->cj (cc D×aB)
 |[]=>cL ([],ρ)
 |p::r=>match rZ ρ p with
  |some (d,ρ1)=>(match lj ρ1 r with
   |some (ds,ρ2)=>cL (d::ds,ρ2)
   |none=>CL)
  |none=>CL
theorem ox:∀{vs:cc V} {ps:cc PV} {ds:cc D} {O:aN} {ρ ρ':aB},Rl K B Y O Z H ρ->Paired (λv pv=>To K Y O Z H ρ v pv/\iq pv) vs ps->lj ρ ps=cL (ds,ρ')->∃X,Ev O H X H/\Rl K B Y X Z H ρ'/\QC X K H vs ds
 |_,_,_,O,_,_,R,.nil,e=>by cases e;exact⟨O,.refl,R,.nil⟩
 |_,_,_,O,ρ,ρ',R,.cons (l₁:=vs) (l₂:=ps) (b:=p) h t,e=>by
  unfold lj at e;cases q:rZ ρ p with
  |none=>simp_all
  |some r=>
   obtain⟨d,a⟩:=r;rw[q]at e;dsimp only at e;cases q2:lj a ps with
   |none=>simp_all
   |some j=>obtain⟨u,g⟩:=j;rw[q2]at e;cases e;obtain⟨o,e1,m,l⟩:=mQ R h.1 q;have i:Paired (λv pv=>To K Y o Z H a v pv/\iq pv) vs ps:=Paired.SE t λv pv ⟨h1,f⟩=>⟨h1.keep f e1,f⟩;obtain⟨n,e2,R2,k⟩:=ox m i q2;exact⟨n,e1.trans e2,R2,.cons (l.ev e2) k⟩
abbrev FN:=cc D->Res RV
def xF(K:Bn)(n:Nat)(F:FN):Sp:=λvs H Q E=>vs.length=n/\∃(B:aN) (ds:cc D),(∀a,B a->H a≠CL)/\QC B K H vs ds/\WR K E B H (Fin B K H Q) (F ds)
def cP(fa:FA):FE:=λρ=>(fa ρ).bind λa=>(Res.Qf (lj a.2 a.1)).bind λb=>if b.1.length<=1000 then .ok (.fz (.tuple b.1),b.2)else .bad
def eI(fa:FA):FE:=λρ=>(fa ρ).bind λa=>(Res.Qf (lj a.2 a.1)).bind λb=>if b.1.length<=1000 then .ok (.ow b.1,b.2)else .bad
theorem zn(h:n<=1000):n<=Pd:=OZ h (by decide)
theorem IV(ha:AO K E ta fa):EO K E (wH ta) (cP fa):=by
 intro B Y O Z H ρ Q R w;refine ha B Y O Z H ρ _ R (w.bind.imp λa f n vs o e1 j h=>?_);obtain⟨⟨ds,e⟩,q,b⟩:=f.Qf;obtain⟨m,e2,R2,d⟩:=ox j h q;dsimp only at b;by_cases hn:ds.length<=1000
 .rw[ai hn]at b;refine⟨by rw[d.length];exact zn hn,Fin.Wa d R2.od (iV R2 λk v l e3 i g=>b k v l (e1.trans (e2.trans e3)) i g)⟩
 .rw[ak hn]at b;exact b.elim
theorem Hw(ha:AO K E ta fa):EO K E (JF ta) (eI fa):=by
 intro B Y O Z H ρ Q R w;refine ha B Y O Z H ρ _ R (w.bind.imp λa f n vs o e1 j h=>?_);obtain⟨⟨ds,e⟩,q,b⟩:=f.Qf;obtain⟨m,e2,R2,d⟩:=ox j h q;dsimp only at b;by_cases hn:ds.length<=1000
 .rw[ai hn]at b;refine⟨by rw[d.length];exact zn hn,Fin.new d (iV R2 λk v l e3 i g=>b k v l (e1.trans (e2.trans e3)) i g)⟩
 .rw[ak hn]at b;exact b.elim
def B5(K:Bn)(r:cc V->Hp->VK->Prop)(f:cc D->cj RV):Prop:=∀(O:aN) (H:Hp) (xs:cc V) (ds:cc D) (rv:RV) (Q:VK),jy O H->Paired (DX O K H) xs ds->f ds=cL rv->Fin O K H Q rv->r xs H Q
def gb(f:cc D->cj RV)(fa:FA):FE:=λρ=>(fa ρ).bind λa=>(Res.Qf (pL a.2 a.1)).bind λds=>(Res.Qf (f ds)).bind λrv=>.ok (rv.pv,a.2)
theorem KM(j:B5 K r f)(ha:AO K E ta fa):EO K E (B8 r ta) (gb f fa):=by intro B Y O Z H ρ Q R w;refine ha B Y O Z H ρ _ R (w.bind.imp λa e m vs o e1 d i=>?_);obtain⟨ds,q,b⟩:=e.Qf;obtain⟨rv,g,b⟩:=b.Qf;exact j m o vs ds rv Q d.od (ou d i q) g (iV d λl v n e4 k h=>b l v n (e1.trans e4) k h)
def MO:D->cj Int
 |.int i=>cL i
 |_=>CL
theorem Gq(h:DX O K H x d)(e:MO d=cL i):x=.int i:=by cases d<;>cases e;cases h;rfl
abbrev FO:=aB->Res (cj Int×aB)
def KU(K:Bn)(E:XK)(t:TO)(f:FO):Prop:=
 ∀(B:aN) (Y:Hp) (O:aN) (Z:St) (H:Hp) (ρ:aB) (Q:cj Int->Hp->Prop),Rl K B Y O Z H ρ->WR K E B Y (λr=>∀X H',Ev O H X H'->Rl K B Y X Z H' r.2->Q r.1 H') (f ρ)->t Z H Q
def dJ:FO:=λρ=>.ok (CL,ρ)
def cS(fa:FE):FO:=λρ=>(fa ρ).bind λa=>(Res.Qf (nv a.2 a.1)).bind λd=>(Res.Qf (MO d)).bind λi=>.ok (cL i,a.2)
theorem z7:KU K E uS dJ:=λB Y O Z H ρ Q R w=>w O H .refl R
theorem yJ(ha:EO K E ta fa):KU K E (A5 ta) (cS fa):=by intro B Y O Z H ρ Q R w;refine ha B Y O Z H ρ _ R (w.bind.imp λa f j x k e1 e h=>?_);obtain⟨d,q,b⟩:=f.Qf;obtain⟨i,g,b⟩:=b.Qf;exact⟨i,Gq (jf e h q) g,b j k e1 e⟩
def Mc(K:Bn)(r:V->cj Int->cj Int->Hp->VK->Prop)(f:D->cj Int->cj Int->cj RV):Prop:=∀(O:aN) (H:Hp) (x:V) (lo hi:cj Int) (dx:D) (rv:RV) (Q:VK),jy O H->DX O K H x dx->f dx lo hi=cL rv->Fin O K H Q rv->r x lo hi H Q
def mZ(f:D->cj Int->cj Int->cj RV)(fa:FE)(b d:FO):FE:=λρ=>(fa ρ).bind λa=>(b a.2).bind λl=>(d l.2).bind λh=>(Res.Qf (nv h.2 (gy a.1))).bind λdx=>(Res.Qf (f dx l.1 h.1)).bind λrv=>.ok (rv.pv,h.2)
theorem Kn(o:Mc K r f)(ha:EO K E ta fa)(p:KU K E tl fl)(q:KU K E th fh):EO K E (NK r ta tl th) (mZ f fa fl fh):=by intro B Y O Z H ρ Q R w;refine ha B Y O Z H ρ _ R (w.bind.imp λa g N x M e1 z n=>?_);obtain⟨G,e2,R2,m⟩:=jO z n;refine p B Y G Z M a.2 _ R2 (g.bind.imp λl e F L e3 u=>?_);refine q B Y F Z L l.2 _ u (e.bind.imp λh b C J e4 d=>?_);obtain⟨dx,i,b⟩:=b.Qf;obtain⟨rv,j,b⟩:=b.Qf;exact o C J x l.1 h.1 dx rv Q d.od (jf d (m.keep (kB a.1) (e3.trans e4)) i) j (iV d λA v I e5 t k=>b A v I (e1.trans (e2.trans (e3.trans (e4.trans e5)))) t k)
end
theorem pT{l:cc α}(h:(l.set i x)[i]?=cL y):i<l.length:=by
 rw[Qn]at h;rw[ai rfl]at h;split at h
 .assumption
 .cases h
section
variable{K:Bn}{E:XK}{B O U:aN}{Z H H':Hp}{Y:St}{ρ ρ':aB}{v:V}
theorem Rl.mut{i:Nat}{ds q:cc D}{a:OL}{l:cc V}(R:Rl K B Z O Y H ρ)(hi:ρ[i]?=cL (cL (.ow ds)))(t:Y[i]?=cL (cL (.ref a)))(A:O a)(h0:Z a=CL)(hd:QC O K H l q):
  Rl K B Z O Y (upd H a (.lst l)) (ρ.set i (cL (.ow q))):=by
 have ev:Ev O H O (upd H a (.lst l)):=Ev.mut A _;refine⟨λb o e=>by rw[au (bB e h0)];exact R.same b o e,R.bo,R.bd,λb g=>?_,by rw[Qq];exact R.len,λj x f=>?_,λj k xs ys w M L T S=>?_⟩
 .by_cases e:b=a
  .rw[e,ay]at g;cases g
  .rw[au e]at g;exact R.od b g
 .rcases aP f with⟨rfl,N⟩|⟨Sf,f⟩
  .cases N;exact⟨_,t,a,l,rfl,A,h0,ay,hd.ev ev⟩
  .obtain⟨u,r,m⟩:=R.slot j x f
   refine⟨u,r,?_⟩;cases x with
   |fz d=>exact DV.ev ev m
   |pl i=>exact m
   |ow xs=>obtain⟨b,C,rfl,J,I,G,F⟩:=m;have p:b≠a:=λz=>Sf (R.one j i xs ds (.ref a) f hi (by rw[r,z]) t);exact⟨b,C,rfl,J,I,by rw[au p];exact G,F.ev ev⟩
 .have own:∀{j:Nat} {xs:cc D},(ρ.set i (cL (.ow q)))[j]?=cL (cL (.ow xs))->∃ys,ρ[j]?=cL (cL (.ow ys)):=λ{j xs} h=>by
   rcases aP h with⟨rfl,_⟩|⟨_,h⟩
   .exact⟨_,hi⟩
   .exact⟨_,h⟩
  obtain⟨P,n⟩:=own M;obtain⟨X,Q⟩:=own L;exact R.one j k P X w n Q T S
theorem ri(h:n<1000000):n<Pd:=Pk h (by decide)
def zF:cj (cj PV)->cj (cc D)
 |some (cL (.ow ds))=>cL ds
 |_=>CL
theorem wq(h:zF o=cL ds):o=cL (cL (.ow ds)):=by
 unfold zF at h;split at h
 .cases h;rfl
 .cases h
def eR(i:Nat)(fe:FE):FE:=λρ=>(Res.Qf (zF ρ[i]?)).bind λ_=>(fe ρ).bind λa=>(Res.Qf (rZ a.2 a.1)).bind λb=>(Res.Qf (zF b.2[i]?)).bind λds=>
 if ds.length<1000000 then .ok (.fz .none,b.2.set i (cL (.ow (ds++[b.1]))))else .bad
theorem Gu(n:EO K E te fe):EO K E (Kd K "list" nF (fY i) (c8 te iI)) (eR i fe):=by
 intro B Z O Y H ρ Q R w;obtain⟨r,l,w⟩:=w.Qf;obtain⟨v,h,a,vs,rfl,G,F,o,C⟩:=R.slot i _ (wq l);refine⟨_,h,.inl ⟨rfl,_,Tw.of o⟩,?_⟩;refine n B Z O Y H ρ _ R (w.bind.imp λb e J y L e1 u m=>?_);obtain⟨⟨d,j⟩,k,e⟩:=e.Qf;obtain⟨z,e2,R2,q⟩:=mQ u m k;obtain⟨ds,f,e⟩:=e.Qf;have f:=wq f;obtain⟨A,k1,I,t,p,k2,k3,k4,k5⟩:=R2.slot i _ f;subst p;rw[h]at k1;cases k1;dsimp only at e;by_cases g:ds.length<1000000
 .rw[ai g]at e;refine⟨a,t,y,rfl,rfl,k4,ri (by rw[k5.length];exact g),?_⟩;exact e z .Se _ (e1.trans (e2.trans (Ev.mut k2 _))) (R2.mut f h k2 k3 (k5.append (.cons q .nil))) .Se
 .rw[ak g]at e;exact e.elim
abbrev FG:=PV->aB->Res aB
abbrev J4:=cc D->aB->Res aB
def GO(K:Bn)(E:XK)(g:TG)(f:FG):Prop:=
 ∀(B:aN) (Z:Hp) (O:aN) (Y:St) (H:Hp) (ρ:aB) (v:V) (pv:PV) (Q:St->Hp->Prop),Rl K B Z O Y H ρ->To K Z O Y H ρ v pv->WR K E B Z (λρ'=>∀U σ' H',Ev O H U H'->Rl K B Z U σ' H' ρ'->Q σ' H') (f pv ρ)->g v Y H Q
def Kl(K:Bn)(E:XK)(g:tF)(f:J4):Prop:=
 ∀(B:aN) (Z:Hp) (O:aN) (Y:St) (H:Hp) (ρ:aB) (vs:cc V) (ds:cc D) (Q:St->Hp->Prop),Rl K B Z O Y H ρ->QC O K H vs ds->WR K E B Z (λρ'=>∀U σ' H',Ev O H U H'->Rl K B Z U σ' H' ρ'->Q σ' H') (f ds ρ)->g vs Y H Q
theorem Rl.aab(R:Rl K B Z O Y H ρ)(h:DV O K H v d):Rl K B Z O (Y.set i (cL v)) H (ρ.set i (cL (.fz d))):=by
 refine⟨R.same,R.bo,R.bd,R.od,by rw[Qq,Qq];exact R.len,λj x a=>?_,λj k xs ys w f b m l=>?_⟩
 .rcases aP a with⟨rfl,e⟩|⟨r,a⟩
  .cases e;have:=pT a;exact⟨v,by rw[Qn,ai rfl,ai (by rw[R.len];exact this)],h⟩
  .obtain⟨u,q,p⟩:=R.slot j x a;exact⟨u,by rw[Qn,ak (λz=>r z.symm)];exact q,p⟩
 .rcases aP f with⟨rfl,g⟩|⟨o,f⟩
  .cases g
  .rcases aP b with⟨rfl,g⟩|⟨n,b⟩
   .cases g
   .rw[Qn,ak (λz=>o z.symm)]at m;rw[Qn,ak (λz=>n z.symm)]at l;exact R.one j k xs ys w f b m l
theorem Rl.abK(R:Rl K B Z O Y H ρ)(h:To K Z O Y H ρ v (.ow ds)):Rl K B Z O (Y.set i (cL v)) H (ρ.set i (cL (.ow ds))):=by
 obtain⟨a,vs,rfl,h1,F,C,A,n⟩:=h;refine⟨R.same,R.bo,R.bd,R.od,by rw[Qq,Qq];exact R.len,λj x f=>?_,λj k xs ys w t b g d=>?_⟩
 .rcases aP f with⟨rfl,e⟩|⟨J,f⟩
  .cases e;have:=pT f;exact⟨.ref a,by rw[Qn,ai rfl,ai (by rw[R.len];exact this)],a,vs,rfl,h1,F,C,A⟩
  .obtain⟨u,q,p⟩:=R.slot j x f;exact⟨u,by rw[Qn,ak (λz=>J z.symm)];exact q,p⟩
 .rcases aP t with⟨rfl,I⟩|⟨o,m⟩
  .rcases aP b with⟨rfl,G⟩|⟨l,b⟩
   .rfl
   .rw[Qn,ak (λz=>l z.symm)]at d
    rcases aP g with⟨_,e⟩|⟨z,_⟩
    .cases e;exact cb d (n k ys b)
    .exact cb rfl z
  .have r:=m
   rw[Qn,ak (λz=>o z.symm)]at g;rcases aP b with⟨rfl,I⟩|⟨l,b⟩
   .rcases aP d with⟨_,e⟩|⟨z,_⟩
    .cases e;exact cb g (n j xs m)
    .exact cb rfl z
   .rw[Qn,ak (λz=>l z.symm)]at d;exact R.one j k xs ys w m b g d
def gN(i:Nat):FG:=λpv ρ=>match pv with
 |.ow ds=>.ok (ρ.set i (cL (.ow ds)))
 |.fz d=>.ok (ρ.set i (cL (.fz d)))
 |.pl j=>(Res.Qf (rZ ρ (.pl j))).bind λb=>.ok (b.2.set i (cL (.fz b.1)))
theorem ve:GO K E (jp i) (gN i):=by
 intro B Z O Y H ρ v pv Q R p w;cases pv with
 |ow ds=>exact w O _ H .refl (R.abK p)
 |fz d=>exact w O _ H .refl (R.aab p)
 |pl j=>obtain⟨⟨d,a⟩,q,w⟩:=WR.Qf (show WR K E B Z _ ((Res.Qf (rZ ρ (.pl j))).bind λb=>.ok (b.2.set i (cL (.fz b.1))))from w);obtain⟨f,e2,R2,e⟩:=mQ R p q;exact w f _ H e2 (R2.aab e)
def xt:J4:=λds ρ=>match ds with
 |[]=>.ok ρ
 |_=>.bad
def li(f:FG)(g:J4):J4:=λds ρ=>match ds with
 |[]=>.bad
 |d::r=>(f (.fz d) ρ).bind λa=>g r a
theorem Hi:Kl K E EU xt:=by
 intro B Z O Y H ρ vs ds Q R a w;cases a with
 |nil=>exact⟨rfl,w O Y H .refl R⟩
 |cons _ _=>exact w.elim
theorem DD(h1:GO K E t f)(l:Kl K E u g):Kl K E (wt t u) (li f g):=by
 intro B Z O Y H ρ vs ds Q R m w;cases m with
 |nil=>exact w.elim
 |cons k j=>rename_i v vs d ds;refine⟨_,_,rfl,h1 B Z O Y H ρ _ (.fz d) _ R k (WR.imp (WR.bind w) λe i p b z e1 n=>?_)⟩;exact l B Z p b z e _ _ Q n (j.ev e1) (i.imp λh q o a r e2 R2=>q o a r (e1.trans e2) R2)
def NH:D->cj (cc D)
 |.tuple ds=>cL ds
 |_=>CL
theorem An(h:DX O K H x d)(e:NH d=cL ds):∃a xs,x=.ref a/\TU O K H a xs/\QC O K H xs ds:=by
 cases d<;>cases e;cases h with
 |tup h b=>exact⟨_,_,rfl,h,b⟩
def gT(n:Nat)(f:J4):FG:=λpv ρ=>(Res.Qf (nv ρ pv)).bind λd=>(Res.Qf (NH d)).bind λds=>if ds.length=n then f ds ρ else .bad
theorem Gy(h:Kl K E t f):GO K E (D2 K n t) (gT n f):=by
 intro B Z O Y H ρ v pv Q R p w;obtain⟨d,g,w⟩:=w.Qf;obtain⟨ds,e,w⟩:=w.Qf;obtain⟨a,xs,rfl,i,b⟩:=An (jf R p g) e;by_cases hn:ds.length=n
 .rw[ai hn]at w;exact⟨a,xs,rfl,i.1,b.length.trans hn,h B Z O Y H ρ xs ds Q R b w⟩
 .rw[ak hn]at w;exact w.elim
inductive Fl where
 |nx (ρ:aB)
 |rt (rv:RV)
 |bk (ρ:aB)
 |ct (ρ:aB)
abbrev FS:=aB->Res Fl
def V7(K:Bn)(B:aN)(Z:Hp)(O:aN)(H:Hp)(D:Ends):Fl->Prop
 |.nx ρ'=>∀U σ' H',Ev O H U H'->Rl K B Z U σ' H' ρ'->D.nx σ' H'
 |.bk ρ'=>∀U σ' H',Ev O H U H'->Rl K B Z U σ' H' ρ'->D.bk σ' H'
 |.ct ρ'=>∀U σ' H',Ev O H U H'->Rl K B Z U σ' H' ρ'->D.ct σ' H'
 |.rt rv=>Fin B K Z D.rt rv
def SO(K:Bn)(E:XK)(t:TS)(g:FS):Prop:=
 ∀(B:aN) (Z:Hp) (O:aN) (Y:St) (H:Hp) (ρ:aB) (D:Ends),Rl K B Z O Y H ρ->WR K E B Z (V7 K B Z O H D) (g ρ)->t D Y H
theorem V7.ev{D:Ends}(e:Ev O H O1 H1)(h:V7 K B Z O H D fl):V7 K B Z O1 H1 D fl:=by
 cases fl with
 |nx ρ'=>exact λU a H' b d=>h U a H' (e.trans b) d
 |bk ρ'=>exact λU a H' b d=>h U a H' (e.trans b) d
 |ct ρ'=>exact λU a H' b d=>h U a H' (e.trans b) d
 |rt rv=>exact h
def bJ:FS:=λρ=>.ok (.nx ρ)
def av(f g:FS):FS:=λρ=>(f ρ).bind λa=>match a with
 |.nx ρ1=>g ρ1
 |a=>.ok a
def bQ(f:FE):FS:=λρ=>(f ρ).bind λa=>.ok (.nx a.2)
def aJ(f:FE)(g:FG):FS:=λρ=>(f ρ).bind λa=>(g a.1 a.2).bind λb=>.ok (.nx b)
def iP(c:FT)(f g:FS):FS:=λρ=>(c ρ).bind λa=>if a.1=OG then f a.2 else g a.2
def xW(ρ:aB):PV->cj RV
 |.fz d=>cL (.fz d)
 |.ow ds=>cL (.ow ds)
 |.pl i=>match ρ[i]? with
  |some (cL (.fz d))=>cL (.fz d)
  |some (cL (.ow ds))=>cL (.ow ds)
  |_=>CL
def bX(f:FE):FS:=λρ=>(f ρ).bind λa=>(Res.Qf (xW a.2 a.1)).bind λrv=>.ok (.rt rv)
theorem EV:SO K E yS bJ:=λB Z O Y H ρ D R w=>w O Y H .refl R
theorem HB(h1:SO K E t f)(h:SO K E u g):SO K E (Eu t u) (av f g):=by
 intro B Z O Y H ρ D R w;refine h1 B Z O Y H ρ {D with nx:=u D} R (WR.imp (WR.bind w) λe b=>?_);cases e with
 |nx a=>exact λj d k e1 i=>h B Z j d k a D i (WR.imp b λe q=>q.ev e1)
 |rt rv=>exact b
 |bk a=>exact b
 |ct a=>exact b
theorem Di(h:EO K E t f):SO K E (vM t) (bQ f):=by intro B Z O Y H ρ D R w;exact h B Z O Y H ρ _ R (w.bind.imp λa b e x g e1 d i=>b e Y g e1 d)
theorem Gp(h:EO K E t f)(k:GO K E g fg):SO K E (Cu t g) (aJ f fg):=by intro B Z O Y H ρ D R w;refine h B Z O Y H ρ _ R (w.bind.imp λa i n x p e1 l j=>?_);exact k B Z n Y p a.2 x a.1 _ l j (i.bind.imp λd e m b o e2 R2=>e m b o (e1.trans e2) R2)
theorem Lh(k:Vi K E c fc)(h1:SO K E t f)(l:SO K E u g):SO K E (Cf c t u) (iP fc f g):=by
 intro B Z O Y H ρ D R w;refine k B Z O Y H ρ _ R (w.bind.imp λa e i j e1 h=>?_);obtain⟨b,d⟩:=a;cases b with
 |true=>exact h1 B Z i Y j d D h (WR.imp e λm q=>q.ev e1)
 |false=>exact l B Z i Y j d D h (WR.imp e λm q=>q.ev e1)
theorem Gs{pv:PV}(R:Rl K B Z O Y H ρ)(p:To K Z O Y H ρ v pv)(e:xW ρ pv=cL rv)(w:Fin B K Z Q rv):Q v H:=by
 have ow:∀{a:OL} {vs:cc V} {ds:cc D},O a->Z a=CL->H a=cL (.lst vs)->QC O K H vs ds->Fin B K Z Q (.ow ds)->Q (.ref a) H:=λ{a vs ds} h1 k g f w=>
  w a vs H R.same k g (f.ev (Ev.sub λb z=>z.elim (R.bo b) λe=>by simp_all))
 have fz:∀{d:D},DV O K H v d->Fin B K Z Q (.fz d)->Q v H:=λ{d} h w=>w v H R.same (h.ev (Ev.sub R.bo));cases pv with
 |fz d=>cases e;exact fz p w
 |ow ds=>cases e;obtain⟨a,vs,rfl,h1,k,g,f,r⟩:=p;exact ow h1 k g f w
 |pl i=>
  have n:=p;unfold xW at e;dsimp only at e;cases q:ρ[i]? with
  |none=>simp_all
  |some o=>
   cases o with
   |none=>simp_all
   |some x=>
    obtain⟨u,m,l⟩:=R.slot i x q;rw[n]at m;cases m;rw[q]at e;cases x with
    |fz d=>cases e;exact fz l w
    |ow ds=>cases e;obtain⟨a,vs,rfl,h1,k,g,f⟩:=l;exact ow h1 k g f w
    |pl j=>exact l.elim
theorem IL(h:EO K E t f):SO K E (Cv t) (bX f):=by intro B Z O Y H ρ D R w;refine h B Z O Y H ρ _ R (w.bind.imp λa b g x i e1 e d=>?_);obtain⟨rv,q,b⟩:=b.Qf;exact Gs e d q b
def oE(K:Bn)(J:It)(O:aN)(H:Hp)(ds:cc D):Prop:=∀U H',Ev O H U H'->jy U H'->
 (∀i,i<ds.length->J.go i H'/\∀x Wl,J.Y8 i H' x Wl->QL H' Wl/\∃d,ds[i]?=cL d/\DV U K Wl x d)/\J.stop ds.length H'
abbrev FI:=aB->Res (cc D×aB)
def IO(K:Bn)(E:XK)(b:TI)(d:FI):Prop:=
 ∀(B:aN) (Z:Hp) (O:aN) (Y:St) (H:Hp) (ρ:aB) (a:It->Hp->Prop),Rl K B Z O Y H ρ->WR K E B Z (λr=>∀U J H',Ev O H U H'->Rl K B Z U Y H' r.2->oE K J U H' r.1->a J H') (d ρ)->b Y H a
def rP(gt:FG)(b:FS):cc D->FS
 |[],ρ=>.ok (.nx ρ)
 |d::r,ρ=>(gt (.fz d) ρ).bind λa=>(b a).bind λe=>match e with
  |.nx ρ2=>rP gt b r ρ2
  |.ct ρ2=>rP gt b r ρ2
  |.bk ρ2=>.ok (.nx ρ2)
  |.rt rv=>.ok (.rt rv)
def dG(d:FI)(gt:FG)(b:FS):FS:=λρ=>(d ρ).bind λa=>rP gt b a.1 a.2
theorem HL(hi:IO K E wi fi)(T:GO K E g gt)(hb:SO K E tb b):SO K E (wP wi g tb) (dG fi gt b):=by
 intro B Z O Y H ρ D R w;refine hi B Z O Y H ρ _ R (w.bind.imp λa L C J Q e1 P N=>?_);obtain⟨ds,A⟩:=a;dsimp only at L N P;refine⟨λi m f H'=>m=ds.length - i/\i<=ds.length/\∃O2 ρ2,Ev C Q O2 H'/\Rl K B Z O2 f H' ρ2/\WR K E B Z (V7 K B Z O H D) (rP gt b (ds.drop i) ρ2),⟨_,rfl,P0 _,C,A,.refl,P,L⟩,?_⟩;rintro i m l I ⟨rfl,hi,O2,ρ2,e2,R2,w2⟩;obtain⟨go,n⟩:=N O2 I e2 R2.od;by_cases t:i<ds.length
 .obtain⟨g1,g2⟩:=go i t
  refine .inr ⟨g1,λf H'=>i+1<=ds.length/\∃O2 ρ2,Ev C Q O2 H'/\Rl K B Z O2 f H' ρ2/\WR K E B Z (V7 K B Z O H D) (rP gt b (ds.drop (i+1)) ρ2),λf H' ⟨h1,h2⟩=>⟨ds.length - (i+1),by ext,rfl,h1,h2⟩,λx G y=>?_⟩;obtain⟨M,d,X,dv⟩:=g2 x G y;have ed:ds.drop i=d::ds.drop (i+1):=by obtain⟨_,q⟩:=OI.mp X;rw[Ql t,q]
  rw[ed]at w2;have e3:Ev O2 I O2 G:=Ev.grow M;refine T B Z O2 l G ρ2 x (.fz d) _ (R2.grow M) dv (WR.imp (WR.bind w2) λz S O4 u H4 e4 R4=>?_);have k:=e2.trans (e3.trans e4);refine hb B Z O4 u H4 z _ R4 (WR.imp (WR.bind S) λfl r=>?_);cases fl with
  |nx h=>exact λp j F e5 o=>⟨t,p,h,k.trans e5,o,r⟩
  |ct h=>exact λp j F e5 o=>⟨t,p,h,k.trans e5,o,r⟩
  |bk h=>exact λp j F e5 o=>r p j F (e1.trans (k.trans e5)) o
  |rt rv=>exact r
 .have e:i=ds.length:=by ext
  subst e;rw[QD (OJ _)]at w2;exact .inl ⟨n,w2 O2 l I (e1.trans e2) R2⟩
def eX:D->cj (cc D)
 |.tuple ds=>cL ds
 |.list ds=>cL ds
 |_=>CL
def wa(K:Bn)(d:TE):TI:=λY H R=>d Y H λx b=>∃a,x=.ref a/\(((∃xs,Tw K b a xs)/\R (MK K a) b)\/((∃xs,Tj K b a xs)/\R (Nd K a) b))
theorem sF(u:PE X l tl):PI X tg l (wa X.K tl):=by
 intro g s Y H R I h;refine bK (u g s Y H _ I h) λv f ⟨x,m,d,n,r⟩=>?_;obtain⟨a,e,q⟩:=r;subst e;cases n;rcases q with⟨⟨xs,i⟩,q⟩|⟨⟨xs,i⟩,q⟩
 .obtain⟨k,rv,p,t⟩:=d.list i
  refine SF p.isList ?_;refine⟨f.heap.objs.size,[f.heap.objs.size],_,_,m,rfl,d.kept λb o e=>c0 _ e,xa a _,⟨_,c4 _ rfl,rfl,rfl⟩,λb j=>?_,q⟩;have e:b=f.heap.objs.size:=by simpa using j
  subst e;exact d.VY (OJ _) (d.QX.fresh (OJ _))
 .obtain⟨k,rv,p,t⟩:=d.tuple i
  refine VV (show f.heap.IsTuple a k.toArray from p) ?_;refine⟨f.heap.objs.size,[f.heap.objs.size],_,_,m,rfl,d.kept λb o e=>c0 _ e,tW a _,⟨_,c4 _ rfl,rfl,rfl⟩,λb j=>?_,q⟩;have e:b=f.heap.objs.size:=by simpa using j
  subst e;exact d.VY (OJ _) (d.QX.fresh (OJ _))
theorem u3(h:UZ O K H a xs)(hd:QC O K H xs ds):oE K (MK K a) O H ds:=by intro U H' e n;have b:=h.ev e;have f:=hd.ev e;refine⟨λi hi=>?_,⟨xs,b.1.sq,by rw[hd.length];exact OJ _⟩⟩;obtain⟨x,k,_⟩:=f.get (OY hi);refine⟨⟨xs,x,b.1.sq,k⟩,?_⟩;rintro y l ⟨rfl,hy⟩;obtain⟨d,j,g⟩:=f.WJ (hy xs b.1.sq);exact⟨QL.refl _,d,j,g⟩
theorem zX(h:TU O K H a xs)(hd:QC O K H xs ds):oE K (Nd K a) O H ds:=by intro U H' e n;have b:=h.ev e;have f:=hd.ev e;refine⟨λi hi=>?_,⟨xs,b.1,by rw[hd.length];exact OJ _⟩⟩;obtain⟨x,k,_⟩:=f.get (OY hi);refine⟨⟨xs,x,b.1,k⟩,?_⟩;rintro y l ⟨rfl,hy⟩;obtain⟨d,j,g⟩:=f.WJ (hy xs b.1);exact⟨QL.refl _,d,j,g⟩
def fT(fe:FE):FI:=λρ=>(fe ρ).bind λa=>(Res.Qf (rZ a.2 a.1)).bind λb=>(Res.Qf (eX b.1)).bind λds=>.ok (ds,b.2)
theorem GP(h:EO K E tl fe):IO K E (wa K tl) (fT fe):=by
 intro B Z O Y H ρ n R w;refine h B Z O Y H ρ _ R (w.bind.imp λa b o x i e1 m k=>?_);obtain⟨⟨d,j⟩,q,b⟩:=b.Qf;obtain⟨g,e2,R2,l⟩:=mQ m k q;obtain⟨ds,e,b⟩:=b.Qf;dsimp only at e;cases l with
 |tup h f=>cases e;exact⟨_,rfl,.inr ⟨⟨_,h.1⟩,b g _ i (e1.trans e2) R2 (zX h f)⟩⟩
 |lst h f=>cases e;exact⟨_,rfl,.inl ⟨⟨_,h.1.sq⟩,b g _ i (e1.trans e2) R2 (u3 h f)⟩⟩
 |_=>cases e
def bR(lo:Int)(n:Nat):cc D:=(PH n).map λ(k:Nat)=>.int (lo+(k:Int))
theorem pZ:oE K (Kv lo n) O H (bR lo n):=by
 intro U H' e b;have a:(bR lo n).length=n:=by unfold bR;simp_all
 refine⟨λi hi=>?_,by show n<=_;rw[a];exact OJ _⟩;rw[a]at hi;refine⟨hi,?_⟩;rintro x d ⟨rfl,rfl⟩;exact⟨QL.refl _,.int (lo+i),by unfold bR;simp_all,.int _⟩
def dc(i:Int):Prop:= -(2^62)<=i/\i<2^62
noncomputable instance(i:Int):Decidable (dc i):=by unfold dc;infer_instance
def dL:cc D->cj (cc D)
 |[.int j]=>if dc j then cL (bR 0 j.toNat)else CL
 |_=>CL
def wQ:cc D->cj (cc D)
 |[.int i,.int j]=>if dc i/\dc j then cL (bR i (j - i).toNat)else CL
 |_=>CL
def fH(f:cc D->cj (cc D))(fa:FA):FI:=λρ=>(fa ρ).bind λa=>(Res.Qf (pL a.2 a.1)).bind λds=>(Res.Qf (f ds)).bind λxs=>.ok (xs,a.2)
theorem Dp(h:AO K E ta fa):IO K E (Gj ta) (fH dL fa):=by
 intro B Z O Y H ρ m R w;refine h B Z O Y H ρ _ R (w.bind.imp λa d k vs l e1 f g=>?_);obtain⟨ds,q,d⟩:=d.Qf;obtain⟨xs,b,d⟩:=d.Qf;have px:=ou f g q;unfold dL at b;split at b
 .rename_i j
  split at b
  .rename_i e
   cases b;cases px with
   |cons h1 i=>cases i;cases h1;exact⟨j,rfl,e.1,e.2,d k _ l e1 f pZ⟩
  .cases b
 .cases b
theorem Cr(h:AO K E ta fa):IO K E (F7 ta) (fH wQ fa):=by
 intro B Z O Y H ρ o R w;refine h B Z O Y H ρ _ R (w.bind.imp λa d m vs n e1 g k=>?_);obtain⟨ds,q,d⟩:=d.Qf;obtain⟨xs,b,d⟩:=d.Qf;have px:=ou g k q;unfold wQ at b;split at b
 .rename_i i j
  split at b
  .rename_i e
   cases b;cases px with
   |cons h1 f=>
    cases f with
    |cons f l=>cases l;cases h1;cases f;exact⟨i,j,rfl,⟨e.1.1,e.1.2,e.2.1,e.2.2⟩,d m _ n e1 g pZ⟩
  .cases b
 .cases b
end
section
variable{K:Bn}{E:XK}{B O Y:aN}{X H H':Hp}{Z:St}{ρ ρ':aB}{v:V}
def yH:cj PV->cj PV
 |some (.fz d)=>cL (.fz d)
 |_=>CL
def cn(ρ:aB):aB:=ρ.map yH
theorem sX{i:Nat}(h:(cn ρ)[i]?=cL (cL x)):∃d,x=.fz d/\ρ[i]?=cL (cL (.fz d)):=by
 unfold cn at h;rw[OT]at h;cases q:ρ[i]? with
 |none=>simp_all
 |some o=>
  rw[q]at h;have a:=Pr h;unfold yH at a;split at a
  .cases a;exact⟨_,rfl,rfl⟩
  .cases a
def ni(ρ:aB):cc Nat->cj (cc D×aB)
 |[]=>cL ([],ρ)
 |j::r=>match rZ ρ (.pl j)with
  |some (d,ρ1)=>(match ni ρ1 r with
   |some (c,ρ2)=>cL (d::c,ρ2)
   |none=>CL)
  |none=>CL
theorem wN(R:Rl K B X O Z H ρ)(h:rZ ρ (.pl i)=cL (d,ρ')):∃v,Z[i]?=cL (cL v):=by
 have a:Nf ρ i ρ[i]?=cL (d,ρ'):=h;cases q:ρ[i]? with
 |none=>rw[q]at a;cases a
 |some o=>
  cases o with
  |none=>rw[q]at a;cases a
  |some x=>obtain⟨v,b,_⟩:=R.slot i x q;exact⟨v,b⟩
theorem rR:∀{b:cc Nat} {ds:cc D} {O:aN} {ρ ρ':aB},Rl K B X O Z H ρ->ni ρ b=cL (ds,ρ')->∃Y vs,Ev O H Y H/\Rl K B X Y Z H ρ'/\QC Y K H vs ds/\b.map (λj=>(Z[j]?).join)=vs.map cL
 |[],_,O,_,_,R,e=>by cases e;exact⟨O,[],.refl,R,.nil,rfl⟩
 |j::r,_,O,ρ,ρ',R,e=>by
  unfold ni at e;cases q:rZ ρ (.pl j)with
  |none=>simp_all
  |some p=>
   obtain⟨d,a⟩:=p;rw[q]at e;dsimp only at e;cases q2:ni a r with
   |none=>simp_all
   |some g=>obtain⟨c,f⟩:=g;rw[q2]at e;cases e;obtain⟨v,h⟩:=wN R q;obtain⟨o,e1,l,k⟩:=mQ (pv:=.pl j) R h q;obtain⟨m,vs,e2,R2,i,n⟩:=rR l q2;exact⟨m,v::vs,e1.trans e2,R2,.cons (k.ev e2) i,by simp_all⟩
def cW(gt:FG)(ft:FT)(fe:FE):cc D->aB->cc D->Res (cc D)
 |[],_,acc=>.ok acc
 |d::r,ρ,acc=>(gt (.fz d) ρ).bind λe=>(ft e).bind λb=>if b.1=OG then(fe b.2).bind λa=>(Res.Qf (rZ a.2 a.1)).bind λx=>
   if acc.length<1000000 then cW gt ft fe r (cn x.2) (acc++[x.1])else .bad
  else cW gt ft fe r (cn b.2) acc
def jU:Res α->Res α
 |.er _=>.bad
 |r=>r
def gP(n:Nat)(b:cc Nat)(e:FI)(gt:FG)(ft:FT)(fe:FE):FE:=λρ=>(e ρ).bind λa=>(Res.Qf (ni a.2 b)).bind λc=>
 (jU (cW gt ft fe a.1 (ON n CL++c.1.map λd=>cL (.fz d)) [])).bind λxs=>.ok (.ow xs,c.2)
theorem ut{own:cc Str}(h:own.length=n):own.map (λ_=>(CL:cj V))=ON n CL:=by
 subst h
 induction own with
 |nil=>rfl
 |cons x r a=>grind
theorem vX(h:WR K E B X P (jU r)):∃a,r=.ok a/\P a:=by
 cases r with
 |ok a=>exact⟨a,rfl,h⟩
 |er x=>exact h.elim
 |bad=>exact h.elim
def Ki(K:Bn)(J:It)(O:aN)(H:Hp)(ds:cc D):Prop:=∀Y H',Ev O H Y H'->QL H H'->jy Y H'->
 (∀i,i<ds.length->J.go i H'/\∀x Wl,J.Y8 i H' x Wl->QL H' Wl/\∃d,ds[i]?=cL d/\DV Y K Wl x d)/\J.stop ds.length H'
def Mm(K:Bn)(E:XK)(b:TI)(d:FI):Prop:=
 ∀(B:aN) (X:Hp) (O:aN) (Z:St) (H:Hp) (ρ:aB) (a:It->Hp->Prop),Rl K B X O Z H ρ->WR K E B X (λr=>∀Y J H',Ev O H Y H'->Rl K B X Y Z H' r.2->Ki K J Y H' r.1->a J H') (d ρ)->b Z H a
theorem IO.s(h:IO K E wi fi):Mm K E wi fi:=λB X O Z H ρ b R w=>h B X O Z H ρ b R (w.imp λr q Y J H' e R a=>q Y J H' e R λd f e2 _ n=>a d f e2 n)
theorem BZ(hn:own.length=n)(hf:fv.map (·.2)=fj)
  (hi:Mm K E wi fi) (hg:GO K E0 g gt) (ht:Vi K E0 tc ft) (he:EO K E0 te fe):EO K E (mX own fv wi g tc te) (gP n fj fi gt ft fe):=by
 intro B X O Z H ρ Q R w;refine hi B X O Z H ρ _ R (w.bind.imp λa w1 O1 J H1 e1 R1 it=>?_);obtain⟨ds,ρ1⟩:=a;obtain⟨⟨cs,ρ2⟩,qc,w1⟩:=w1.Qf;dsimp only at qc it;obtain⟨F,vs,e2,R2,VQ,hvs⟩:=rR R1 qc;obtain⟨xs,qx,w1⟩:=vX (WR.bind w1);intro l T;have hB:∀{H':Hp},QL H1 H'->H' l≠CL->∀a,aY F l a->H' a≠CL:=λ{H'} s nd a h z=>h.elim (λq=>R2.od a (s.free z) q) λe=>nd (by rw[<-e];exact z);refine⟨λi m G H'=>m=ds.length - i/\i<=ds.length/\∃(A:cc D) (ys:cc V) (t:aB),QL H1 H'/\H' l=cL (.lst ys)/\QC (aY F l) K H' ys A/\G.length=t.length/\(∀(j:Nat) (x:PV),t[j]?=cL (cL x)->∃d u,x=PV.fz d/\G[j]?=cL (cL u)/\DV (aY F l) K H' u d)/\cW gt ft fe (ds.drop i) t A=.ok xs,
  ⟨_,rfl,P0 _,[],[],_,bE T _,ay,.nil,?_,λj x I=>?_,qx⟩,?_⟩
 .unfold dP
  rw[OO,OO,OH,OH,Py,OH,hn,<-VQ.length];have:=ey Q8 hvs
  grind
 .have hm:fv.map (λp=>(Z[p.2]?).join)=vs.map cL:=by rw[<-hvs,<-hf,PY];rfl
  unfold dP;rw[ut hn,hm];by_cases hj:j<n
  .rw[Pc (by rw[Py];exact hj),Q5,ai hj]at I;cases I
  .rw[Pn (by rw[Py];ext),Py,OT]at I⊢
   cases qd:cs[j - n]? with
   |none=>rw[qd]at I;cases I
   |some d=>rw[qd]at I;cases I;obtain⟨u,hu,du⟩:=VQ.get qd;exact⟨d,u,rfl,by rw[hu];rfl,du.ev (Ev.add (bE T _) T)⟩
 .rintro i m G H' ⟨rfl,hi,A,ys,t,s,hD,dys,hl,Xq,f⟩
  have nD:H' l≠CL:=by rw[hD];simp
  have no':=λa z h=>hB s nD a h z;have ev1:=e2.trans (Ev.add s T);obtain⟨go,stop⟩:=it (aY F l) H' ev1 s no';by_cases SG:i<ds.length
  .obtain⟨g1,g2⟩:=go i SG
   refine .inr ⟨g1,λC L=>i+1<=ds.length/\∃(A:cc D) (ys:cc V) (t:aB),QL H1 L/\L l=cL (.lst ys)/\QC (aY F l) K L ys A/\C.length=t.length/\(∀(j:Nat) (x:PV),t[j]?=cL (cL x)->∃d u,x=PV.fz d/\C[j]?=cL (cL u)/\DV (aY F l) K L u d)/\cW gt ft fe (ds.drop (i+1)) t A=.ok xs,
    λC L ⟨h1,h2⟩=>⟨ds.length - (i+1),by ext,rfl,h1,h2⟩,λx H3 y=>?_⟩
   obtain⟨s3,d,hd,dv⟩:=g2 x H3 y;have ed:ds.drop i=d::ds.drop (i+1):=by obtain⟨_,q⟩:=OI.mp hd;rw[Ql SG,q]
   rw[ed]at f;have hD3:=s3 _ _ hD;have nD3:H3 l≠CL:=by rw[hD3];simp
   have sv:=s.trans s3;have RC:Rl K (aY F l) H3 (aY F l) G H3 t:=⟨QL.refl _,λ_ h=>h,hB sv nD3,λa z h=>hB sv nD3 a h z,hl,λj x I=>by obtain⟨d,u,rfl,h1,h2⟩:=Xq j x I;exact⟨u,h1,h2.ev (Ev.grow s3)⟩,λj k xs ys w hj=>by obtain⟨d,u,e,_⟩:=Xq j _ hj;cases e⟩;unfold cW at f;have S:∀{O5:aN} {C:St} {L:Hp} {M:aB} {U:Hp},Rl K (aY F l) H3 O5 C L M->(∀b o,b≠l->L b=cL o->U b=cL o)->C.length=(cn M).length/\∀(j:Nat) (x:PV),(cn M)[j]?=cL (cL x)->∃d u,x=PV.fz d/\C[j]?=cL (cL u)/\DV (aY F l) K U u d:=λ{O5 C L M U} P k=>by refine⟨by unfold cn;rw[OH];exact P.len,λj x I=>?_⟩;obtain⟨d,rfl,hxx⟩:=sX I;obtain⟨u,h1,h2⟩:=P.slot j _ hxx;refine⟨d,u,rfl,h1,DV.ev (λb o h n=>⟨k b o (λe=>n (.inr e)) h,n⟩) (DV.ev (Ev.sub P.bo) h2)⟩
   refine hg _ _ _ G H3 t x (.fz d) _ RC dv ?_;cases qg:gt (.fz d) t with
   |er z=>rw[qg]at f;cases f
   |bad=>rw[qg]at f;cases f
   |ok ρ3=>
    rw[qg,eJ]at f;intro O4 σ4 H4 e4 R4;refine ht _ _ _ σ4 H4 ρ3 _ R4 ?_;cases qt:ft ρ3 with
    |er z=>rw[qt]at f;cases f
    |bad=>rw[qt]at f;cases f
    |ok b=>
     obtain⟨b,ρ4⟩:=b;rw[qt,eJ]at f;intro O5 L e5 P;cases b with
     |false=>rw[ak OX]at f⊢;obtain⟨l5,k5⟩:=S P λb o _ h=>h;refine⟨SG,A,ys,cn ρ4,sv.trans P.same,P.same _ _ hD3,?_,l5,k5,f⟩;exact dys.ev (Ev.grow (s3.trans P.same))
     |true=>
      rw[ai rfl]at f⊢;refine he _ _ _ σ4 L ρ4 _ P ?_;cases qe:fe ρ4 with
      |er z=>rw[qe]at f;cases f
      |bad=>rw[qe]at f;cases f
      |ok r=>
       rw[qe,eJ]at f;intro O6 yv U e6 R6 p6;cases q7:rZ r.2 r.1 with
       |none=>rw[q7]at f;cases f
       |some xr=>
        obtain⟨xd,ρ7⟩:=xr;rw[q7]at f;obtain⟨O7,e7,R7,dv7⟩:=mQ R6 p6 q7;have hD7:=R7.same _ _ hD3;have N:(if A.length<1000000 then cW gt ft fe (ds.drop (i+1)) (cn ρ7) (A++[xd])else .bad)=.ok xs:=f;by_cases YJ:A.length<1000000
        .rw[ai YJ]at N
         have up:∀b o,b≠l->U b=cL o->upd U l (.lst (ys++[yv])) b=cL o:=λb o hb h=>by rw[au hb];exact h
         have evD:Ev (aY F l) U (aY F l) (upd U l (.lst (ys++[yv]))):=λb o h n=>⟨up b o (λe=>n (.inr e)) h,n⟩;have abv:=dys.ev (Ev.grow (s3.trans R7.same));obtain⟨l5,k5⟩:=S R7 up;refine⟨ys,hD7,ri (by rw[dys.length];exact YJ),SG,A++[xd],ys++[yv],cn ρ7,λb o h=>?_,ay,?_,l5,k5,N⟩
         .rw[au (bB h T)];exact R7.same _ _ (sv _ _ h)
         .exact(abv.append (.cons (DV.ev (Ev.sub R7.bo) dv7) .nil)).ev evD
        .rw[ak YJ]at N;cases N
  .have e:i=ds.length:=by ext
   subst e;rw[QD (OJ _)]at f;have f:=f;cases f;refine .inl ⟨stop,?_⟩;refine w1 (aY F l) (.ref l) H' (e1.trans ev1) (R2.add s T nD) ⟨l,ys,rfl,.inr rfl,R2.Ya T,hD,dys,λk es hk z=>?_⟩;obtain⟨u,h1,b,us,e2,g1,g2,g3,g4⟩:=R2.slot k _ hk;rw[z]at h1;cases h1;cases e2;rw[T]at g3;cases g3
def GD(ρ:aB):cj (cj PV)->Res (cc D×aB)
 |some (cL (.ow ds))=>.ok (ds,ρ)
 |_=>.bad
def uM(i:Nat):FI:=λρ=>GD ρ ρ[i]?
theorem Ba:Mm K E (wa K (fY i)) (uM i):=by
 intro B X O Z H ρ z R w;unfold uM at w;cases q:ρ[i]? with
 |none=>rw[q]at w;exact w.elim
 |some o=>
  cases o with
  |none=>rw[q]at w;exact w.elim
  |some x=>
   cases x with
   |fz d=>rw[q]at w;exact w.elim
   |pl j=>rw[q]at w;exact w.elim
   |ow ds=>rw[q]at w;obtain⟨v,h1,a,vs,rfl,t,r,f,p⟩:=R.slot i _ q;refine⟨_,h1,a,rfl,.inl ⟨⟨vs,Tw.of f⟩,w O _ H .refl R λY H' e s n=>?_⟩⟩;have k:=s _ _ f;have b:=p.ev e;refine⟨λj m=>?_,⟨vs,Tw.of k,by rw[b.length];simp_all⟩⟩;obtain⟨x,l,_⟩:=b.get (OY m);refine⟨⟨vs,x,Tw.of k,l⟩,?_⟩;rintro y u ⟨rfl,hy⟩;obtain⟨d,h,g⟩:=b.WJ (hy vs (Tw.of k));exact⟨QL.refl _,d,h,g⟩
def bH(F:FN)(n:Nat)(fa:FA):FE:=λρ=>(fa ρ).bind λa=>(Res.Qf (lj a.2 a.1)).bind λb=>if b.1.length=n then(jU (F b.1)).bind λrv=>.ok (rv.pv,b.2)else .bad
theorem Jm(ha:AO K E ta fa):EO K E (nk (xF K n F) [] E0 ta) (bH F n fa):=by
 intro B X O Z H ρ Q R w;refine ha B X O Z H ρ _ R (w.bind.imp λa f r vs t e1 l i=>?_);obtain⟨⟨ds,e⟩,q,b⟩:=f.Qf;obtain⟨o,e2,R2,d⟩:=ox l i q;dsimp only at b;by_cases hn:ds.length=n
 .rw[ai hn]at b;obtain⟨rv,g,b⟩:=vX (WR.bind b);rw[Pu];refine⟨d.length.trans hn,o,ds,λa z j=>R2.od a j z,d,?_⟩;rw[g];exact iV R2 λm v p e3 k h=>b m v p (e1.trans (e2.trans e3)) k h
 .rw[ak hn]at b;exact b.elim
end
def dF(N:Nat)(g:FS):FN:=λds=>(g (ds.map (λd=>cL (.fz d))++ON (N - ds.length) CL)).bind λa=>match a with
 |.rt rv=>.ok rv
 |.nx _=>.ok (.fz .none)
 |_=>.bad
theorem AX(hb:∀a,B a->H a≠CL)(g:QC B K H vs ds):Rl K B H B (L2.start N vs) H (ds.map (λd=>cL (.fz d))++ON (N.length - ds.length) CL):=by
 have n:=g.length;refine⟨QL.refl _,λ_ h=>h,hb,λa z h=>hb a h z,?_,λi x k=>?_,λi j xs ys w hi=>?_⟩
 .unfold L2.start;simp_all
 all_goals
  have b:∀{i:Nat} {x:PV},(ds.map (λd=>cL (PV.fz d))++ON (N.length - ds.length) CL)[i]?=cL (cL x)->∃d,x=.fz d/\ds[i]?=cL d:=λ{i x} h=>by
   by_cases hi:i<ds.length
   .rw[Pc (by rw[OH];exact hi),OT]at h
    cases q:ds[i]? with
    |none=>rw[q]at h;cases h
    |some d=>rw[q]at h;cases h;exact⟨d,rfl,rfl⟩
   .rw[Pn (by rw[OH];ext),Q5]at h;split at h<;>cases h
 .obtain⟨d,rfl,l⟩:=b k;obtain⟨v,f,m⟩:=g.get l;refine⟨v,?_,m⟩;have hi:=(OI.mp f).1;unfold L2.start;rw[Pc (by rw[OH];exact hi),OT,f];rfl
 .obtain⟨d,e,_⟩:=b hi;cases e
theorem NW(F:Vk K x qual st f fd)(S:Sa N ps (aw st))(hn:ps.length=n)
  (p:∀(a:OC) (A:Pp) (outer:cc Env) (s:OK) (H:Hp) (E:XK),RK k (A.deeper (P5 qual (aw st) s.heap.objs.size f a))->
   ∃t,UY (iz jC P w K mg base N qual (aw st) f a A outer s H E).Xp (cF st) t/\SO K E t g):FnOk P w K mg base jC (k+1) f fd ps (xF K n (dF N.length g)):=by
 refine F.ok S (λvs H Q E h=>h.1.trans hn.symm) (λa A outer s H vs Q E j h=>?_);obtain⟨t,d,i⟩:=p a A outer s H E j;obtain⟨u,B,ds,l,o,h⟩:=h;refine⟨t,d,i B H B _ H _ _ (AX l o) (WR.imp (WR.bind h) λm q=>?_)⟩;cases m with
 |rt rv=>exact q
 |nx ρ=>exact λv b r e R=>q .Se r R.same .Se
 |bk ρ=>exact q.elim
 |ct ρ=>exact q.elim
end L3
namespace L3
open PySem PySem.Spec PyProof.Rows L2
theorem OpR.or(h:OpR X f r)(h':OpR X f r'):OpR X f (λx y H Q=>r x y H Q\/r' x y H Q):=by
 intro a s b H x y v u Q I e d q;rcases q with q|q
 .exact h a s b H x y v u Q I e d q
 .exact h' a s b H x y v u Q I e d q
theorem Jk(I:Inv X pins σ H s)(h:Su X.K H l xs):xs.length<=Pd/\∃(a:cc OC) (n:Nat),Vals xs a/\xs.length=a.length/\s.heap.get? l=cL {cls:=.type "list",data:=.seq a.toArray n}:=by
 rcases h with(h|⟨o,h⟩)|⟨a,n,h1,h2,h3⟩
 .exact I.Zz h
 .obtain⟨_,z,a,n,r,e⟩:=I.QX l _ h;exact⟨z,a,n,r,r.length,e⟩
 .exact⟨h2,a,n,h3,h3.length,I.V2 _ _ h1⟩
def Fr(K:Bn):R2:=λx y H Q=>∃l b xs zs,x=.ref l/\y=.ref b/\Su K H l xs/\Su K H b zs/\xs.length+zs.length<=Pd/\∀p,H p=CL->Q (.ref p) (upd H p (.lst (xs++zs)))
theorem ES:OpR X (QJ .Add) (Fr X.K):=by
 intro a s t H x y v u Q I i g h;obtain⟨l,b,xs,w,rfl,rfl,m,o,C,q⟩:=h;cases i;cases g;obtain⟨z,f,n,r,E,e⟩:=Jk I m;obtain⟨A,d,B,j,k,e2⟩:=Jk I o;refine PySem.P.add_list e e2 ?_ (by simp_all);have p:f.toArray++d.toArray=(f++d).toArray:=by simp
 rw[p];exact⟨.ref _,_,I.Zs (r.append j) (by simp_all),rfl,q _ I.fresh⟩
def FZ(K:Bn):R2:=λx y H Q=>∃l k xs,x=.ref l/\y=.int k/\Su K H l xs/\ -(2^63)<=k/\k<2^63/\xs.length*k.toNat<=Pd/\
 ∀p,H p=CL->Q (.ref p) (upd H p (.lst (ON k.toNat xs).flatten))
theorem Ex:OpR X (QJ .Mult) (FZ X.K):=by
 intro i s M H x y v u Q I A w h;obtain⟨l,k,xs,rfl,rfl,C,h1,E,B,q⟩:=h;cases A;obtain⟨t,rfl⟩:=w;obtain⟨z,b,n,r,O,e⟩:=Jk I C;have d:b.toArray.size*k.toNat<=Pd:=by simp_all
 have g:¬b.toArray.size*k.toNat>(2^63 - 1)/8:=by
  have:(Pd:Nat)<=(2^63 - 1)/8:=by decide
  ext
 have f:¬(!Pb.List.listFitsIndex k)=OG:=by rw[fitsIndex_both h1 E];simp_all
 have J:¬Pb.List.listTooLong (b.toArray.size*k.toNat)=OG:=by rw[Ay d];simp_all
 have L:Td (λo j=>o++j) #[] (ON (if b.toArray.isEmpty=OG then 0 else k.toNat) b.toArray)=(ON k.toNat b).flatten.toArray:=by
  have G:=λm=>by have:=jF b m [];rw[RH]at this;exact this
  rw[G];cases b with
  |nil=>simp
  |cons a N=>rfl
 refine VH (by decide) ⟨_,e,rfl⟩ (λp=>RU p k t) noFill_list_mul F.fills_int_mul F.slot_int_rmul repeat_list F.slot_int_index.lookup
  (TH F.slot_int_rmul (RU s k t) F.entry_int_rmul (F.args_int_rmul_2 _ _) (int___rmul___int_list k t l b.toArray n)
   ⟨e,rfl,⟨_,e,rfl⟩,TH F.slot_list_mul ⟨_,e,rfl⟩ F.entry_list_mul (F.args_list_mul_2 _ _) (AutoListH.list___mul___list_int_3 l b.toArray n k t f g J) ⟨e,?_⟩⟩)
 rw[L];exact⟨.ref _,_,I.Zs (r.rep k.toNat) (by rw[uX,Nat.mul_comm];exact B),rfl,q _ I.fresh⟩
section
variable{K:Bn}
def fI(g:Int->Int->Int):D->D->cj RV
 |.int i,.int j=>cL (.fz (.int (g i j)))
 |_,_=>CL
def fB(g:Int->Int->Bool):D->D->cj RV
 |.int i,.int j=>cL (.fz (.bool (g i j)))
 |_,_=>CL
def J8(C:Int->Int->Bool)(g:Int->Int->Int):D->D->cj RV
 |.int i,.int j=>if C i j=OG then cL (.fz (.int (g i j)))else CL
 |_,_=>CL
theorem yf(h:fI g dx dy=cL rv):∃i j,dx=.int i/\dy=.int j/\rv=.fz (.int (g i j)):=by
 unfold fI at h;split at h
 .cases h;exact⟨_,_,rfl,rfl,rfl⟩
 .cases h
theorem K9:iA K (vE λi j=>.int (g i j)) (fI g):=by intro O H x y dx d rv Q n b a e q;obtain⟨i,j,rfl,rfl,rfl⟩:=yf e;cases b;cases a;exact⟨i,j,rfl,rfl,q.at (.int _)⟩
theorem Aq:iA K (vE λi j=>.bl (g i j)) (fB g):=by
 intro O H x y dx d rv Q n b a e q;unfold fB at e;split at e
 .cases e;cases b;cases a;exact⟨_,_,rfl,rfl,q.at (.bl _)⟩
 .cases e
theorem ue(f:∀i j,C i j=OG->C' i j):iA K (rI C' λi j=>.int (g i j)) (J8 C g):=by
 intro O H x y dx h rv Q n b a e q;unfold J8 at e;split at e
 .split at e
  .rename_i d;cases e;cases b;cases a;exact⟨_,_,rfl,rfl,f _ _ d,q.at (.int _)⟩
  .cases e
 .cases e
theorem Ap(h:DX O K H x (.list ds)):∃a xs,x=.ref a/\Su K H a xs/\QC O K H xs ds:=h
theorem uq(h:DX O K H x (.tuple ds)):∃a xs,x=.ref a/\TU O K H a xs/\QC O K H xs ds:=An h rfl
def zd(K:Bn):R2:=λx y H Q=>vE (λi j=>.int (i+j)) x y H Q\/Fr K x y H Q\/E6 K x y H Q
theorem uY:OpR X (QJ .Add) (zd X.K):=OpR.or JO (OpR.or ES C4)
def bi:D->D->cj RV
 |.int i,.int j=>cL (.fz (.int (i+j)))
 |.list xs,.list ys=>if xs.length+ys.length<=1000000 then cL (.ow (xs++ys))else CL
 |.tuple xs,.tuple ys=>if xs≠[]/\xs.length+ys.length<=1000000 then cL (.fz (.tuple (xs++ys)))else CL
 |_,_=>CL
theorem rD(h:n<=1000000):n<=Pd:=OZ h (by decide)
theorem QC.ne(h:QC O K H vs ds):vs=[]↔ds=[]:=by cases h<;>simp
theorem um:iA K (zd K) bi:=by
 intro O H x y dx l rv Q n i h e q;unfold bi at e;split at e
 .cases e;cases i;cases h;exact .inl ⟨_,_,rfl,rfl,q.at (.int _)⟩
 .split at e
  .rename_i g;cases e;obtain⟨a,xs,rfl,h1,d⟩:=Ap i;obtain⟨b,ys,rfl,j,f⟩:=Ap h;exact .inr (.inl ⟨a,b,xs,ys,rfl,rfl,h1,j,rD (by rw[d.length,f.length];exact g),Fin.new (d.append f) q⟩)
  .cases e
 .split at e
  .rename_i g;cases e;obtain⟨a,xs,rfl,h1,d⟩:=uq i;obtain⟨b,ys,rfl,j,f⟩:=uq h;refine .inr (.inr ⟨a,b,xs,ys,rfl,rfl,h1.1,j.1,λz=>g.1 (d.ne.mp z),rD (by rw[d.length,f.length];exact g.2),λz=>?_,λ_=>Fin.Wa (d.append f) n q⟩);have k:=f.ne.mp z;subst k;rw[Pu]at q;exact q.at (.tup h1 d)
  .cases e
 .cases e
def yl(K:Bn):R2:=λx y H Q=>rI XB (λi j=>.int (i*j)) x y H Q\/FZ K x y H Q
theorem DR:OpR X (QJ .Mult) (yl X.K):=OpR.or Gk Ex
def eK(i:Int):Bool:=decide (-(2^64)<i/\i<2^64)
theorem lg(h:eK i=OG): -(2^64)<i/\i<2^64:=b9 h
def wI:D->D->cj RV
 |.int i,.int j=>if(eK i||eK j)=OG then cL (.fz (.int (i*j)))else CL
 |.list xs,.int k=>if xs.length*k.toNat<=1000000/\ -(2^63)<=k/\k<2^63 then cL (.ow (ON k.toNat xs).flatten)else CL
 |_,_=>CL
theorem EA:iA K (yl K) wI:=by
 intro O H x y dx h rv Q n f d e q;unfold wI at e;split at e
 .split at e
  .rename_i b
   cases e;cases f;cases d;refine .inl ⟨_,_,rfl,rfl,?_,q.at (.int _)⟩;rcases(Rf _ _).mp b with z|z
   .exact .inl (lg z)
   .exact .inr (lg z)
  .cases e
 .split at e
  .rename_i b;cases e;cases d;obtain⟨a,xs,rfl,h1,g⟩:=Ap f;exact .inr ⟨a,_,xs,rfl,rfl,h1,b.2.1,b.2.2,rD (by rw[g.length];exact b.1),Fin.new (g.flat _) q⟩
  .cases e
 .cases e
def lZ:=fI λi j=>i - j
theorem Df:iA K (vE λi j=>.int (i - j)) lZ:=K9
def Hk(_ j:Int):Bool:=decide (0<j)
def aU:=J8 Hk λi j=>i % j
theorem Ds:iA K (rI (λ_ j=>0<j) λi j=>.int (i % j)) aU:=ue λi j h=>b9 h
def JE(_ j:Int):Bool:=decide (0<j/\j<2^128)
def bM:=J8 JE λi j=>i/j
theorem EX:iA K (rI (λ_ j=>0<j/\j.natAbs.log2<9000) λi j=>.int (i/j)) bM:=ue λi j h=>by
 have b:=b9 h;refine⟨b.1,?_⟩;have a:j.natAbs<2^128:=by ext
 have d:=(Nat.log2_lt (by ext)).mpr a;ext
def BL(i j:Int):Bool:=decide (0<=j/\j<=1000000/\i.natAbs<2^64)
theorem C0(i j:Int)(h:BL i j=OG):JG i j:=by unfold BL at h;exact(show 0<=j/\j<=1000000/\i.natAbs<2^64 from b9 h)
def jD:=J8 BL λi j=>i^j.toNat
theorem D1:iA K (rI JG λi j=>.int (i^j.toNat)) jD:=ue C0
def II:=fB λi j=>decide (i<j)
def Hz:=fB λi j=>decide (j<i)
def J1:=fB λi j=>decide (j<=i)
theorem IZ:iA K (vE λi j=>.bl (decide (i<j))) II:=Aq
theorem JP:iA K (vE λi j=>.bl (decide (j<i))) Hz:=Aq
theorem G9:iA K (vE λi j=>.bl (decide (j<=i))) J1:=Aq
def B7(d:D):Bool:=d.canLay0&&decide (d.depth<=64)
def ko(d e:D):cj RV:=if(B7 d&&e.canLay0)=OG then cL (.fz (.bool (OD.eqv d e)))else CL
def yd(d e:D):cj RV:=if(B7 d&&e.canLay0)=OG then cL (.fz (.bool (!OD.eqv d e)))else CL
theorem HP:iA K (Dx K OP) ko:=by
 intro O H x y dx f rv Q n d b e q;unfold ko at e;split at e
 .rename_i a;cases e;unfold B7 at a;simp only[Ld,decide_eq_true_eq]at a;exact⟨dx,f,d.plain,b.plain,a.1.1,a.2,a.1.2,q.at (.bl _)⟩
 .cases e
theorem JI:iA K (Dx K OG) yd:=by
 intro O H x y dx f rv Q n d b e q;unfold yd at e;split at e
 .rename_i a;cases e;unfold B7 at a;simp only[Ld,decide_eq_true_eq]at a;exact⟨dx,f,d.plain,b.plain,a.1.1,a.2,a.1.2,q.at (.bl _)⟩
 .cases e
def su:D->D->cj RV
 |.none,.none=>cL (.fz (.bool OG))
 |_,.none=>cL (.fz (.bool OP))
 |_,_=>CL
theorem Iu(h:DX O K H x d)(hd:d≠.none):x≠.Se:=by
 cases d with
 |none=>simp_all
 |list ds=>obtain⟨a,xs,rfl,_⟩:=Ap h;simp
 |tuple ds=>obtain⟨a,xs,rfl,_⟩:=uq h;simp
 |bool b=>cases h;simp
 |int b=>cases h;simp
 |str b=>cases h;simp
 |dict b=>cases h
theorem D3:iA K (λx y H Q=>y=.Se/\Q (.bl (decide (x=.Se))) H) su:=by
 intro O H x y dx f rv Q n b a e q;unfold su at e;split at e
 .cases e;cases b;cases a;exact⟨rfl,q.at (.bl _)⟩
 .rename_i d;cases e;cases a;refine⟨rfl,?_⟩;rw[a7 (Iu b d)];exact q.at (.bl _)
 .cases e
def Lr(K:Bn)(neg:Bool):R2:=λx y H Q=>∃d ds,L2.DV K H x d/\(L2.DV K H y (.list ds)\/L2.DV K H y (.tuple ds))/\d.canLay0=OG/\OD.canLayAll0 ds=OG/\d.depth<=64/\Q (.bl (if neg then !(ds.any λe=>OD.eqv e d)else ds.any λe=>OD.eqv e d)) H
theorem ER(m:X.A.units+65<cLine):OpR X (QS .NotIn) (Lr X.K OG):=by
 intro g s l H x y v u Q I j e h;obtain⟨d,ds,h1,a,l1,i,k,q⟩:=h;obtain⟨as,f⟩:=h1.reads I j;have hm:min (OD.depthAll ds) d.depth<=64:=OZ (Xx _ _) k;rcases a with a|a
 .obtain⟨bs,b⟩:=a.reads I e;exact aa8 b f i l1 (by ext) ⟨.bl _,H,I,rfl,q⟩
 .obtain⟨bs,b⟩:=a.reads I e;exact aa9 b f i l1 (by ext) ⟨.bl _,H,I,rfl,q⟩
def Ar(d e:D):cj RV:=match eX e with
 |some ds=>if(B7 d&&OD.canLayAll0 ds)=OG then cL (.fz (.bool (!ds.any λe=>OD.eqv e d)))else CL
 |none=>CL
theorem JC(a:DX O K H y e)(h:eX e=cL ds):L2.DV K H y (.list ds)\/L2.DV K H y (.tuple ds):=by
 unfold eX at h;split at h
 .cases h;exact .inr a.plain
 .cases h;exact .inl a.plain
 .cases h
theorem EW:iA K (Lr K OG) Ar:=by
 intro O H x y dx g rv Q n d b e q;unfold Ar at e;split at e
 .rename_i ds f
  split at e
  .rename_i a;cases e;unfold B7 at a;simp only[Ld,decide_eq_true_eq]at a;exact⟨dx,ds,d.plain,JC b f,a.1.1,a.2,a.1.2,q.at (.bl _)⟩
  .cases e
 .cases e
def dZ(d e:D):cj RV:=match eX d,e with
 |some ds,.int i=>(mS ds i).map .fz
 |_,_=>CL
theorem Ak(h:QC O K H xs ds)(e:mS ds i=cL d):∃v,mS xs i=cL v/\DV O K H v d:=by
 unfold mS at e⊢;rw[h.length];cases q:JD ds.length i with
 |none=>simp_all
 |some j=>rw[q]at e;exact h.get e
theorem IR:iA K (Ms K) dZ:=by
 intro O H x y dx l rv Q n j k e q;unfold dZ at e;split at e
 .rename_i ds i b
  cases k;cases qa:mS ds i with
  |none=>simp_all
  |some d=>
   rw[qa]at e;cases e;unfold eX at b;split at b
   .cases b;obtain⟨a,xs,rfl,h1,g⟩:=uq j;obtain⟨v,f,h⟩:=Ak g qa;exact .inr (.inl ⟨a,xs,i,v,rfl,rfl,h1.1,f,q.at h⟩)
   .cases b;obtain⟨a,xs,rfl,h1,g⟩:=Ap j;obtain⟨v,f,h⟩:=Ak g qa;exact .inl ⟨a,xs,i,v,rfl,rfl,h1.sq,f,q.at h⟩
   .cases b
 .cases e
def gC(xs:cc D)(lo hi:cj Int):cc D:=(xs.drop (HT.sIx xs.length 0 lo)).take (HT.sIx xs.length xs.length hi - HT.sIx xs.length 0 lo)
theorem zL{lo hi:cj Int}(h:QC O K H xs ds):QC O K H (w9 xs lo hi) (gC ds lo hi):=by unfold w9 gC;rw[h.length];exact(h.drop _).take _
def gY(n:Nat)(lo hi:cj Int):Bool:=decide (HT.sIx n 0 lo=0/\HT.sIx n n hi=n)
def Hq(K:Bn):V->cj Int->cj Int->Hp->VK->Prop:=λx lo hi H Q=>LP K x lo hi H Q\/LC K x lo hi H Q
theorem AN:GU X (Hq X.K):=by
 intro a s b H x v e d lo hi f Q I g j pl i h;rcases h with h|h
 .exact De a s b H x v e d lo hi f Q I g j pl i h
 .exact Ig a s b H x v e d lo hi f Q I g j pl i h
def L0:D->cj Int->cj Int->cj RV
 |.list ds,lo,hi=>cL (.ow (gC ds lo hi))
 |.tuple ds,lo,hi=>if gY ds.length lo hi=OG then CL else cL (.fz (.tuple (gC ds lo hi)))
 |_,_,_=>CL
theorem oX:Mc K (Hq K) L0:=by
 intro O H x lo hi dx rv Q n d e q;unfold L0 at e;split at e
 .cases e;obtain⟨a,xs,rfl,h1,b⟩:=Ap d;exact .inl ⟨a,xs,rfl,h1.sq,Fin.new (zL b) q⟩
 .split at e
  .cases e
  .rename_i f;cases e;obtain⟨a,xs,rfl,h1,b⟩:=uq d;refine .inr ⟨a,xs,rfl,h1.1,λz=>f ?_,Fin.Wa (zL b) n q⟩;unfold gY;rw[<-b.length];exact a6 z
 .cases e
def cU:cc D->cj RV
 |[d]=>(match eX d with
  |some ds=>cL (.fz (.int ds.length))
  |none=>CL)
 |_=>CL
theorem HH:B5 K (λxs H Q=>∃x n,xs=[x]/\Lq K x H n/\Q (.int n) H) cU:=by
 intro O H xs ds rv Q n f e q;unfold cU at e;split at e
 .split at e
  .rename_i es b
   cases e;cases f with
   |cons h1 d=>
    cases d;unfold eX at b;split at b
    .cases b;obtain⟨a,xs,rfl,h1,d⟩:=uq h1;exact⟨_,xs.length,rfl,.inr ⟨xs,h1.1,rfl⟩,by rw[d.length];exact q.at (.int _)⟩
    .cases b;obtain⟨a,xs,rfl,h1,d⟩:=Ap h1;exact⟨_,xs.length,rfl,.inl ⟨xs,h1.sq,rfl⟩,by rw[d.length];exact q.at (.int _)⟩
    .cases b
  .cases e
 .cases e
def jt:cc D->cj RV
 |[.tuple ds]=>cL (.fz (.tuple ds))
 |[.list ds]=>cL (.fz (.tuple ds))
 |_=>CL
theorem Bg:B5 K (λxs H Q=>∃p ys,xs=[.ref p]/\((Tw K H p ys/\∀l,H l=CL->Q (.ref l) (upd H l (.tup ys)))\/(Tj K H p ys/\Q (.ref p) H))) jt:=by
 intro O H xs ds rv Q n d e q;unfold jt at e;split at e
 .cases e
  cases d with
  |cons h1 b=>cases b;obtain⟨a,xs,rfl,h1,b⟩:=uq h1;exact⟨a,xs,rfl,.inr ⟨h1.1,q.at (.tup h1 b)⟩⟩
 .cases e
  cases d with
  |cons h1 b=>cases b;obtain⟨a,xs,rfl,h1,b⟩:=Ap h1;exact⟨a,xs,rfl,.inl ⟨h1.sq,Fin.Wa b n q⟩⟩
 .cases e
def wK:cc D->cj RV
 |[d]=>(eX d).map .ow
 |_=>CL
theorem DL:B5 K (λxs H Q=>∃p ys,xs=[.ref p]/\(Tw K H p ys\/Tj K H p ys)/\∀l,H l=CL->Q (.ref l) (upd H l (.lst ys))) wK:=by
 intro O H xs ds rv Q n f e q;unfold wK at e;split at e
 .rename_i d
  cases f with
  |cons h1 b=>
   cases b;cases hs:eX d with
   |none=>simp_all
   |some es=>
    rw[hs]at e;cases e;unfold eX at hs;split at hs
    .cases hs;obtain⟨a,xs,rfl,h1,b⟩:=uq h1;exact⟨a,xs,rfl,.inr h1.1,Fin.new b q⟩
    .cases hs;obtain⟨a,xs,rfl,h1,b⟩:=Ap h1;exact⟨a,xs,rfl,.inl h1.sq,Fin.new b q⟩
    .cases hs
 .cases e
def lc:cc D->cj RV
 |[.int i,.int j]=>cL (.fz (.int (if j>i then j else i)))
 |_=>CL
theorem Ed:B5 K (λxs H Q=>∃i j,xs=[.int i,.int j]/\Q (.int (if j>i then j else i)) H) lc:=by
 intro O H xs ds rv Q n b e q;unfold lc at e;split at e
 .cases e
  cases b with
  |cons h1 a=>
   cases a with
   |cons a d=>cases d;cases h1;cases a;exact⟨_,_,rfl,q.at (.int _)⟩
 .cases e
end
end L3
namespace L3
open PySem PySem.Spec PyProof.Rows L2
theorem xA{bs:cc Bool}(r:Vals (bs.map V.bl) Qe){i:Nat}(h:Qe[i]?=cL v):∃b,bs[i]?=cL b/\v=.bool b:=by
 have d:=r.length;rw[OH]at d;have hi:i<bs.length:=by rw[d];exact(OI.mp h).1
 obtain⟨u,a,e⟩:=r.get (by rw[OT,OY hi];rfl);rw[h]at a;cases a;exact⟨bs[i],OY hi,e⟩
theorem ud(bs:cc Bool):((PH bs.length).all λi=>(bs[i]?).getD OG)=bs.all id:=by
 rw[Bool.eq_iff_iff,PF,PF];constructor
 .intro h b a;obtain⟨i,hi,e⟩:=List.mem_iff_getElem.mp a;have:=h i (QK.mpr hi);rw[OY hi,e]at this;exact this
 .intro h i hi;have hi:=QK.mp hi;rw[OY hi];exact h _ (QP hi)
section
variable{X:Cx}
theorem zB(n:X.calm=OG):fy X (.builtin "all") (λxs H Q=>∃(p:OL) (bs:cc Bool),xs=[.ref p]/\Tw X.K H p (bs.map V.bl)/\Q (.bl (bs.all id)) H):=by
 intro d s z H xs B Q I r h;obtain⟨l,bs,rfl,k,q⟩:=h;obtain⟨u,rfl,j⟩:=lI r;cases j;obtain⟨g,rv,pl,F⟩:=I.list k;have a:=rv.length;rw[OH]at a;have w:l<s.heap.objs.size:=by obtain⟨_,_,e,_⟩:=pl;exact c3 e
 refine call_all_walk (SF pl.isList ?_);refine⟨s.heap.objs.size,[s.heap.objs.size,l],[s.heap.objs.size],g.toArray.size,_,_,λi=>(bs[i]?).getD OG,rfl,Walks.list (A:=X.A.in1) (I.ok.hd n) _ l (PN w) g.toArray,
  ⟨⟨_,c4 _ rfl,rfl,rfl⟩,pl.isList.push _⟩,λi v E J L t f=>?_,λG C m=>?_⟩
 .obtain⟨b,e,rfl⟩:=xA rv (by simpa using t);simp only[e,Option.getD_some]at f;exact QO f
 .rw[O8,<-a,ud];refine⟨.bl _,H,I.kept λb o e=>m b o (λhm=>?_) (c0 _ e),rfl,q⟩;rw[OU.mp hm]at e;exact Qa _ (c3 e)
end
section
variable{K:Bn}
def oW:cc D->cj (cc Bool)
 |[]=>cL []
 |.bool b::r=>(oW r).map (b::·)
 |_=>CL
theorem wg:∀{xs:cc V} {ds:cc D} {bs:cc Bool},QC O K H xs ds->oW ds=cL bs->xs=bs.map V.bl
 |_,_,_,.nil,e=>by cases e;rfl
 |_,_,bs,.cons (ds:=r) h t,e=>by
  cases h with
  |bl b=>
   have a:(oW r).map (b::·)=cL bs:=e;cases q:oW r with
   |none=>rw[q]at a;cases a
   |some d=>rw[q]at a;cases a;rw[wg t q];rfl
  |_=>cases e
def wJ:cc D->cj RV
 |[.list ds]=>(oW ds).map λbs=>.fz (.bool (bs.all id))
 |_=>CL
theorem G7:B5 K (λxs H Q=>∃(p:OL) (bs:cc Bool),xs=[.ref p]/\Tw K H p (bs.map V.bl)/\Q (.bl (bs.all id)) H) wJ:=by
 intro O H xs ds rv Q n d e q;unfold wJ at e;split at e
 .rename_i es
  cases qs:oW es with
  |none=>rw[qs]at e;cases e
  |some bs=>
   rw[qs]at e;cases e;cases d with
   |cons h1 b=>cases b;obtain⟨a,ys,rfl,h1,b⟩:=Ap h1;have:=wg b qs;subst this;exact⟨a,bs,rfl,h1.sq,q.at (.bl _)⟩
 .cases e
theorem za(a:cc Int):QC O K H (a.map V.int) (a.map .int):=by
 induction a with
 |nil=>exact .nil
 |cons n r b=>exact .cons (.int n) b
end
def NJ(K:Bn)(H:Hp)(x:V)(t:String):Prop:=match x with
 |.Se=>t= "NoneType"
 |.bl _=>t= "bool"
 |.int _=>t= "int"
 |.str _=>t= "str"
 |.ref a=>(t= "list"/\∃xs,Tw K H a xs)\/(t= "tuple"/\∃xs,Tj K H a xs)
 |_=>False
def FY(K:Bn):cc V->Hp->VK->Prop:=λxs H Q=>∃x n t b,xs=[x,.ty n]/\NJ K H x t/\Wt K (.type t) (.type n)=cL b/\Q (.bl b) H
theorem xJ{X:Cx}:fy X (.builtin "isinstance") (FY X.K):=by
 intro g s m H xs A Q I r h;obtain⟨x,n,t,b,rfl,ty,e,q⟩:=h;obtain⟨u,p,rfl,f,v⟩:=E2 r;obtain rfl:p=OC.type n:=v;have d:∀j,EP X g m Q (.bool b) {s with toks:=j}:=λj=>⟨.bl b,H,I.tok j,rfl,q⟩;cases x with
 |Se=>cases(show t= "NoneType" from ty);cases(show u=OC.none from f);exact RE PySem.W.kitx_none I.V2 True.intro e (λz=>nomatch z) d
 |bl y=>cases(show t= "bool" from ty);cases(show u=OC.bool y from f);exact RE PySem.W.kitx_bool I.V2 True.intro e (λz=>nomatch z) d
 |int i=>cases(show t= "int" from ty);obtain⟨t,q⟩:=(show∃t,u=OC.int i t from f);cases q;exact RE PySem.W.kitx_int I.V2 True.intro e (λz=>nomatch z) d
 |str y=>cases(show t= "str" from ty);obtain⟨t,q⟩:=(show∃t,u=OC.str y t from f);cases q;exact RE PySem.W.kitx_str I.V2 True.intro e (λz=>nomatch z) d
 |ref a=>
  cases(show u=OC.ref a from f);rcases ty with⟨rfl,xs,h⟩|⟨rfl,xs,h⟩
  .obtain⟨w,r,⟨o,k,h1,l,_⟩,_⟩:=I.list h;exact RE PySem.W.kitx_list I.V2 ⟨_,h1,l⟩ e (λz=>nomatch z) d
  .obtain⟨w,r,⟨o,h1,l,_⟩,_⟩:=I.tuple h;exact RE PySem.W.kitx_tuple I.V2 ⟨o,h1,l⟩ e (λz=>nomatch z) d
 |_=>exact(show False from ty).elim
section
variable{K:Bn}{E:XK}{B O O':aN}{H0 H H':Hp}{σ:L2.St}{ρ ρ':aB}{v:V}
def Ax:D->cj String
 |.none=>cL "NoneType"
 |.bool _=>cL "bool"
 |.int _=>cL "int"
 |.str _=>cL "str"
 |.list _=>cL "list"
 |.tuple _=>cL "tuple"
 |.dict _=>CL
def DG(n t:String):Bool:=n==t||(n== "int"&&t== "bool")
theorem Cc{n t:String}(hn:n= "int"\/n= "bool"\/n= "str"\/n= "list"\/n= "tuple"){d:D}(a:Ax d=cL t):Wt K (.type t) (.type n)=cL (DG n t):=by cases d<;>(cases a;try (rcases hn with rfl|rfl|rfl|rfl|rfl<;>rfl))
theorem Kf{x:V}{d:D}{t:String}(h:DX O K H x d)(e:Ax d=cL t):NJ K H x t:=by
 cases d with
 |none=>cases e;cases h;rfl
 |bool b=>cases e;cases h;rfl
 |int b=>cases e;cases h;rfl
 |str b=>cases e;cases h;rfl
 |dict b=>cases e
 |list ds=>cases e;obtain⟨a,xs,rfl,h1,_⟩:=Ap h;exact .inl ⟨rfl,xs,h1.sq⟩
 |tuple ds=>cases e;obtain⟨a,xs,rfl,h1,_⟩:=uq h;exact .inr ⟨rfl,xs,h1.1⟩
def kX(n:String)(fa:FE):FE:=λρ=>(fa ρ).bind λa=>(Res.Qf (nv a.2 a.1)).bind λd=>(Res.Qf (Ax d)).bind λt=>.ok (.fz (.bool (DG n t)),a.2)
theorem Jw{n:String}{ta:TE}{fa:FE}(hn:n= "int"\/n= "bool"\/n= "str"\/n= "list"\/n= "tuple")(ha:EO K E ta fa):EO K E (B8 (FY K) (c8 ta (c8 (tC (.ty n)) iI))) (kX n fa):=by intro B H0 O σ H ρ Q R w;refine ha B H0 O σ H ρ _ R (w.bind.imp λa b h x i e1 f g=>?_);obtain⟨d,q,b⟩:=b.Qf;obtain⟨t,e,b⟩:=b.Qf;exact⟨x,n,t,DG n t,rfl,Kf (jf f g q) e,Cc hn e,b h _ i e1 f (.bl _)⟩
end
theorem xT{P:Pa}{w:Pz}{K:Bn}{mg mb:Str->cj OC}{k:Nat}{fa a:OL}{fd:Qx}{x:Str}{F:FN}{b:OK}{vs:cc OC}{d:cc Int}
  (i:K.In b.heap) (B:b.heap.Ns PK mg) (hb:b.heap.Ns builtinsNs mb) (f:∀x:Str,x≠ "__name__"->mb x=Qd x) (t:b.heap.NoLimit) (l:b.gens= #[])
  (ha:b.heap.get? a=cL {cls:=.type "list",data:=.seq vs.toArray}) (hi:IntsAre vs d) (g:d.length<=Pd) (j:RK k callerA)
  (C:∀base:Heap,K.In base->base.Ns PK mg->FnOk P w K mg base jC k fa fd [x] (xF K 1 F)) (A:∀(s:OK) (u:OC),T8 s fd ⟨[u],[]⟩ [(x,u)])
  (p:F [.list (d.map .int)]=.ok (.fz (.bool OG))):
  codeAny (model P w) callerA (.call (.ref fa) ⟨[.ref a],[]⟩) (λr s'=>r=.ok (.ret (.bool OG))/\OldK b.heap s'.heap/\s'.os=b.os/\AllBare s'.gens) b:=by
 refine yh (sp:=λvs H Q E=>xF K 1 F vs H Q E\/(vs.length=1/\False)) i B hb f t l ha hi g j (λbase k1 k2=>(C base k1 k2).imp λvs H Q E h=>?_) A (λH G m=>?_) λ_ _ _ h=>h
 .rcases h with h|h
  .exact h
  .exact h.2.elim
 .refine .inl ⟨rfl,Vt,[.list (d.map .int)],λa z=>z.elim,.cons (.lst ⟨?_,λz=>z.elim⟩ (za d)) .nil,?_⟩
  .rcases m with h|⟨o,Qe,n,h1,h2,h3,h4,h5,h6⟩
   .exact .inl h
   .have e:=i a o h1;rw[ha]at e;cases e;cases h4;exact .inr ⟨vs,0,h1,by rw[OH];exact g,by simpa using h6⟩
  .rw[p];exact λv I s q=>by cases q;rfl
theorem Kt{l:Wi}{n k:Nat}{q:Pa}{i:cc Str}{N:(Str->cj OC)->Heap->Prop}{A:Pz->Heap->Prop}{d:DefRec}{K:Params->Bn}{F:FN}{x:Str}
  (hn:l.most=cL n) (m:n<=Pd) (r:d.params.defaults=[]) (C:RK k callerA)
  (I:∀(w:Pz) (h:Heap),A w h->(K w.params).In h)
  (O:∀(w:Pz) (mg:Str->cj OC) (fa:OL) (h:Heap),(K w.params).In h->h.Ns PK mg->mg d.name=cL (.ref fa)->
   ∃fd:Qx,(∀(s:OK) (u:OC),T8 s fd ⟨[u],[]⟩ [(x,u)])/\∀base:Heap,(K w.params).In base->base.Ns PK mg->FnOk l.prog w (K w.params) mg base jC k fa fd [x] (xF (K w.params) 1 F))
  (J:∀ns:cc Int,ns.length<=n->F [.list (ns.map .int)]=.ok (.fz (.bool OG))):
  PySem.W.WalkO q i N A l.row.toRowW d [] (λf vs=>Zj f vs):=by
 refine Att.attach_call hn r λw z v mg Q fa o P X L a vs ns G Y S U Z p M j e E=>?_;have B:=I w _ Y;obtain⟨fd,H,t⟩:=O w mg fa _ B G.T.g p;exact xT B G.T.g G.T.b G.T.builtins G.T.nolimit E M j (OZ e m) C t H (J ns e)
theorem NS{P:Pa}{w:Pz}{K:Bn}{mg:Str->cj OC}{base:Heap}{x a:Str}{st:Rk}{f:OL}{fd:Qx}{N ps:cc Str}{k n m:Nat}{g:FS}{d:FN}(F:Vk K x a st f fd)(S:Sa N ps (aw st))(hn:ps.length=n)(hm:N.length=m)(e:d=dF m g)
  (h:∀(b:OC) (A:Pp) (outer:cc Env) (s:OK) (H:Hp) (E:XK),RK k (A.deeper (P5 a (aw st) s.heap.objs.size f b))->
   ∃t,UY (iz jC P w K mg base N a (aw st) f b A outer s H E).Xp (cF st) t/\SO K E t g):FnOk P w K mg base jC (k+1) f fd ps (xF K n d):=by
 subst e hm;exact NW F S hn h
abbrev MD(P:Pa)(w:Pz)(K:Bn)(mg:Str->cj OC)(base:Heap)(k:Nat)(x:Str)(ps:cc Str)(n:Nat)(F:FN):Prop:=rA P w K mg base k x ps (xF K n F)
end L3
namespace L3
open PySem L2
abbrev nd(n:Nat):D:=.int (n:Int)
def my(a:cc Nat):cc D:=a.map nd
theorem eO(a:cc Nat):(my a).length=a.length:=by unfold my;rw[OH]
theorem dR{i:Nat}(h:(my ns)[i]?=cL d):∃n,ns[i]?=cL n/\d=nd n:=by
 unfold my at h;rw[OT]at h;cases e:ns[i]? with
 |none=>rw[e]at h;cases h
 |some n=>rw[e]at h;exact⟨n,rfl,(Pr h).symm⟩
theorem aA(a:α):Res.Qf (cL a)=.ok a:=rfl
theorem rB(a:α):jU (Res.ok a)=.ok a:=rfl
theorem sP(i:Nat)(ρ:aB):aa i ρ=v3 ρ i ρ[i]? :=rfl
theorem zJ(ρ:aB)(i:Nat)(d:D):v3 ρ i (cL (cL (.fz d)))=.ok (.fz d,ρ):=rfl
theorem Bi(ρ:aB)(i:Nat)(ds:cc D):v3 ρ i (cL (cL (.ow ds)))=.ok (.pl i,ρ):=rfl
theorem j4(ds:cc D):zF (cL (cL (.ow ds)))=cL ds:=rfl
theorem uE(i:Int):MO (.int i)=cL i:=rfl
theorem ql(b:Bool):MA (.bool b)=cL b:=rfl
theorem lm(ds:cc D):cU [.list ds]=cL (.fz (nd ds.length)):=rfl
theorem Bp(i j:Int):II (.int i) (.int j)=cL (.fz (.bool (decide (i<j)))):=rfl
theorem BD(i j:Int):Hz (.int i) (.int j)=cL (.fz (.bool (decide (j<i)))):=rfl
theorem Fy(i j:Int):J1 (.int i) (.int j)=cL (.fz (.bool (decide (j<=i)))):=rfl
theorem nS(i j:Int):bi (.int i) (.int j)=cL (.fz (.int (i+j))):=rfl
theorem BT(i j:Int):lZ (.int i) (.int j)=cL (.fz (.int (i - j))):=rfl
theorem a5(h:0<j):aU (.int i) (.int j)=cL (.fz (.int (i % j))):=by show(if Hk i j=OG then _ else _)=_;rw[ai (show Hk i j=OG from a6 h)]
theorem bZ(h:0<j/\j<2^128):bM (.int i) (.int j)=cL (.fz (.int (i/j))):=by show(if JE i j=OG then _ else _)=_;rw[ai (show JE i j=OG from a6 h)]
theorem Dc(h: -(2^64)<i/\i<2^64):wI (.int i) (.int j)=cL (.fz (.int (i*j))):=by show(if(eK i||eK j)=OG then _ else _)=_;rw[ai (by rw[show eK i=OG from a6 h,YO])]
theorem El(h: -(2^64)<j/\j<2^64):wI (.int i) (.int j)=cL (.fz (.int (i*j))):=by show(if(eK i||eK j)=OG then _ else _)=_;rw[ai (by rw[show eK j=OG from a6 h,Bool.or_true])]
theorem uG(h:dc j):dL [.int j]=cL (bR 0 j.toNat):=by show(if dc j then _ else _)=_;rw[ai h]
theorem qK(n:Nat):bR 0 n=my (PH n):=by unfold bR my;apply TL;intro k _;rw[Int.zero_add]
theorem uQ(h:n<=1000000):dL [nd n]=cL (my (PH n)):=by rw[uG (by unfold dc;ext),qK,Qp]
theorem yn(h:f ρ=.ok (.nx ρ1)):av f g ρ=g ρ1:=by unfold av;rw[h];rfl
theorem JH(h:f ρ=.ok (.rt rv)):av f g ρ=.ok (.rt rv):=by unfold av;rw[h];rfl
theorem HK(h:fi ρ=.ok (ds,ρ1)):dG fi gt b ρ=rP gt b ds ρ1:=by unfold dG;rw[h];rfl
theorem HV(a:ds.map (λd=>cL (.fz d))++ON (N - ds.length) CL=ρ)(h:g ρ=.ok (.rt rv)):dF N g ds=.ok rv:=by unfold dF;rw[a,h];rfl
theorem tw(h:j<=1000000/\i.natAbs<2^64):jD (.int i) (nd j)=cL (.fz (.int (i^j))):=by show(if BL i (j:Int)=OG then cL (RV.fz (.int (i^((j:Nat):Int).toNat)))else CL)=_;rw[ai (by unfold BL;exact a6 ⟨by ext,by ext,h.2⟩),Qp]
theorem Ag:jD (.int 10) (.int 18)=cL (.fz (.int (10^18))):=tw ⟨by decide,by decide⟩
def ke(gt:FG)(ft:FT)(fe:FE)(d:D)(ρ:aB):Res (cj D×aB):=(gt (.fz d) ρ).bind λe=>(ft e).bind λb=>if b.1=OG then(fe b.2).bind λa=>(Res.Qf (rZ a.2 a.1)).bind λx=>.ok (cL x.1,cn x.2)else .ok (CL,cn b.2)
theorem tU(h:ke gt ft fe d ρ=.ok (o,ρ'))(g:acc.length<1000000):cW gt ft fe (d::r) ρ acc=cW gt ft fe r ρ' (acc++o.toList):=by
 unfold ke at h;show(gt (.fz d) ρ).bind _=_;cases q1:gt (.fz d) ρ with
 |er x=>rw[q1]at h;cases h
 |bad=>rw[q1]at h;cases h
 |ok f=>
  rw[q1,eJ]at h;rw[eJ];cases q2:ft f with
  |er x=>rw[q2]at h;cases h
  |bad=>rw[q2]at h;cases h
  |ok b=>
   obtain⟨b,e⟩:=b;rw[q2,eJ]at h;rw[eJ];cases b with
   |false=>rw[ak OX]at h⊢;cases h;rw[Option.toList_none,Pu]
   |true=>
    rw[ai rfl]at h⊢;cases q3:fe e with
    |er x=>rw[q3]at h;cases h
    |bad=>rw[q3]at h;cases h
    |ok a=>
     rw[q3,eJ]at h;rw[eJ];cases q4:rZ a.2 a.1 with
     |none=>rw[q4]at h;cases h
     |some x=>rw[q4]at h;cases h;show(if acc.length<1000000 then _ else _)=_;rw[ai g];rfl
theorem ik(a b:Int):ko (.int a) (.int b)=cL (.fz (.bool (decide (a=b)))):=by rfl
theorem JA{i:Nat}(h:xs[i]?=cL v):mS xs (i:Int)=cL v:=uW h
theorem B9(h:ds[i]?=cL d):dZ (.list ds) (nd i)=cL (.fz d):=by show(mS ds (i:Int)).map RV.fz=_;rw[JA h];rfl
section
variable{ρ ρ1 Z ρ3:aB}{fa fb fc fe:FE}{Y pb pv:PV}{dx dy d:D}{rv:RV}{X:cc PV}{ds:cc D}
theorem ae(h:ρ[i]?=cL (cL (.fz d))):aa i ρ=.ok (.fz d,ρ):=by rw[sP,h,zJ]
theorem cV(h:ρ[i]?=cL (cL (.ow ds))):aa i ρ=.ok (.pl i,ρ):=by rw[sP,h,Bi]
theorem cf:pC d ρ=.ok (.fz d,ρ):=rfl
theorem aK(ha:fa ρ=.ok (Y,ρ1))(hb:fb ρ1=.ok (pb,Z))(b:nv Z (gy Y)=cL dx)(a:nv Z pb=cL dy)(e:f dx dy=cL rv):az f fa fb ρ=.ok (rv.pv,Z):=by unfold az;rw[ha,eJ,hb,eJ,b,aA,eJ,a,aA,eJ,e,aA,eJ]
theorem FR(ha:fa ρ=.ok (Y,ρ1))(a:nv ρ1 Y=cL dx)(b:f dx=cL rv):Ih f fa ρ=.ok (rv.pv,ρ1):=by unfold Ih;rw[ha,eJ,a,aA,eJ,b,aA,eJ]
theorem aO(ha:fa ρ=.ok (Y,ρ1))(a:nv ρ1 Y=cL (.bool b)):aF fa ρ=.ok (b,ρ1):=by unfold aF;rw[ha,eJ,a,aA,eJ,ql,aA,eJ]
theorem oD(ha:f ρ=.ok (a,ρ1))(hb:a=OG->g ρ1=.ok (b,ρ1)):pJ f g ρ=.ok (a&&b,ρ1):=by
 unfold pJ;rw[ha,eJ];cases a with
 |true=>rw[ai rfl,hb rfl,Rg]
 |false=>rw[ak OX,Sv]
theorem lB(ha:f ρ=.ok (a,ρ1))(hb:a=OP->g ρ1=.ok (b,ρ1)):ya f g ρ=.ok (a||b,ρ1):=by
 unfold ya;rw[ha,eJ];cases a with
 |true=>rw[ai rfl,YO]
 |false=>rw[ak OX,hb rfl,Bool.false_or]
theorem fG(ha:f ρ=.ok (a,ρ1)):km f ρ=.ok (!a,ρ1):=by unfold km;rw[ha,eJ]
theorem u9(ha:aF fa ρ=.ok (a,ρ1))(hb:a=OG->fb ρ1=.ok (.fz (.bool b),ρ1)):wR fa fb ρ=.ok (.fz (.bool (a&&b)),ρ1):=by
 unfold wR;rw[ha,eJ];cases a with
 |true=>rw[ai rfl,hb rfl,Rg]
 |false=>rw[ak OX,Sv]
theorem CN(ha:aF fa ρ=.ok (a,ρ1)):xq fa ρ=.ok (.fz (.bool (!a)),ρ1):=by unfold xq;rw[ha,eJ]
theorem ar:am ρ=.ok ([],ρ):=rfl
theorem aj(ha:fa ρ=.ok (Y,ρ1))(a:fr ρ1=.ok (X,Z)):af fa fr ρ=.ok (gy Y::X,Z):=by unfold af;rw[ha,eJ,a,eJ]
theorem bD(ha:fr ρ=.ok (X,ρ1))(hd:pL ρ1 X=cL ds)(a:f ds=cL rv):gb f fr ρ=.ok (rv.pv,ρ1):=by unfold gb;rw[ha,eJ,hd,aA,eJ,a,aA,eJ]
theorem cN(ha:fr ρ=.ok (X,ρ1))(hd:lj ρ1 X=cL (ds,Z))(hn:ds.length=n)(a:F ds=.ok rv):bH F n fr ρ=.ok (rv.pv,Z):=by unfold bH;rw[ha,eJ,hd,aA,eJ];dsimp only;rw[ai hn,a,rB,eJ]
theorem bP(ha:fr ρ=.ok (X,ρ1))(hd:lj ρ1 X=cL (ds,Z))(hn:ds.length<=1000):cP fr ρ=.ok (.fz (.tuple ds),Z):=by unfold cP;rw[ha,eJ,hd,aA,eJ];dsimp only;rw[ai hn]
theorem A0(ha:fr ρ=.ok (X,ρ1))(hd:lj ρ1 X=cL (ds,Z))(hn:ds.length<=1000):eI fr ρ=.ok (.ow ds,Z):=by unfold eI;rw[ha,eJ,hd,aA,eJ];dsimp only;rw[ai hn]
theorem ll(ha:fa ρ=.ok (Y,ρ1))(a:nv ρ1 Y=cL dx)(b:Ax dx=cL t):kX n fa ρ=.ok (.fz (.bool (DG n t)),ρ1):=by unfold kX;rw[ha,eJ,a,aA,eJ,b,aA,eJ]
theorem bG:dJ ρ=.ok (CL,ρ):=rfl
theorem bI(ha:fa ρ=.ok (Y,ρ1))(a:nv ρ1 Y=cL (.int i)):cS fa ρ=.ok (cL i,ρ1):=by unfold cS;rw[ha,eJ,a,aA,eJ,uE,aA,eJ]
theorem fU(ha:fa ρ=.ok (Y,ρ1))(b:fl ρ1=.ok (lo,Z))(e:fh Z=.ok (hi,ρ3))(a:nv ρ3 (gy Y)=cL dx)(g:f dx lo hi=cL rv):mZ f fa fl fh ρ=.ok (rv.pv,ρ3):=by unfold mZ;rw[ha,eJ,b,eJ,e,eJ,a,aA,eJ,g,aA,eJ]
theorem eB(h0:ρ[i]?=cL (cL (.ow es)))(ha:fe ρ=.ok (Y,ρ1))(b:rZ ρ1 Y=cL (d,Z))(h1:Z[i]?=cL (cL (.ow ds)))(e:ds.length<1000000)(a:Z.set i (cL (.ow (ds++[d])))=x):eR i fe ρ=.ok (.fz .none,x):=by unfold eR;rw[h0,j4,aA,eJ,ha,eJ,b,aA,eJ];dsimp only;rw[h1,j4,aA,eJ,ai e,a]
theorem jn(hi:fi ρ=.ok (ds,ρ1))(b:ni ρ1 fv=cL (cs,Z))(a:jU (cW gt ft fe ds (ON n CL++cs.map λd=>cL (.fz d)) [])=.ok xs):gP n fv fi gt ft fe ρ=.ok (.ow xs,Z):=by unfold gP;rw[hi,eJ];dsimp only;rw[b,aA,eJ];dsimp only;rw[a,eJ]
theorem HM:dZ (.list (a::r)) (.int 0)=cL (.fz a):=B9 rfl
theorem b5(ha:fe ρ=.ok (Y,ρ1))(a:rZ ρ1 Y=cL (d,Z))(b:eX d=cL es):fT fe ρ=.ok (es,Z):=by unfold fT;rw[ha,eJ,a,aA,eJ];dsimp only;rw[b,aA,eJ]
theorem jx(ha:fr ρ=.ok (X,ρ1))(hd:pL ρ1 X=cL ds)(a:f ds=cL es):fH f fr ρ=.ok (es,ρ1):=by unfold fH;rw[ha,eJ,hd,aA,eJ,a,aA,eJ]
theorem nV(b:fe ρ=.ok (pv,ρ1))(a:g pv ρ1=.ok Z)(hn:Z=ρ3):aJ fe g ρ=.ok (.nx ρ3):=by unfold aJ;rw[b,eJ];dsimp only;rw[a,eJ,hn]
theorem nW(a:fe ρ=.ok (pv,ρ1)):bQ fe ρ=.ok (.nx ρ1):=by unfold bQ;rw[a,eJ]
theorem tR(b:fe ρ=.ok (pv,ρ1))(a:xW ρ1 pv=cL rv):bX fe ρ=.ok (.rt rv):=by unfold bX;rw[b,eJ];dsimp only;rw[a,aA,eJ]
theorem HU(e:gt (.fz d) ρ=.ok ρ1)(b:ft ρ1=.ok (OG,Z))(g:fe Z=.ok (pv,ρ3))(a:rZ ρ3 pv=cL (x,ρ4))(f:cn ρ4=ρ5):ke gt ft fe d ρ=.ok (cL x,ρ5):=by unfold ke;rw[e,eJ,b,eJ,ai rfl,g,eJ,a,aA,eJ,f]
end
end L3
namespace PySem
open Sem (wp)
open Builtin
open AutoSeq1 (wpAny_loadPart')
theorem jG:fillsNumberSlot (.type "tuple") "mul"=pure OP:=
 fillsNumberSlot_seq F.slot_tuple_mul.lookup (by decide+kernel) F.slot_tuple_rmul.lookup (by decide+kernel)
theorem pF:seqRepeat? (.type "tuple")=pure (cL (.builtin "tuple.__mul__")):=by unfold seqRepeat?;rw[seqSlot_of (name:= "__mul__") F.slot_tuple_mul.lookup (by decide+kernel),seqSlot_of (name:= "__rmul__") F.slot_tuple_rmul.lookup (by decide+kernel)];rfl
theorem kH(a:Int)(t:Tok)(l:OL)(items:Array OC)(n:Nat)(XH:cj OL)(e:Array (cj OC)):
  Meets (Pb.«int.__rmul__» ⟨[.int a t,.ref l],[]⟩) (λ_ R s=>s.heap.get? l=cL {cls:=.type "tuple",dict:=XH,data:=.seq items n,slots:=e}/\R (.ok (.ret OC.notImplemented)) s):=
 .of_wp λb w A R s h=>by obtain⟨j,g,d,f,i⟩:=s;obtain⟨k,h⟩:=h;wp_walk;exact⟨_,rfl,h⟩
theorem rL(l:OL)(items:Array OC)(n:Nat)(XH:cj OL)(b:Array (cj OC))(u:Tok):
  Meets (Pb.«tuple.__mul__» ⟨[.ref l,.int 1 u],[]⟩) (λ_ R s=>s.heap.get? l=cL {cls:=.type "tuple",dict:=XH,data:=.seq items n,slots:=b}/\R (.ok (.ret (OC.ref l))) s):=
 .of_wp λa w A R s h=>by
  obtain⟨i,g,d,e,f⟩:=s;obtain⟨j,h⟩:=h
  wp_walk
  exact⟨_,rfl,h⟩
theorem sf(l:OL)(items:Array OC)(n:Nat)(XH:cj OL)(i:Array (cj OC))(x:Int)(u:Tok)(h1:2<=x)(p:x<=1000)(f:items.isEmpty=OP)(hz:items.size<=1000):
  Meets (Pb.«tuple.__mul__» ⟨[.ref l,.int x u],[]⟩) (λ_ R s=>s.heap.get? l=cL {cls:=.type "tuple",dict:=XH,data:=.seq items n,slots:=i}/\R (.ok (.ret (OC.ref s.heap.objs.size))) {s with heap:=s.heap.push {cls:=OC.type "tuple",data:=Data.seq (Td (λx1 x2=>x1++x2) #[] (ON x.toNat items))},toks:=s.toks}):=
 .of_wp λa w A R s h=>by
  obtain⟨F,g,d,C,E⟩:=s;obtain⟨o,h⟩:=h;have B:¬(decide (x< -(2^63))||decide (x≥2^63))=OG:=by simp;ext
  have z:(x==1)=OP:=by simp;ext
  have v:decide (x<=0)=OP:=by simp;ext
  have I:(items.isEmpty||x==1)=OP:=by rw[f,z];rfl
  have H:(decide (x<=0)||items.isEmpty)=OP:=by rw[f,v];rfl
  have e:(items.size:Int)*x<=1000000:=by have:(items.size:Int)*x<=1000*1000:=Int.mul_le_mul (by ext) p (by ext) (by ext);ext
  have t:¬(items.size:Int)*x>(2^63 - 1)/8:=by ext
  have r:¬Tuple.tupleTooMany ((items.size:Int)*x)=OG:=by
   unfold Tuple.tupleTooMany;simp;have:(Pd:Nat)=16777216:=by decide
   ext
  wp_walk
  rw[ak B]
  wp_walk using wpAny_loadPart' o
  rw[ak t];dsimp only;rw[ak r];have k:(Td (λx1 x2=>x1++x2) #[] (ON x.toNat items)).size<=Pd:=by
   have q:∀(m:Nat) (b:Array OC),(Td (λx1 x2=>x1++x2) b (ON m items)).size=b.size+m*items.size:=by
    intro m
    induction m with
    |zero=>intro b;simp
    |succ m j=>intro b;rw[Qh,Th,j,Array.size_append,Zi];ext
   rw[q];have G:x.toNat*items.size<=1000*1000:=RZ (by ext) hz;have:(Pd:Nat)=16777216:=by decide
   simp;ext
  wp_walk
  exact⟨_,rfl,h⟩
end PySem
namespace L3
open PySem PySem.Spec PyProof.Rows L2
def Fx(K:Bn):R2:=λx y H Q=>∃(a:OL) (k:Nat) (xs:cc V),x=.ref a/\y=.int (k:Int)/\Tj K H a xs/\xs≠[]/\1<=k/\k<=1000/\xs.length<=1000/\
 (k=1->Q (.ref a) H)/\(2<=k->∀p,H p=CL->Q (.ref p) (upd H p (.tup (ON k xs).flatten)))
theorem CD:OpR X (QJ .Mult) (Fx X.K):=by
 intro g s S H x y v u Q I A z h;obtain⟨a,k,xs,rfl,rfl,E,P,h1,M,J,C,B⟩:=h;cases A;obtain⟨t,rfl⟩:=z;obtain⟨e,r,G,U⟩:=I.tuple E;obtain⟨⟨O,dd,m,f⟩,d,l,n,j⟩:=id G;simp only at l j;subst l j;have i:=r.length;refine VH (by decide) ⟨_,d,rfl⟩ (λw=>RU w k t) jG F.fills_int_mul F.slot_int_rmul pF F.slot_int_index.lookup
  (TH F.slot_int_rmul (RU s k t) F.entry_int_rmul (F.args_int_rmul_2 _ _) (kH k t a e.toArray n dd f) ⟨d,rfl,⟨_,d,rfl⟩,?_⟩)
 by_cases L:k=1
 .subst L;exact TH F.slot_tuple_mul ⟨_,d,rfl⟩ F.entry_tuple_mul (F.args_tuple_mul_2 _ _) (rL a e.toArray n dd f t) ⟨d,⟨.ref a,H,I,rfl,C rfl⟩⟩
 .refine TH F.slot_tuple_mul ⟨_,d,rfl⟩ F.entry_tuple_mul (F.args_tuple_mul_2 _ _) (sf a e.toArray n dd f k t (by ext) (by ext) ?_ (by rw[O8];ext)) ⟨d,?_⟩
  .cases e with
   |nil=>cases r;exact cb rfl P
   |cons y ys=>rfl
  .have N:Td (λp o=>p++o) #[] (ON ((k:Nat):Int).toNat e.toArray)=(ON k e).flatten.toArray:=by
    have:=jF e k [];rw[RH]at this;rw[Qp];exact this
   rw[N];refine⟨.ref s.heap.objs.size,_,I.laid (λb T q=>c0 _ q) (OJ _) ?_,rfl,B (by ext) _ (I.QX.fresh (OJ _))⟩;refine⟨?_,_,r.rep k,Ui.new _ _⟩;rw[uX];exact OZ (RZ M J) (by decide)
def FP(K:Bn):R2:=λx y H Q=>yl K x y H Q\/Fx K x y H Q
theorem DU:OpR X (QJ .Mult) (FP X.K):=OpR.or DR CD
def dX:D->D->cj RV
 |.tuple xs,.int k=>if xs≠[]/\1<=k/\k<=1000/\xs.length<=1000 then cL (.fz (.tuple (ON k.toNat xs).flatten))else CL
 |d,e=>wI d e
theorem Av{K:Bn}:iA K (FP K) dX:=by
 intro O H x y dx h rv Q n f d e q;unfold dX at e;split at e
 .rename_i ds k
  split at e
  .rename_i g
   cases e;cases d;obtain⟨a,xs,rfl,h1,b⟩:=uq f;obtain⟨m,rfl⟩:∃m:Nat,k=(m:Int):=⟨k.toNat,by ext⟩;rw[Qp]at q;refine .inr ⟨a,m,xs,rfl,rfl,h1.1,λz=>g.1 (b.ne.mp z),by ext,by ext,by rw[b.length];exact g.2.2.2,λe=>?_,λ_=>Fin.Wa (b.flat m) n q⟩;subst e;have e1:(ON 1 ds).flatten=ds:=by simp
   rw[e1]at q;exact q.at (.tup h1 b)
  .cases e
 .exact .inl (EA O H x y dx h rv Q n f d e q)
theorem qJ(i j:Int):dX (.int i) (.int j)=wI (.int i) (.int j):=rfl
theorem eY(h: -(2^64)<i/\i<2^64):dX (.int i) (.int j)=cL (.fz (.int (i*j))):=(qJ i j).trans (Dc h)
theorem rG(h: -(2^64)<j/\j<2^64):dX (.int i) (.int j)=cL (.fz (.int (i*j))):=(qJ i j).trans (El h)
end L3
namespace L3
open PySem PySem.Spec PyProof.Rows L2
section
variable{K:Bn}{E:XK}{B O O':aN}{H0 H H':Hp}{σ:L2.St}{ρ ρ':aB}{v:V}
def IX(d e:D):cj RV:=match d,e with
 |.str z,.int i=>if z.length<=1000000 then(mS z.cps.toList i).map λc=>.fz (.str ⟨#[c]⟩)else CL
 |_,_=>CL
theorem EE:iA K (Ms K) IX:=by
 intro O H x y dx f rv Q n b a e q;unfold IX at e;split at e
 .split at e
  .rename_i z i d
   cases qa:mS z.cps.toList i with
   |none=>rw[qa]at e;cases e
   |some c=>rw[qa]at e;cases e;cases b;cases a;exact .inr (.inr ⟨z,i,c,rfl,rfl,rD d,qa,q.at (.str _)⟩)
  .cases e
 .cases e
end
end L3
namespace L3
open PySem L2
def Nv(N C:aB->Prop)(T:RV->Prop):Res Fl->Prop
 |.ok (.nx ρ)=>N ρ
 |.ok (.ct ρ)=>C ρ
 |.ok (.rt v)=>T v
 |_=>False
structure Go(r:Res Fl)(N C:aB->Prop)(T:RV->Prop):Prop where
 out:Nv N C T r
section
variable{ρ ρ1 Z ρ3:aB}{f g:FS}{fe:FE}{pv:PV}{d:D}{rv:RV}{ds:cc D}{N C:aB->Prop}{T:RV->Prop}
theorem Go.eq(e:r=r')(h:Go r' N C T):Go r N C T:=by rw[e];exact h
theorem Go.imp(h:Go r N C T)(b:∀ρ,N ρ->N' ρ)(e:∀ρ,C ρ->C' ρ)(a:∀v,T v->T' v):Go r N' C' T':=by
 refine⟨?_⟩;have h:=h.out;cases r with
 |bad=>exact h
 |er x=>exact h
 |ok i=>
  cases i with
  |nx r=>exact b _ h
  |ct r=>exact e _ h
  |rt v=>exact a _ h
  |bk r=>exact h
theorem oA(h:Go (f ρ) (λr=>Go (g r) N C T) C T):Go (av f g ρ) N C T:=by
 refine⟨?_⟩;have h:=h.out;unfold av;cases q:f ρ with
 |bad=>rw[q]at h;exact h.elim
 |er x=>rw[q]at h;exact h.elim
 |ok a=>
  rw[q]at h;cases a with
  |nx r=>exact(show Go (g r) N C T from h).out
  |ct r=>exact h
  |rt v=>exact h
  |bk r=>exact h.elim
theorem gF(h:c ρ=.ok (b,ρ1))(a:b=OG->Go (f ρ1) N C T)(e:b=OP->Go (g ρ1) N C T):Go (iP c f g ρ) N C T:=by
 unfold iP;rw[h,eJ];cases b with
 |true=>exact a rfl
 |false=>exact e rfl
theorem zr(b:fe ρ=.ok (pv,ρ1))(a:gt pv ρ1=.ok Z)(h:N Z):Go (aJ fe gt ρ) N C T:=.eq (nV b a rfl) ⟨h⟩
theorem dz(a:fe ρ=.ok (pv,ρ1))(h:N ρ1):Go (bQ fe ρ) N C T:=.eq (nW a) ⟨h⟩
theorem bL(b:fe ρ=.ok (pv,ρ1))(a:xW ρ1 pv=cL rv)(h:T rv):Go (bX fe ρ) N C T:=.eq (tR b a) ⟨h⟩
theorem dU(h:N ρ):Go (bJ ρ) N C T:=⟨h⟩
theorem u7(I:Nat->aB->Prop):∀(ds:cc D) (k:Nat) (ρ:aB),I k ρ->(∀i d ρ,ds[i]?=cL d->I (k+i) ρ->∃ρ1,gt (.fz d) ρ=.ok ρ1/\Go (b ρ1) (I (k+i+1)) (I (k+i+1)) T)->Go (rP gt b ds ρ) (I (k+ds.length)) C T
 |[],k,ρ,h0,_=>⟨h0⟩
 |d::r,k,ρ,h0,hs=>by
  obtain⟨ρ1,h1,a⟩:=hs 0 d ρ rfl h0;have a:=a.out;have l:∀j,I (k+1) j->Go (rP gt b r j) (I (k+(r.length+1))) C T:=λj h=>by
   have e:k+(r.length+1)=k+1+r.length:=by ext
   rw[e];refine u7 I r (k+1) j h λi o p hi m=>?_;have e:k+1+i=k+(i+1):=by ext
   rw[e]at m⊢;exact hs (i+1) o p (by simpa using hi) m
  refine⟨?_⟩;show Nv _ _ _ ((gt (.fz d) ρ).bind _);rw[h1,eJ];cases q:b ρ1 with
  |bad=>rw[q]at a;exact a.elim
  |er x=>rw[q]at a;exact a.elim
  |ok n=>
   rw[q]at a;cases n with
   |nx r=>exact(l _ a).out
   |ct r=>exact(l _ a).out
   |rt v=>exact a
   |bk r=>exact a.elim
theorem sY(I:Nat->aB->Prop)(hi:fi ρ=.ok (ds,ρ1))(h0:I 0 ρ1)(a:∀i d ρ,ds[i]?=cL d->I i ρ->∃ρ1,gt (.fz d) ρ=.ok ρ1/\Go (b ρ1) (I (i+1)) (I (i+1)) T)(e:∀ρ',I ds.length ρ'->N ρ'):Go (dG fi gt b ρ) N C T:=by have:=u7 (C:=C) I ds 0 ρ1 h0 (by simpa using a);rw[Sq]at this;exact .eq (HK hi) (this.imp e (λ_ h=>h) λ_ h=>h)
theorem gn(a:ds.map (λd=>cL (.fz d))++ON (n - ds.length) CL=ρ)(h:Go (g ρ) (λ_=>T (.fz .none)) (λ_=>False) T):∃rv,dF n g ds=.ok rv/\T rv:=by
 have h:=h.out;unfold dF;rw[a];cases q:g ρ with
 |bad=>rw[q]at h;exact h.elim
 |er x=>rw[q]at h;exact h.elim
 |ok b=>
  rw[q]at h;cases b with
  |nx r=>exact⟨_,rfl,h⟩
  |ct r=>exact h.elim
  |rt v=>exact⟨_,rfl,h⟩
  |bk r=>exact h.elim
theorem fM(a:ds.map (λd=>cL (.fz d))++ON (n - ds.length) CL=ρ)(h:Go (g ρ) (λ_=>RV.fz .none=v) (λ_=>False) (λr=>r=v)):dF n g ds=.ok v:=by obtain⟨rv,h1,b⟩:=gn (T:=λr=>r=v) a h;rw[h1,b]
theorem aI(b:fe ρ=.ok (pv,ρ1))(a:gt pv ρ1=.ok Z)(hn:Z=ρ3)(h:Go (g ρ3) N C T):Go (av (aJ fe gt) g ρ) N C T:=.eq (yn (nV b a hn)) h
theorem zT(b:fe ρ=.ok (pv,ρ1))(a:gt pv ρ1=.ok Z)(hn:Z=ρ3)(h:N ρ3):Go (aJ fe gt ρ) N C T:=.eq (nV b a hn) ⟨h⟩
theorem pN(a:fe ρ=.ok (pv,ρ1))(h:Go (g ρ1) N C T):Go (av (bQ fe) g ρ) N C T:=.eq (yn (nW a)) h
theorem lz(b:fe ρ=.ok (pv,ρ1))(a:xW ρ1 pv=cL rv)(h:T rv):Go (av (bX fe) g ρ) N C T:=.eq (JH (tR b a)) ⟨h⟩
theorem cz(h:Go (g ρ) N C T):Go (av bJ g ρ) N C T:=.eq rfl h
theorem wS:av (av f1 f2) g ρ=av f1 (av f2 g) ρ:=by
 unfold av;cases f1 ρ with
 |bad=>rfl
 |er x=>rfl
 |ok a=>cases a<;>rfl
theorem zc(h:Go (av f1 (av f2 g) ρ) N C T):Go (av (av f1 f2) g ρ) N C T:=.eq wS h
theorem iG(i:c ρ=.ok (b,ρ1))(a:b=OG->Go (av f1 g ρ1) N C T)(h:b=OP->Go (av f2 g ρ1) N C T):Go (av (iP c f1 f2) g ρ) N C T:=by
 have e:av (iP c f1 f2) g ρ=if b=OG then av f1 g ρ1 else av f2 g ρ1:=by unfold av iP;rw[i,eJ];cases b<;>rfl
 refine .eq e ?_;cases b with
 |true=>exact a rfl
 |false=>exact h rfl
theorem cg(I:Nat->aB->Prop)(hi:fi ρ=.ok (ds,ρ1))(h0:I 0 ρ1)(a:∀i d ρ,ds[i]?=cL d->I i ρ->∃ρ1,gt (.fz d) ρ=.ok ρ1/\Go (b ρ1) (I (i+1)) (I (i+1)) T)(e:∀ρ',I ds.length ρ'->Go (g ρ') N C T):Go (av (dG fi gt b) g ρ) N C T:=
 oA (sY I hi h0 a e)
theorem mO(I:aB->Prop)(P:Nat->D->Prop):∀(ds:cc D) (k:Nat) (ρ:aB) (acc:cc D),I ρ->acc.length+ds.length<=1000000->(∀i d,ds[i]?=cL d->∀ρ,I ρ->∃x ρ',ke gt ft fe d ρ=.ok (cL x,ρ')/\I ρ'/\P (k+i) x)->
  ∃xs,cW gt ft fe ds ρ acc=.ok (acc++xs)/\xs.length=ds.length/\∀i x,xs[i]?=cL x->P (k+i) x
 |[],k,ρ,acc,_,_,_=>⟨[],by show Res.ok acc=_;simp,rfl,λi x h=>by simp at h⟩
 |d::r,k,ρ,acc,h0,hl,hs=>by
  obtain⟨x,ρ',h1,l,j⟩:=hs 0 d rfl ρ h0;rw[OQ]at hl;obtain⟨xs,o,n,m⟩:=mO I P r (k+1) ρ' (acc++[x]) l (by rw[OO];simp;ext) λi p hi q b=>by
   have e:k+1+i=k+(i+1):=by ext
   rw[e];exact hs (i+1) p (by simpa using hi) q b
  refine⟨x::xs,?_,by rw[OQ,n,OQ],λi y a=>?_⟩
  .rw[tU h1 (by ext)];show cW gt ft fe r ρ' (acc++[x])=_;rw[o,Pj];rfl
  .cases i with
   |zero=>cases(show cL x=cL y from a);exact j
   |succ i=>
    have e:k+(i+1)=k+1+i:=by ext
    rw[e];exact m i y (by simpa using a)
theorem yN(I:aB->Prop)(P:Nat->D->Prop)(h0:I ρ)(b:ds.length<=1000000)(a:∀i d,ds[i]?=cL d->∀ρ,I ρ->∃x ρ',ke gt ft fe d ρ=.ok (cL x,ρ')/\I ρ'/\P i x):
  ∃xs,jU (cW gt ft fe ds ρ [])=.ok xs/\xs.length=ds.length/\∀i x,xs[i]?=cL x->P i x:=by
 obtain⟨xs,j,h,e⟩:=mO I P ds 0 ρ [] h0 (by simpa using b) (by simpa using a);exact⟨xs,by rw[j];rfl,h,by simpa using e⟩
theorem u4{α:Type}{xs:cc α}{i:Int}{v:α}(h0:0<=i)(h:xs[i.toNat]?=cL v):mS xs i=cL v:=zG h0 h
theorem He(h0:0<=i)(h:ds[i.toNat]?=cL d):dZ (.list ds) (.int i)=cL (.fz d):=by show(mS ds i).map RV.fz=_;rw[u4 h0 h];rfl
theorem gM(h0:0<=n)(h:n<=1000000):dL [.int n]=cL (my (PH n.toNat)):=by rw[uG (by unfold dc;ext),qK]
theorem M7:jD (.int 10) (.int 8)=cL (.fz (.int (10^8))):=tw ⟨by decide,by decide⟩
theorem Kz:jD (.int 10) (.int 24)=cL (.fz (.int (10^24))):=tw ⟨by decide,by decide⟩
theorem dr{f:D->D->cj RV}(ha:fa ρ=.ok (pa,ρ1))(hb:fb ρ1=.ok (pb,Z))(e:nv Z (gy pa)=cL dx)(a:nv Z pb=cL dy)(h:f dx dy=cL (.fz (.bool b))):az f fa fb ρ=.ok (.fz (.bool b),Z):=aK ha hb e a h
theorem zU{f:cc D->cj RV}(ha:fr ρ=.ok (ps,ρ1))(hd:pL ρ1 ps=cL ds)(a:f ds=cL (.fz (.bool b))):gb f fr ρ=.ok (.fz (.bool b),ρ1):=bD ha hd a
theorem gk(ha:fr ρ=.ok (ps,ρ1))(hd:lj ρ1 ps=cL (ds,Z))(hn:ds.length=n)(a:F ds=.ok (.fz (.bool b))):bH F n fr ρ=.ok (.fz (.bool b),Z):=cN ha hd hn a
end
end L3
namespace L3
open PySem PySem.Spec PyProof.Rows L2 PySem.Builtin PySem.Builtin.Str
section
variable{K:Bn}{E:XK}{B O O':aN}{H0 H H':Hp}{σ:L2.St}{ρ ρ':aB}{v:V}
def N8(K:Bn)(r:V->cc V->Hp->VK->Prop)(f:Str->cc D->cj RV):Prop:=∀(O:aN) (H:Hp) (z:Str) (xs:cc V) (ds:cc D) (rv:RV) (Q:VK),jy O H->Paired (DX O K H) xs ds->f z ds=cL rv->Fin O K H Q rv->r (.str z) xs H Q
def sI:D->D->cj RV
 |.str i,.str j=>if i.length+j.length<=1000000 then cL (.fz (.str (i++j)))else CL
 |_,_=>CL
theorem zg:iA K (λx y H Q=>∃i j,x=.str i/\y=.str j/\i.length+j.length<=Pd/\Q (.str (i++j)) H) sI:=by
 intro O H x y dx f rv Q n b a e q;unfold sI at e;split at e
 .split at e
  .rename_i d;cases e;cases b;cases a;exact⟨_,_,rfl,rfl,rD d,q.at (.str _)⟩
  .cases e
 .cases e
end
end L3
namespace L2
open PySem PySem.Spec PyProof.Rows
section
variable{κ:Type}[DecidableEq κ]
theorem Ug.UN(r:Ug o u):o.isSome=u.isSome:=by
 cases o with
 |none=>cases u with
  |none=>rfl
  |some _=>exact(show False from r).elim
 |some _=>cases u with
  |none=>exact(show False from r).elim
  |some _=>rfl
theorem Ug.getD(r:Ug o u)(a:RelV d d'):RelV (o.getD d) (u.getD d'):=by
 cases o with
 |none=>cases u with
  |none=>exact a
  |some _=>exact(show False from r).elim
 |some _=>cases u with
  |none=>exact(show False from r).elim
  |some _=>exact r
end
section
variable{X:Cx}{Z:cc (OL×Obj)}{Y:St}{H:Hp}{s:OK}{a:OL}{y v:V}{u r:OC}{o:cj V}{A:Pp}{E:OC->OK->Prop}
theorem Inv.big(I:Inv X Z Y H s):Q6<s.heap.objs.size:=by have h:=(I.mod.glob.keeps I.bk).lt;exact Sn (by decide) h
theorem vg{h':Heap}{t':Nat}{d:HO}(I:Inv X Z Y H s)(f:KI (H a))(g:Heap.SameBut a s.heap h')(h:∃q,h'.get? a=cL q)(new:Qt X.prog X.w (upd H a d) h' a d):
  Inv X Z Y (upd H a d) {s with heap:=h',toks:=t'}:=
 I.write (x:=a) (e:=a) f (.inl rfl) (λb q i z=>(g.2 b i).trans z) h new
end
def JL(i:Po):Prop:=∀ov iv,subscripted i OP ov iv=operate [ov,iv] (getItem ov iv)
theorem uJ{T id:String}
  (k:typeLookup (.type T) "__getitem__"=pure (cL (.builtin id))) (j:JL slice)
  (h:wpAny (model prog w) A (eval value env) (λo s₁=>wpAny (model prog w) A (eval slice env) (λi s₂=>s₂.TypeIs o T/\wpAny (model prog w) A (getItem o i) Q E s₂) E s₁) E s):
  wpAny (model prog w) A (eval (.Subscript value slice pos) env) Q E s:=by
 refine Subscript_ (wpAny_mono h (λo s₁ f=>wpAny_mono f (λi s₂ a=>?_) λ_ _ x=>x) λ_ _ x=>x);obtain⟨g,a⟩:=a;unfold subscriptTail;refine lD ?_;rw[getitemInPython_of_ne g.not_modules];refine lD (aak g k ?_);have d:wpAny (model prog w) A (subscripted slice OP o i) (λr b=>wpAny (model prog w) A (letTemporaryGo value o r>>=λ_=>pure r) Q E b) E s₂:=by rw[j o i];exact wpAny_operating (wpAny_mono a (λr b e=>lD (wpAny_letTemporaryGo (OE e))) λ_ _ x=>x)
 first
  |exact OE (lD d)
  |exact lD (OE (lD d))
  |exact lD d
structure M1(X:Cx)(o:Po)(m:Str)(apos:Pos)(e:Po)(Sh:Pos):Prop where
 base:attributeBase o m X.env (eval o X.env)=eval o X.env
 few:((backTo Sh (PZ [e] X.env)).all (λx=> !x.1)&&(backToKw Sh (keywordEach [] X.env)).all (λx=>x.1.isSome)
  &&decide (([e]:cc Po).length+([]:cc TF).length+(if([]:cc TF).isEmpty then 0 else 1)<30))=OG
 line:(apos.endLine==Sh.line)=OG
 trees:backTo Sh (PZ [e] X.env)=[(OP,eval e X.env)]
structure M2(X:Cx)(o:Po)(m:Str)(apos:Pos)(e f:Po)(Sh:Pos):Prop where
 base:attributeBase o m X.env (eval o X.env)=eval o X.env
 few:((backTo Sh (PZ [e,f] X.env)).all (λx=> !x.1)&&(backToKw Sh (keywordEach [] X.env)).all (λx=>x.1.isSome)
  &&decide (([e,f]:cc Po).length+([]:cc TF).length+(if([]:cc TF).isEmpty then 0 else 1)<30))=OG
 line:(apos.endLine==Sh.line)=OG
 trees:backTo Sh (PZ [e,f] X.env)=[(OP,eval e X.env),(OP,eval f X.env)]
end L2
namespace HT
open PySem PySem.Spec PyProof.Rows PySem.Calls
theorem sS(n:Nat):Pb.Slice.sliceAdjust CL CL (-1) (n:Int)=((n:Int) - 1,-1):=by
 unfold Pb.Slice.sliceAdjust;have h1:(-1:Int)<0:=by decide
 simp only[h1,if_true]
theorem tI(n:Nat):Pb.Slice.slicePlaces ((n:Int) - 1) (-1) (-1)=n:=by
 unfold Pb.Slice.slicePlaces;have h1:¬((-1:Int)>0):=by decide
 simp only[h1,if_false];by_cases h:(n:Int) - 1> -1
 .rw[ai h,show(- -1:Int)=1 by decide,Zh];ext
 .rw[ak h];ext
theorem AQ(xs:Array OC):((PH xs.size).filterMap λ(m:Nat)=>xs[((xs.size:Int) - 1+(m:Int)*(-1)).toNat]?).toArray=xs.toList.reverse.toArray:=by
 have e:(PH xs.size).filterMap (λ(m:Nat)=>xs[((xs.size:Int) - 1+(m:Int)*(-1)).toNat]?)=((PH xs.size).map λk=>xs.size - 1 - k).filterMap (xs[·]?):=by
  rw[Wg];have a:∀l:cc Nat,(∀m∈l,m<xs.size)->l.filterMap (λ(m:Nat)=>xs[((xs.size:Int) - 1+(m:Int)*(-1)).toNat]?)=l.filterMap ((xs[·]?)∘λk=>xs.size - 1 - k):=by
   intro l
   induction l with
   |nil=>intro _;rfl
   |cons m r b=>
    intro h;have hm:=h m (.head _);have e1:((xs.size:Int) - 1+(m:Int)*(-1)).toNat=xs.size - 1 - m:=by ext
    rw[Q2,Q2,b λk d=>h k (.tail _ d),e1];rfl
  exact a _ λm hm=>QK.mp hm
 rw[e,PySem.W.krv_range,List.filterMap_reverse,PySem.W.krv_all]
section
variable{prog:Pa}{w:Pz}{A:Pp}{E:OC->OK->Prop}{s:OK}
theorem jM{e:OL}{a:OC}{n:Nat}{Q:Int×Int×Nat->OK->Prop}(g:s.heap.IsSliceOf e .none .none a)(f:Tg a (cL (-1)))
  (h:Q ((n:Int) - 1,-1,n) s):wpAny (model prog w) A (Pb.Slice.sliceApplied (.ref e) (pure (n:Int))) Q E s:=by
 obtain⟨i,d,j,b⟩:=id g;unfold Pb.Slice.sliceApplied Pb.Slice.sliceFields;refine lD (lD (Q3 d b (x:=.none) rfl (lD (Q3 d b (x:=.none) rfl (lD (Q3 d b (x:=a) rfl (OE ?_)))))));refine lD (eS f ?_);show wpAny _ _ (if((-1:Int)==0)=OG then _ else _) _ _ s;rw[ak (by decide)];refine lD (eS .none (lD (eS .none (lD (OE ?_)))));show wpAny _ _ (match Pb.Slice.sliceAdjust CL CL (-1) (n:Int)with|(lo,hi)=>pure (lo,(-1:Int),Pb.Slice.slicePlaces lo hi (-1))) _ _ s;rw[sS n];show wpAny _ _ (pure ((n:Int) - 1,(-1:Int),Pb.Slice.slicePlaces ((n:Int) - 1) (-1) (-1))) _ _ s;rw[tI];exact OE h
theorem getItem_tuple_rev{t d:OL}{items:Array OC}{e:OC}{Q:OC->OK->Prop}(a:IsTup s.heap t items)(f:s.heap.IsSliceOf d .none .none e)(g:Tg e (cL (-1)))
  (h:Q (.ref s.heap.objs.size) {s with heap:=s.heap.push {cls:=.type "tuple",data:=.seq items.toList.reverse.toArray}})
  (hsz:items.size<=Pd):wpAny (model prog w) A (getItem (.ref t) (.ref d)) Q E s:=by
 have b:sizeOk (.seq items.toList.reverse.toArray):=by show items.toList.reverse.toArray.size<=Pd;rw[O8,RF,Pt];exact hsz
 obtain⟨i,l,k,n⟩:=id f;have j:s.TypeIs (.ref d) "slice":=⟨i,l,k⟩;unfold getItem
 try with_reducible refine QE ?_
 first|refine lD (OE ?_)|skip
 refine lD (Uy a.typeIs (by decide) ?_);refine lD (QA (name:=Str.ofString "__getitem__") a.typeIs PJ
  (Qk PJ a.typeIs entry_tuple_getitem ?_ (args_tuple_getitem _ _)))
 show wpAny _ _ (Pb.Tuple.tupleItemsOf (.ref t)>>=_) _ _ s;refine lD (tupleItemsOf_ a ?_);refine lD (SI j ?_);rw[ai (by decide)];refine lD (jM f g ?_);show wpAny _ _ (if(((items.size:Int) - 1)==0&&(-1:Int)==1&&items.size==items.size)=OG then _ else _) _ _ s;rw[ak (by rw[show((-1:Int)==1)=OP from by decide,XY,Sv];exact OX),AQ]
 first
  |exact lD (m:=Pb.Tuple.tupleExact _) (Pw (OE ⟨_,rfl,OE h⟩) b)
  |exact lD (m:=Pb.Tuple.tupleExact _) (Pw (lD (OE (OE ⟨_,rfl,OE h⟩))) b)
  |exact lD (lD (m:=Pb.Tuple.tupleExact _) (Pw (OE (OE ⟨_,rfl,OE h⟩)) b))
  |exact lD (lD (m:=Pb.Tuple.tupleExact _) (Pw (OE ⟨_,rfl,OE h⟩) b))
end
end HT
namespace L2
open PySem PySem.Spec PyProof.Rows
theorem zH{xs:cc V}{a:cc OC}(h:Vals xs a):Vals xs.reverse a.reverse:=by
 induction h with
 |nil=>exact .nil
 |cons h t b=>rw[SJ,SJ];exact b.append (.cons h .nil)
def LY(K:Bn)(te:TE)(e:TO):TE:=λd H Q=>te d H λx f=>e d f λo b=>o=cL (-1)/\∃a xs,x=.ref a/\Tj K b a xs/\∀p,b p=CL->Q (.ref p) (upd b p (.tup xs.reverse))
theorem GN{X:Cx}{e st:Po}{m pos:Pos}{te:TE}{l:TO}(J:PE X e te)(G:PO X (cL st) l):PE X (.Subscript e (.Slice CL CL (cL st) m) pos) (LY X.K te l):=by
 intro d s i H Q I h;refine Subscript_ (bK (J d s i H _ I h) λv t ⟨x,S,O,u,B⟩=>?_);refine wpAny_Slice ?_;rw[VU];refine OE ?_;refine OE (bK (G d t i S _ O B) λk f ⟨o,P,N,C,e3,a,xs,L,F,z⟩=>?_);subst e3 L;cases u;have j:Inv X d i P {f with heap:=f.heap.push {cls:=.type "slice",data:=.fields #[.none,.none,k]}}:=N.kept (t':=f.toks) λb E q=>c0 _ q;obtain⟨M,r,p,n⟩:=j.tuple F;have g:M.toArray.size=xs.length:=by rw[O8];exact r.length.symm
 show wpAny (model X.prog X.w) X.A (subscriptTail e (.Slice CL CL (cL st) m) (.ref a) (.ref f.heap.objs.size)) (EP X d i Q) X.xe {f with heap:=f.heap.push {cls:=.type "slice",data:=.fields #[.none,.none,k]}};refine tail_any (ops:=[.ref a,.ref f.heap.objs.size]) p.typeIs PJ.lookup ?_ (by with_unfolding_all rfl);refine HT.getItem_tuple_rev p (Heap.IsSliceOf.new ..) C ?_ (by rw[g];exact n);refine⟨.ref _,_,j.laid (t':=f.toks) (o:=.tup xs.reverse) (λb E q=>c0 _ q) (OJ _) ?_,rfl,z _ (j.QX.fresh (OJ _))⟩;exact⟨by rw[RF];exact n,_,zH r,Ui.new _ _⟩
end L2
namespace L3
open PySem PySem.Spec PyProof.Rows L2
def Gi(K:Bn):R2:=λx y H Q=>∃(a b:OL) (ys:cc V),x=.ref a/\y=.ref b/\Tj K H a []/\Tj K H b ys/\Q (.ref b) H
theorem ED{X:Cx}:OpR X (QJ .Add) (Gi X.K):=by
 intro g s L H x y v u Q I t r h;obtain⟨a,b,ys,rfl,rfl,ha,C,q⟩:=h;cases t;cases r;obtain⟨N,w,A,_⟩:=I.tuple ha;obtain⟨G,M,z,_⟩:=I.tuple C;cases w;obtain⟨⟨E,dd,l,p⟩,i,k,n,j⟩:=id A;obtain⟨⟨F,e,f,J⟩,m,o,B,d⟩:=id z;simp only at k j o d;subst k j o d;exact Ws ⟨_,i,rfl⟩ ⟨_,m,rfl⟩ UQ VT SY SH (Sz _ _)
  (tuple_addW0 a b _ G.toArray n B dd e p J rfl) ⟨i,m,⟨.ref b,H,I,rfl,q⟩⟩
def Gh(K:Bn):R2:=λx y H Q=>zd K x y H Q\/Gi K x y H Q
theorem CJ{X:Cx}:OpR X (QJ .Add) (Gh X.K):=OpR.or uY ED
def xK:D->D->cj RV
 |.tuple [],.tuple ys=>cL (.fz (.tuple ys))
 |d,e=>bi d e
theorem BN{K:Bn}:iA K (Gh K) xK:=by
 intro O H x y dx j rv Q n f d e q;unfold xK at e;split at e
 .cases e;obtain⟨a,xs,rfl,h1,h⟩:=uq f;obtain⟨b,ys,rfl,g,i⟩:=uq d;cases h;exact .inr ⟨a,b,ys,rfl,rfl,h1.1,g.1,q.at (.tup g i)⟩
 .exact .inl (um O H x y dx j rv Q n f d e q)
end L3
namespace L4
open PySem PySem.Spec PyProof.Rows L2 L3
def J7(h:Heap)(e:OL)(c:OC)(dx:cj OL)(a:OC)(hd:cj OL):Prop:=
 ∃ob fs,h.get? e=cL ob/\ob.cls=c/\ob.dict=dx/\ob.data=.fields fs/\fs[0]?=cL a/\
  match hd with
  |none=>fs[1]?=cL .none
  |some T=>fs[1]?=cL (.ref T)/\T≠e/\∃oT ts,h.get? T=cL oT/\oT.data=.fields ts/\ts[3]?=cL .none
structure Lft(l:cc Env)(e:OL)(hd:cj OL)(h h':Heap):Prop where
 keep:∀b o,h.get? b=cL o->b≠e->hd≠cL b->b∉tK l->h'.get? b=cL o
 slot:∀b o,h.get? b=cL o->b≠e->hd≠cL b->∃sl,h'.get? b=cL {o with slots:=sl}
 here:∀b o,h.get? b=cL o->∃o',h'.get? b=cL o'
section
variable{M:YM}{A:Pp}{E:OC->OK->Prop}{s:OK}
theorem kN
  (I:A.frames=cL (env::outer)) (B:s.heap.FunFrames base (env::outer)) (H:env.frame=cL L) (C:s.heap.get? e=cL ob) (m:ob.data=.fields fs) (l:1<fs.size) (h0:fs[0]?=cL a0)
  (k:∀h' T,s.heap.objs.size<=T->J7 h' e ob.cls ob.dict a0 (cL T)->Lft (env::outer) e CL s.heap h'->Q () {s with heap:=h'}):
  wpAny M A (frameOf env>>=λfr=>entryPlaceOf L nx>>=λpl=>EntryCells.newEntry hv fr .none (rawInt L) .none pl>>=λb=>setField (.ref e) 1 b) (λ_ s'=>wpAny M A (setFlight (.ref e) CL) Q E s') E s:=by
 have i:e∉(env::outer).filterMap (·.frame):=λz=>by obtain⟨_,o,q,n⟩:=B.mem z;rw[C]at q;cases q;exact n fs m
 refine lD (wpAny_frameOf_fun I B H λh1 S=>?_);refine lD (wpAny_entryPlaceOf λpl P=>?_);unfold EntryCells.newEntry newFields;refine lD (Pw ?_ (P.sizeOk5 _ _ _ _ _));have w:=(S.2.1 e i).trans C;generalize hN:({cls:=.type "traceback",dict:=CL,data:=.fields ([hv,.ref L,.none,rawInt L,.none]++(if pl.isEmpty then ON 6 OC.none else pl)).toArray}:Obj)=N;have a:N.data=.fields ([hv,.ref L,.none,rawInt L,.none]++(if pl.isEmpty then ON 6 OC.none else pl)).toArray:=by rw[<-hN]
 have J:=dN a;have v:=c0 N w;refine RG v m l ?_;have j:=RB (c3 w);have p:=dt m (·.setIfInBounds 1 (OC.ref h1.objs.size));have h:=c6 (Obj.mapFields (·.setIfInBounds 1 (OC.ref h1.objs.size))) v (dN p)
 have t:=
  (c5 (h1.push N) (Obj.mapFields (·.setIfInBounds 1 (OC.ref h1.objs.size))) j.symm).trans (c4 h1 J)
 unfold setFlight;refine lD (Q3 h p (x:=.ref h1.objs.size) (by simp[l]) ?_);rw[ai (show(OC.ref h1.objs.size !=OC.none)=OG from by simp)];have r:3<([hv,.ref L,.none,rawInt L,.none]++(if pl.isEmpty then ON 6 OC.none else pl)).toArray.size:=by simp only[O8,OO,OQ,RI];ext
 refine RG t a r ?_;have u:=c5 ((h1.push N).update e (Obj.mapFields (·.setIfInBounds 1 (OC.ref h1.objs.size)))) (Obj.mapFields (·.setIfInBounds 3 ((CL:cj OL).elim OC.none λf=>rawInt f))) j;have F:=c6 (Obj.mapFields (·.setIfInBounds 3 ((CL:cj OL).elim OC.none λf=>rawInt f))) t (dN (dt a _));have UI:∀b o,b≠e->h1.get? b=cL o->(((h1.push N).update e (Obj.mapFields (·.setIfInBounds 1 (OC.ref h1.objs.size)))).update h1.objs.size (Obj.mapFields (·.setIfInBounds 3 ((CL:cj OL).elim OC.none λf=>rawInt f)))).get? b=cL o:=λb o ne q=>by rw[c5 _ _ (RB (c3 q)),c5 _ _ ne.symm];exact c0 N q
 refine k _ h1.objs.size (by rw[S.1];exact OJ _) ⟨_,_,u.trans h,Obj.cls_mapFields _ _,?_,p,?_,?_,j,_,_,F,dt a _,?_⟩ ⟨λb o q ne _ G=>UI b o ne ((S.2.1 b G).trans q),λb o q ne _=>?_,λb o q=>?_⟩
 .cases ob with
  |mk c d K g=>cases K<;>rfl
 .rw[T9 (by decide)];exact h0
 .simp[l]
 .rw[Tr r];rfl
 .obtain⟨g,z⟩:=S.2.2 b o q;exact⟨g,UI b _ ne z⟩
 .by_cases ne:b=e
  .subst ne;exact⟨_,u.trans h⟩
  .obtain⟨g,z⟩:=S.2.2 b o q;exact⟨_,UI b _ ne z⟩
theorem xP
  (u:A.frames=cL (env::outer)) (t:s.heap.FunFrames base (env::outer)) (g:env.frame=cL L) (F:J7 s.heap e c dx a0 hd)
  (k:∀h' T,s.heap.objs.size<=T->J7 h' e c dx a0 (cL T)->Lft (env::outer) e hd s.heap h'->Q () {s with heap:=h'}):wpAny M A (leaving env (.ref e)) Q E s:=by
 obtain⟨J,fs,q,G,C,d,h0,r⟩:=F;subst G C;cases hd with
 |none=>have r:=r;unfold leaving noteFrame;simp only[g];refine lD (lD (Q3 q d r ?_));rw[ak (by decide)];exact kN u t g q d (Sr.mp r).1 h0 k
 |some T=>
  obtain⟨r,w,K,v,f,dT,m⟩:=r;unfold leaving noteFrame;simp only[g];refine lD (lD (Q3 q d r ?_));rw[ai (show(OC.ref T !=OC.none)=OG from by simp)];refine lD (Q3 f dT m ?_);rw[ak (show¬((OC.none==rawInt L)=OG)from by simp[rawInt])];refine lD (RG f dT (Sr.mp m).1 ?_);have lX:∀b,b≠T->(s.heap.update T (Obj.mapFields (·.setIfInBounds 3 OC.none))).get? b=s.heap.get? b:=λb ne=>c5 _ _ ne.symm;have a:=c6 (Obj.mapFields (·.setIfInBounds 3 OC.none)) f (dN (dt dT _));have l:∀b o,s.heap.get? b=cL o->(∀vs,o.data≠.fields vs)->b≠T:=λb o z n y=>by rw[y,f]at z;cases z;exact n v dT
  refine kN u (t.of_keeps λb o z n=>⟨o,(lX b (l b o z n)).trans z,rfl⟩) g ((lX e w.symm).trans q) d (Sr.mp r).1 h0 λh' H p I h=>k h' H (by rw[Heap.size_after_update]at p;exact p) I ⟨λb o z j i B=>?_,λb o z j i=>?_,λb o z=>?_⟩
  .exact h.keep b o ((lX b λy=>i (by rw[y])).trans z) j (by simp) B
  .exact h.slot b o ((lX b λy=>i (by rw[y])).trans z) j (by simp)
  .by_cases y:b=T
   .subst y;exact h.here b _ a
   .exact h.here b o ((lX b y).trans z)
end
theorem Lft.QX{P:Pa}{w:Pz}{l:cc Env}{e:OL}{hd:cj OL}{H:Hp}{h h':Heap}(L:Lft l e hd h h')(j:Ub P w H h)(ne:H e=CL)(g:∀T,hd=cL T->H T=CL)(i:∀b∈tK l,H b=CL):Ub P w H h':=λb u q=>by
 have free:∀c v,H c=cL v->c≠e/\hd≠cL c/\c∉tK l:=λc v z=>⟨(λy=>by rw[y,ne]at z;cases z),(λy=>by rw[g c y]at z;cases z),(λy=>by rw[i c y]at z;cases z)⟩;refine(j b u q).UI (λc v k z=>?_) (λ_ z=>z) λ_ _ z=>z;rcases k with y|y
 .rw[y]at z⊢;obtain⟨f,d,a⟩:=free b u q;exact L.keep b v z f d a
 .obtain⟨f,d,a⟩:=free c _ y;exact L.keep c v z f d a
def Dm(P:Pa)(w:Pz):pY:=λa H s E x b=>
 ∃e c dx a0 T H',x=.ref e/\s.heap.get? e=CL/\s.heap.get? T=CL/\J7 b.heap e c dx a0 (cL T)/\H' e=CL/\H' T=CL/\
  b.os=s.os/\AllBare b.gens/\Un (tK a) [] H H' s.heap b.heap/\Ub P w H' b.heap/\E c dx H'
theorem Ku{P:Pa}{w:Pz}{K:Bn}{mg:Str->cj OC}{base:Heap}{N:cc Str}{h:Str}{a:Q1}{f:OL}{r:OC}{A:Pp}{outer:cc Env}{d:OK}{u:Hp}{E:XK}
  {j:cc (OL×Obj)} {v:L2.St} {H:Hp} {s:OK} {e:OL} {c t:OC} {dx hd:cj OL} (I:L2.Inv (iz (Dm P w) P w K mg base N h a f r A outer d u E) j v H s)
  (F:J7 s.heap e c dx t hd) (p:d.heap.get? e=CL) (O:∀T,hd=cL T->d.heap.get? T=CL) (ne:H e=CL) (J:∀T,hd=cL T->H T=CL) (q:E c dx H):
  (iz (Dm P w) P w K mg base N h a f r A outer d u E).xe (.ref e) s:=by
 have X:=I.ok.frames;have U:=I.stack;refine xP (L:=d.heap.objs.size) X U rfl F λh' T m Z L=>?_;have M:=L.QX I.QX ne J I.U1;have S:H T=CL:=I.QX.fresh m;have k:∀b o,d.heap.get? b=cL o->b<d.heap.objs.size:=λb o z=>c3 z;have g:∀b o,d.heap.get? b=cL o->b≠e/\hd≠cL b:=λb o z=>⟨(λy=>by rw[y,p]at z;cases z),(λy=>by rw[O b y]at z;cases z)⟩;have sz:=I.sz;refine⟨e,c,dx,t,T,H,rfl,p,Heap.get?_none_of_le (OZ sz m),Z,ne,S,I.os,I.bare,?_,M,q⟩;have B:=I.base;refine⟨λb o z n l _=>?_,λb o z n Q _=>?_,λb o z n _=>?_,λb o z _=>?_,B.U5,B.UK,B.UW⟩
 .have i:=B.keep b o z n l (λy=>nomatch y)
  refine L.keep b o i (g b o z).1 (g b o z).2 λy=>?_;rcases Pe.mp (I.U3 b y)with y|y
  .have y:b=d.heap.objs.size:=y;exact cb (k b o z) (by rw[y];exact Qa _)
  .exact l y
 .obtain⟨sl,i⟩:=B.slot b o z n Q (λy=>nomatch y);obtain⟨Y,C⟩:=L.slot b _ i (g b o z).1 (g b o z).2;exact⟨Y,C⟩
 .exact B.free b o z n (λy=>nomatch y)
 .obtain⟨G,i⟩:=B.there b o z (λy=>nomatch y);exact L.here b G i
theorem A9{P:Pa}{w:Pz}{K:Bn}{mg:Str->cj OC}{base:Heap}{N:cc Str}{d:Str}{a:Q1}{f:OL}{k:OC}{A:Pp}{outer:cc Env}{h:OK}{n:Hp}{E:XK}:
  jJ (Dm P w) (iz (Dm P w) P w K mg base N d a f k A outer h n E) E:=by
 rintro j p H s x r I ⟨e,c,dx,u,T,v,rfl,le,lT,F,ne,nT,os,bare,un,QX,q⟩;have m:=I.Yc (ch:=[]) os un QX bare (λb z=>nomatch z);have g:∀b,s.heap.get? b=CL->h.heap.get? b=CL:=λb z=>by
  cases y:h.heap.get? b with
  |none=>rfl
  |some o=>obtain⟨t,i⟩:=I.base.there b o y (λy=>nomatch y);rw[z]at i;cases i
 exact Ku m F (g e le) (λl z=>by cases z;exact g T lT) ne (λl z=>by cases z;exact nT) q
section
variable{P:Pa}{w:Pz}{K:Bn}{mg:Str->cj OC}{base:Heap}{N:cc Str}{qual:Str}{scope:Q1}{f:OL}{cd:OC}{A:Pp}{outer:cc Env}{s0:OK}{H0:Hp}{E:XK}{CX:pY}
  {σ:L2.St} {H:Hp} {s:OK} {h':Heap} {X:Cx}
end
def LH(K:Bn)(C:OL)(m:cc OC):Prop:=∃nm q N bs hd sn sub ab col dd k0 k1 k2 k3 k5 id,K.lookup C=cL (excClassObj nm q C N bs m hd sn sub ab col dd k0 k1 k2 k3 k5 id)
structure Apart(X:Cx)(a:OL):Prop where
 n0:X.s₀.heap.get? a=CL
 nL:a≠X.env.locals
 nC:∀y c,X.env.cells.lookup y=cL c->c≠a
 nP:∀p∈X.pn,p.1≠a
end L4
namespace L4
open PySem PySem.Spec PySem.W PyProof.Rows L2 L3
section
variable{prog:Pa}{w:Pz}{A:Pp}{E:OC->OK->Prop}{h:Heap}{g:Array Ux}{d:YL}{t:Nat}{os:YQ}{a C:OL}{o:Obj}{K:Bn}
  {n1 q1:Str} {N1:OL} {b1 m1:cc OC} {d1:Bool} {s1:cc Str} {u1:cc OC} {a1:Bool} {c1:cj Bool} {x1:cj OL} {i0 i1 i2 i3 i5:cj OC} {id1:String}
structure aby(K:Bn)(C:OL)(m:cc OC):Prop where
 cl:LH K C m
 be:m.contains (.type "BaseException")=OG
 ga:findIn K (.ref C) "__getattribute__"=cL (cL (.builtin "BaseException.__getattribute__"))
 gt:findIn K (.ref C) "__getattr__"=cL CL
 cs:findIn K (.ref C) "__class__"=cL (cL (.builtin "object.__class__"))
 ob:mroIn K C (.type "object")=cL OG
end
end L4
namespace HT
open PySem PySem.Spec PyProof.Rows
section
variable{prog:Pa}{w:Pz}{A:Pp}{E:OC->OK->Prop}{s:OK}
theorem getItem_tuple_all{t b:OL}{items:Array OC}{f e:OC}{lo hi:cj Int}{Q:OC->OK->Prop}(a:IsTup s.heap t items)(i:s.heap.IsSliceOf b f e .none)(pl:Tg f lo)(j:Tg e hi)
  (g:sIx items.size 0 lo=0/\sIx items.size items.size hi=items.size) (h:Q (.ref t) s):wpAny (model prog w) A (getItem (.ref t) (.ref b)) Q E s:=by
 obtain⟨k,o,n,p⟩:=id i;have l:s.TypeIs (.ref b) "slice":=⟨k,o,n⟩;unfold getItem
 try with_reducible refine QE ?_
 first|refine lD (OE ?_)|skip
 refine lD (Uy a.typeIs (by decide) ?_);refine lD (QA (name:=Str.ofString "__getitem__") a.typeIs PJ
  (Qk PJ a.typeIs entry_tuple_getitem ?_ (args_tuple_getitem _ _)))
 show wpAny _ _ (Pb.Tuple.tupleItemsOf (.ref t)>>=_) _ _ s;refine lD (tupleItemsOf_ a ?_);refine lD (SI l ?_);rw[ai (by decide)];refine lD (fV i pl j ?_);have d:((((sIx items.size 0 lo:Nat):Int)==0&&(1:Int)==1&&(sIx items.size items.size hi - sIx items.size 0 lo)==items.size)=OG):=by rw[g.1,g.2];simp
 show wpAny _ _ (if(((sIx items.size 0 lo:Nat):Int)==0&&(1:Int)==1&&(sIx items.size items.size hi - sIx items.size 0 lo)==items.size)=OG then _ else _) _ _ s;rw[ai d];refine lD (m:=Pb.Tuple.tupleIsExact _) ?_;unfold Pb.Tuple.tupleIsExact;refine lD (SI a.typeIs (OE ?_));rw[ai (by decide)];refine lD (TJ ?_);exact OE ⟨_,rfl,OE h⟩
end
end HT
namespace L3
open PySem PySem.Spec PyProof.Rows L2
def Kg(K:Bn):V->cj Int->cj Int->Hp->VK->Prop:=λx lo hi H Q=>∃(a:OL) (xs:cc V),x=.ref a/\Tj K H a xs/\(HT.sIx xs.length 0 lo=0/\HT.sIx xs.length xs.length hi=xs.length)/\Q (.ref a) H
theorem zZ{X:Cx}:GU X (Kg X.K):=by
 intro d s m H x v o n lo hi p Q I f k pl g h;obtain⟨a,xs,rfl,i,j,q⟩:=h;cases f;obtain⟨l,r,e,t⟩:=I.tuple i;have b:l.toArray.size=xs.length:=by rw[O8];exact r.length.symm
 refine⟨"tuple",_,PJ.lookup,e.typeIs,?_⟩;exact HT.getItem_tuple_all e k pl g (by rw[b];exact j) ⟨.ref a,H,I,rfl,q⟩
def Ly(K:Bn):V->cj Int->cj Int->Hp->VK->Prop:=λx lo hi H Q=>Hq K x lo hi H Q\/Kg K x lo hi H Q
theorem Ei{X:Cx}:GU X (Ly X.K):=by
 intro a s b H x v e d lo hi f Q I g i pl h q;rcases q with q|q
 .exact AN a s b H x v e d lo hi f Q I g i pl h q
 .exact zZ a s b H x v e d lo hi f Q I g i pl h q
def kt:D->cj Int->cj Int->cj RV
 |.list ds,lo,hi=>cL (.ow (gC ds lo hi))
 |.tuple ds,lo,hi=>cL (.fz (.tuple (gC ds lo hi)))
 |_,_,_=>CL
theorem Ew{ds:cc D}{lo hi:cj Int}(h:HT.sIx ds.length 0 lo=0/\HT.sIx ds.length ds.length hi=ds.length):gC ds lo hi=ds:=by unfold gC;rw[h.1,h.2,XZ,Zl,Qz]
theorem La{K:Bn}:Mc K (Ly K) kt:=by
 intro O H x lo hi dx rv Q n b e q;cases dx with
 |list ds=>exact .inl (oX O H x lo hi _ rv Q n b e q)
 |tuple ds=>
  cases e;by_cases d:HT.sIx ds.length 0 lo=0/\HT.sIx ds.length ds.length hi=ds.length
  .obtain⟨a,xs,rfl,h1,f⟩:=uq b;rw[Ew d]at q;refine .inr ⟨a,xs,rfl,h1.1,by rw[f.length];exact d,q.at (.tup h1 f)⟩
  .refine .inl (oX O H x lo hi (.tuple ds) _ Q n b ?_ q)
   show(if gY ds.length lo hi=OG then CL else cL (RV.fz (.tuple (gC ds lo hi))))=_;have z:gY ds.length lo hi=OP:=by unfold gY;exact a7 d
   rw[z,ak OX]
 |_=>cases e
section
variable{K:Bn}{E:XK}
end
end L3
namespace L9
open PySem PySem.W PyProof.Rows Builtin Builtin.ObjectAttr
abbrev Nu:cc OC:=[.type "ValueError",.type "Exception",.type "BaseException",.type "object"]
end L9
namespace L9
open PySem PySem.Spec PyProof.Rows L2
def M8(v:V):Prop:=v=.Se\/∃i:Int,v=.int i/\i.natAbs.log2<1920
def Nz(C e:OL):Heap->Prop:=λh=>∃fs t0,h.get? e=cL ⟨.ref C,CL,.fields fs,#[]⟩/\fs[0]?=cL (.ref t0)/\fs[1]?=cL .none
def No(C e p:OL):Heap->Prop:=λh=>∃fs a0,h.get? e=cL ⟨.ref C,cL p,.fields fs,#[]⟩/\fs[0]?=cL a0/\fs[1]?=cL .none
structure XC(K:Bn)(C B fI:OL):Prop where
 obj:∃nm q N bs sn sub ab col dd k0 k1 k2 k3 k5,K.lookup C=cL (excClassObj nm q C N bs (.ref B::Nu) OG sn sub ab col dd k0 k1 k2 k3 k5 "ValueError.__new__")/\PySem.W.nsOkIn K N=OG/\Qr K N "__init__"=cL (cL (.ref fI))
 base:Uz K B Nu "ValueError.__new__"=OG
 sa:QH K (.ref C) "__setattr__"=cL (cL (.builtin "object.__setattr__"))
end L9
namespace L9
open PySem PySem.Spec PySem.W PyProof.Rows L2 L3 L4
section
variable{prog:Pa}{w:Pz}{A:Pp}{E:OC->OK->Prop}{h:Heap}{g:Array Ux}{d:YL}{t:Nat}{os:YQ}{a C:OL}{o:Obj}{K:Bn}{od:cj Obj}{name:Str}{v:OC}
  {n1 q1:Str} {N1:OL} {b1 m1:cc OC} {d1:Bool} {s1:cc Str} {u1:cc OC} {a1:Bool} {c1:cj Bool} {x1:cj OL} {i0 i1 i2 i3 i5:cj OC} {id1:String}
end
def Cy(C:OL)(f:Str):Sp:=λvs H Q _=>∃e v,vs=[.ref e,v]/\M8 v/\H e=cL (.ext (Nz C e))/\∀p,H p=CL->p≠e->Q .Se (upd (upd H e (.ext (No C e p))) p (.xd [(f,v)]))
end L9
namespace L3
open PySem PySem.Spec PyProof.Rows L2
mutual
def NA:OD->Bool
 |.tuple ds=>Jh ds
 |.int _=>OG
 |.str _=>OG
 |.bool _=>OG
 |.none=>OG
 |_=>OP
def Jh:cc OD->Bool
 |[]=>OG
 |d::r=>NA d&&Jh r
end
section
variable{K:Bn}{E:XK}{B:aN}{H0:Hp}{O Z:aN}{σ:L2.St}{H H':Hp}{ρ:aB}
theorem EH(h:Tj K H a xs)(l:H a=cL (.lst ys)):Tj K (λ_=>CL) a xs:=by
 rcases h with(h|⟨o,h⟩)|h
 .rw[l]at h;cases h
 .rw[l]at h;cases h
 .exact .inr h
mutual
theorem C3(f:∀b,O b->¬Z b->∃ys,H b=cL (.lst ys)):∀{v:V} {d:D},DV Z K H v d->NA d=OG->DV O K H v d
 |_,_,.Se,_=>.Se
 |_,_,.bl b,_=>.bl b
 |_,_,.int i,_=>.int i
 |_,_,.str x,_=>.str x
 |_,_,.tup (a:=a) h hs,e=>.tup ⟨h.1,λz=>by
   by_cases y:Z a
   .exact h.2 y
   .obtain⟨ys,q⟩:=f a z y;exact EH h.1 q⟩ (qu f hs e)
 |_,_,.lst h hs,e=>by cases e
theorem qu(a:∀b,O b->¬Z b->∃ys,H b=cL (.lst ys)):∀{vs:cc V} {ds:cc D},QC Z K H vs ds->Jh ds=OG->QC O K H vs ds
 |_,_,.nil,_=>.nil
 |_,_,.cons h hs,e=>by have d:=Bool.and_eq_true_iff.mp e;exact .cons (C3 a h d.1) (qu a hs d.2)
end
end
end L3
namespace L9
open PySem PySem.Spec PyProof.Rows L2 L3
section
variable{K:Bn}{E:XK}
def Fs:R2:=λx y H Q=>∃(z:Str) (n:Int),x=.str z/\y=.int n/\z.length<=1000/\0<=n/\n<=1000/\Q (.str (Txt.mul z n)) H
theorem DA:OpR X (QJ .Mult) Fs:=by
 intro a s g H x y v u Q I e d h;obtain⟨z,n,rfl,rfl,f,h0,h1,q⟩:=h;obtain⟨t,rfl⟩:=e;obtain⟨b,rfl⟩:=d;refine SB.mul ⟨?_,λ_ _=>?_,λ_ _=>?_⟩ λb k=>⟨.str _,H,I.tok k,⟨_,rfl⟩,q⟩
 .simp;ext
 .have:(1000:Int)<=(2^63 - 1)/n:=Int.le_ediv_of_mul_le (by ext) (by ext);ext
 .have:z.length*n.toNat<=1000*1000:=RZ f (by ext);unfold Pb.Str.tooLong;have i:=Xw;simp;ext
def rE:D->D->cj RV
 |.str z,.int n=>if z.length<=1000/\0<=n/\n<=1000 then cL (.fz (.str (Txt.mul z n)))else CL
 |_,_=>CL
theorem yx:iA K Fs rE:=by
 intro O H x y dx f rv Q n d b e q;unfold rE at e;split at e
 .split at e
  .rename_i a;cases e;cases d;cases b;exact⟨_,_,rfl,rfl,a.1,a.2.1,a.2.2,q.at (.str _)⟩
  .cases e
 .cases e
end
end L9
namespace L9
open PySem PySem.W PyProof.Rows Builtin Builtin.ObjectAttr
open PySem.Spec L2
open L3 L4
def zD(C:OL)(f g:Str):Sp:=λvs H Q _=>∃e v u,vs=[.ref e,v,u]/\M8 v/\M8 u/\H e=cL (.ext (Nz C e))/\∀p,H p=CL->p≠e->Q .Se (upd (upd H e (.ext (No C e p))) p (.xd [(g,u),(f,v)]))
def xB:D->cj RV
 |.tuple ds=>cL (.fz (.tuple ds.reverse))
 |_=>CL
theorem vn{K:Bn}{O:aN}{H:Hp}:∀{vs:cc V} {ds:cc D},QC O K H vs ds->QC O K H vs.reverse ds.reverse
 |_,_,.nil=>.nil
 |_,_,.cons h t=>by rw[SJ,SJ];exact(vn t).append (.cons h .nil)
theorem GI{K:Bn}{E:XK}{ta:TE}{fa:FE}(ha:EO K E ta fa):EO K E (LY K ta (A5 (Nw (rU λi=>.int (-i)) (tC (.int 1))))) (Ih xB fa):=by
 intro B p O h H ρ Q R w;refine ha B p O h H ρ _ R (w.bind.imp λa e q x r e1 g l=>?_);obtain⟨d,j,e⟩:=e.Qf;obtain⟨rv,f,e⟩:=e.Qf;have dx:=jf g l j;unfold xB at f;split at f
 .cases f;obtain⟨b,vs,rfl,k1,k2⟩:=uq dx;refine⟨1,rfl,-1,rfl,rfl,b,vs,rfl,k1.1,?_⟩;exact Fin.Wa (vn k2) g.od (iV (rv:=.fz (.tuple _)) g λn v o e4 m k=>e n v o (e1.trans e4) m k)
 .cases f
end L9
namespace LD
open PySem PyProof.Rows L2 L3
mutual
def kd:OD->Bool
 |.none=>OG
 |.int _=>OG
 |.str x=>OD.strOk x
 |.tuple xs=>kds xs
 |_=>OP
def kds:cc OD->Bool
 |[]=>OG
 |x::r=>kd x&&kds r
end
def keyD:OD->Bool
 |.tuple xs=>kds xs&&decide ((OD.tuple xs).depth<=8)
 |_=>OP
mutual
theorem pS:∀d:OD,kd d=OG->d.canLay0=OG
 |.none,_=>rfl
 |.int _,_=>rfl
 |.str x,h=>by unfold OD.canLay0;unfold kd at h;exact h
 |.tuple xs,h=>by unfold OD.canLay0;unfold kd at h;exact vc xs h
 |.bool _,h|.list _,h|.dict _,h=>by simp[kd]at h
theorem vc:∀xs:cc OD,kds xs=OG->OD.canLayAll0 xs=OG
 |[],_=>rfl
 |x::r,h=>by unfold kds at h;rw[Ld]at h;unfold OD.canLayAll0;rw[pS x h.1,vc r h.2];rfl
end
mutual
theorem Az:∀d e:OD,kd d=OG->kd e=OG->OD.eqv d e=OG->d=e
 |.none,e,_,h,q=>by cases e<;>simp_all [kd,OD.eqv]
 |.int i,e,_,h,q=>by cases e<;>simp_all [kd,OD.eqv]
 |.str x,e,_,h,q=>by cases e<;>simp_all [kd,OD.eqv]
 |.tuple xs,e,g,h,q=>by
  cases e with
  |tuple ys=>rw[OD.eqv]at q;unfold kd at g h;rw[wv xs ys g h q]
  |_=>simp_all [kd,OD.eqv]
 |.bool _,_,h,_,_|.list _,_,h,_,_|.dict _,_,h,_,_=>by simp[kd]at h
theorem wv:∀xs ys:cc OD,kds xs=OG->kds ys=OG->OD.eqvAll xs ys=OG->xs=ys
 |[],[],_,_,_=>rfl
 |[],_::_,_,_,q=>by simp[OD.eqvAll]at q
 |_::_,[],_,_,q=>by simp[OD.eqvAll]at q
 |x::xs,y::ys,g,h,q=>by unfold kds at g h;rw[OD.eqvAll]at q;rw[Ld]at g h q;rw[Az x y g.1 h.1 q.1,wv xs ys g.2 h.2 q.2]
end
theorem yq[Decidable (d=e)](hd:kd d=OG)(a:kd e=OG):OD.eqv d e=decide (d=e):=by
 by_cases q:d=e
 .subst q;rw[a6 rfl];exact SeqAt.eqv_refl d (pS d hd)
 .rw[a7 q]
  cases z:OD.eqv d e with
  |false=>rfl
  |true=>exact cb (Az d e hd a z) q
theorem cE(h:keyD d=OG):kd d=OG/\d.depth<=8:=by
 cases d with
 |tuple xs=>unfold keyD at h;rw[Ld]at h;exact⟨by unfold kd;exact h.1,b9 h.2⟩
 |_=>simp[keyD]at h
mutual
def j5(w:Pz):OD->Int
 |.none=>reduceHash 0xFCA86420
 |.int i=>hashInt i
 |.str x=>hashStr w x
 |.tuple xs=>reduceHash (Pb.Tuple.tupleHashOf (kP w xs))
 |_=>0
def kP(w:Pz):cc OD->cc Int
 |[]=>[]
 |x::r=>j5 w x::kP w r
end
mutual
def Ma:OD->Nat
 |.tuple xs=>DB xs+1
 |_=>1
def DB:cc OD->Nat
 |[]=>0
 |x::r=>Ma x+DB r
end
section
variable{prog:Pa}{w:Pz}{E:OC->OK->Prop}
mutual
theorem uP:∀(d:OD) (v:OC) (as:cc OL) (A:Pp) (s:OK) (Q:Int->OK->Prop),kd d=OG->QV s.heap v d as->A.units+d.depth<cLine->Q (j5 w d) {s with toks:=s.toks+Ma d}->wpAny (model prog w) A (pyHash v) Q E s
 |.none,_,_,A,s,Q,_,r,hu,h=>by cases r;exact Vn (T:= "NoneType") rfl F.slot_NoneType_hash F.entry_NoneType_hash (F.args_NoneType_hash_1 _) (Zm _) (.inr (by ext)) (lD (OE (lD (wpAny_mkInt (OE ⟨_,_,rfl,h⟩)))))
 |.int i,_,_,A,s,Q,_,r,_,h=>by cases r;exact Ze h
 |.str x,_,_,A,s,Q,_,r,_,h=>by cases r;exact Zf h
 |.tuple xs,_,_,A,s,Q,hk,r,hu,h=>by
  cases r with
  | @tuple a o vs n _ _ h1 h2 h3 h4=>
   refine Vn (T:= "tuple") ⟨_,h1,h2⟩ F.slot_tuple_hash F.entry_tuple_hash (F.args_tuple_hash_1 _) (Zm _) (.inr (by ext)) ?_;show wpAny _ _ (Pb.Tuple.tupleItemsOf (.ref a)>>=_) _ _ s;refine lD (R0 h1 h3 ?_);refine lD ?_;rw[<-VW];unfold kd at hk;refine mW xs vs.toList _ A.in1 s #[] _ hk h4 (by simp only[OD.depth,Pp.in1_units]at hu⊢;ext) λb e=>?_;show wpAny _ _ (retInt (Pb.Tuple.tupleHashOf b.toList)) _ _ _;rw[e];refine lD (wpAny_mkInt (OE ⟨_,_,rfl,?_⟩));unfold j5 Ma at h
   simpa [YR]using h
 |.bool _,_,_,_,_,_,h,_,_,_|.list _,_,_,_,_,_,h,_,_,_|.dict _,_,_,_,_,_,h,_,_,_=>by simp[kd]at h
theorem mW:∀(xs:cc OD) (vs:cc OC) (as:cc OL) (A:Pp) (s:OK) (b:Array Int) (Q:Array Int->OK->Prop),kds xs=OG->QW s.heap vs xs as->A.units+OD.depthAll xs<cLine->
  (∀b':Array Int,b'.toList=b.toList++kP w xs->Q b' {s with toks:=s.toks+DB xs})->
  wpAny (model prog w) A (forIn vs b λx r=>do let h<-pyHash x;pure PUnit.unit;pure (ForInStep.yield (r.push h))) Q E s
 |[],_,_,A,s,b,Q,_,x,_,h=>by cases x;exact OE (h b (by simp[kP]))
 |k::xs,_,_,A,s,b,Q,hk,x,hu,h=>by
  cases x with
  |cons d a=>
   unfold kds at hk;simp only[Ld,OD.depthAll]at hk hu;rw[Uu];refine lD (lD (uP k _ _ A s _ hk.1 d (by ext) ?_));refine lD (OE (OE ?_));refine mW xs _ _ A _ _ Q hk.2 a (by ext) λb' e=>?_;have:=h b' (by simp[e,kP]);unfold DB at this
   simpa [YR]using this
end
theorem rQ:∀(n:Nat) (d:OD) (v:OC) (as:cc OL) (A:Pp) (s:OK) (Q:Bool->OK->Prop),kd d=OG->QV s.heap v d as->d.depth<=n->Q OG s->wpAny (model prog w) A (eqIsQuiet n v) Q E s
 |n,.none,_,_,A,s,Q,_,r,_,h=>by cases r;rw[UA _ rfl];exact OE h
 |n,.int i,_,_,A,s,Q,_,r,_,h=>by cases r;rw[UA _ rfl];exact OE h
 |n,.str i,_,_,A,s,Q,_,r,_,h=>by cases r;rw[UA _ rfl];exact OE h
 |0,.tuple xs,_,_,A,s,Q,hk,r,hn,h=>by simp only[OD.depth]at hn;ext
 |n+1,.tuple xs,_,_,A,s,Q,hk,r,hn,h=>by
  cases r with
  | @tuple a o vs m _ _ h1 h2 h3 h4=>
   have g:s.TypeIs (.ref a) "tuple":=⟨_,h1,h2⟩;simp only[OD.depth]at hn;unfold eqIsQuiet;refine lD (aak g F.slot_tuple_eq.lookup ?_);refine lD (Rb g TN ?_);simp only[Qu,OS,if_false];refine lD (T3 h1 h3 ?_);refine lD ?_;rw[<-VW];unfold kd at hk;refine UR _ (λb r e=>r.1=CL/\e=s/\∃ys bs,kds ys=OG/\QW s.heap b ys bs/\OD.depthAll ys<=n) _ ?_ ?_ _ _ ⟨rfl,rfl,xs,_,hk,h4,by ext⟩
   .rintro v b r e ⟨f,rfl,ys,bs,k1,k2,k3⟩
    cases k2 with
    | @cons _ _ y V1 _ _ g1 g2=>unfold kds at k1;simp only[Ld,OD.depthAll]at k1 k3;refine lD (rQ n y v _ A e _ k1.1 g1 (by ext) ?_);simp only[Qu,OS,if_false];exact OE ⟨rfl,rfl,V1,_,k1.2,g2,by ext⟩
   .rintro⟨k,j⟩ e ⟨f,rfl,_⟩;simp only at f;subst f;exact OE h
 |_,.bool _,_,_,_,_,_,h,_,_,_|_,.list _,_,_,_,_,_,h,_,_,_|_,.dict _,_,_,_,_,_,h,_,_,_=>by simp[kd]at h
end
mutual
theorem mE{h h':Heap}{x:OL}{b:Obj}{es:Array QB}{i:Nat}(e:h.get? x=cL b)(g:b.data=.dict es i)(f:Heap.SameBut x h h'):∀(d:OD) (v:OC) (as:cc OL),kd d=OG->QV h v d as->QV h' v d as
 |.none,_,_,_,r=>by cases r;exact .none
 |.int _,_,_,_,r=>by cases r;exact .int _ _
 |.str _,_,_,_,r=>by cases r;exact .str _ _
 |.tuple xs,_,_,k,r=>by
  cases r with
  | @tuple a o vs n _ _ h1 h2 h3 h4=>
   have j:a≠x:=by rintro rfl;rw[e]at h1;cases h1;rw[g]at h3;exact nomatch h3
   unfold kd at k;exact .tuple ((f.2 a j).trans h1) h2 h3 (lS e g f xs _ _ k h4)
 |.bool _,_,_,h,_|.list _,_,_,h,_|.dict _,_,_,h,_=>by simp[kd]at h
theorem lS{h h':Heap}{x:OL}{a:Obj}{es:Array QB}{j:Nat}(b:h.get? x=cL a)(f:a.data=.dict es j)(e:Heap.SameBut x h h'):∀(ds:cc OD) (vs:cc OC) (as:cc OL),kds ds=OG->QW h vs ds as->QW h' vs ds as
 |[],_,_,_,r=>by cases r;exact .nil
 |d::ds,_,_,k,r=>by
  cases r with
  |cons i g=>unfold kds at k;rw[Ld]at k;exact .cons (mE b f e d _ _ k.1 i) (lS b f e ds _ _ k.2 g)
end
abbrev KD:={d:OD//keyD d=OG}
noncomputable instance kdDec:DecidableEq KD:=λ_ _=>Classical.propDecidable _
def a8(prog:Pa)(w:Pz):HeapKind prog w KD where
 is:=λh k a=>∃as,QV h (.ref a) k.1 as
 hash:=λk=>j5 w k.1
 draws:=λk=>Ma k.1
 room:=λA=>A.units+8<cLine
 inj:=λ⟨_,r⟩ ⟨_,f⟩=>Subtype.ext (QV.unique r _ _ f).1
 keeps:=λ{h h' k a d o es ep} ⟨as,r⟩ ho hd hs=>⟨as,mE ho hd hs k.1 _ _ (cE k.2).1 r⟩
 pyHash:=λ{A E s k a Q} hu ⟨as,r⟩ q=>uP k.1 _ as A s Q (cE k.2).1 r (by have:=(cE k.2).2;ext) q
 eqBool:=λ{A E s x y a b Q} hu ⟨as,r⟩ ⟨bs,f⟩ q=>SeqAt.eqAt_reads x.1 y.1 A s _ _ as bs r f (pS _ (cE x.2).1) (pS _ (cE y.2).1) (by have:=(cE x.2).2;ext) prog w E Q (by
  haveI:Decidable (x.1=y.1):=Classical.propDecidable _
  rw[yq (cE x.2).1 (cE y.2).1];by_cases e:x=y
  .rw[a6 e]at q;rw[a6 (ey Subtype.val e)];exact q
  .rw[a7 e]at q;rw[a7 λz=>e (Subtype.ext z)];exact q)
 quiet:=λ{A E s k a Q} ⟨as,r⟩ q=>rQ 8 k.1 _ as A s Q (cE k.2).1 r (cE k.2).2 q
def NO(a:OL)(xs:cc (KD×OL×V))(w:Pz)(h:Heap):Prop:=
 (xs.length<=Pd/\(a==Q6)=OP/\(xs.map (·.1)).Nodup)/\∃o es ep,h.get? a=cL o/\o.ExactDict/\o.data=.dict es ep/\Paired (λ(x:KD×OL×V) (e:QB)=>e.hash=j5 w x.1.1/\e.key=.ref x.2.1/\RelV x.2.2 e.val) xs es.toList
abbrev DkO(a:OL)(xs:cc (KD×OL×V)):HO:=.Y0 (NO a xs)
abbrev PrD(O:aN)(K:Bn)(H:Hp):cc (KD×OL×V)->cc (D×D)->Prop:=
 Paired λx a=>x.1.1=a.1/\L3.DV O K H (.ref x.2.1) a.1/\L3.DV O K H x.2.2 a.2
end LD
namespace L10
open PySem L2 L3
inductive AV where
 |fz (d:D)
 |rf (i:Nat)
inductive SV where
 |fz (d:D)
 |rf (i:Nat)
 |tp (l:cc AV)
def AV.sv:AV->SV
 |.fz d=>.fz d
 |.rf i=>.rf i
inductive Cell where
 |lst (xs:cc SV)
 |XH (PL:cc (jA×SV))
 |obj (C:Str) (fs:cc (Str×SV))
 |dd (PL:cc (D×D))
 |dead
abbrev aG:=cc Cell
abbrev aE:=cc (cj SV)
inductive RS(α:Type) where
 |ok (a:α) (ω:aG)
 |er (x:Xc) (ω:aG)
 |bad
def RS.bind(r:RS α)(f:α->aG->RS β):RS β:=match r with
 |.ok a ω=>f a ω
 |.er x ω=>.er x ω
 |.bad=>.bad
def RS.Qf(ω:aG):cj α->RS α
 |some a=>.ok a ω
 |none=>.bad
theorem RS.bind_ok(a:α)(ω:aG)(f:α->aG->RS β):(RS.ok a ω).bind f=f a ω:=rfl
abbrev eN:=@RS.bind_ok
def Lv(α:cc OL)(ω:aG):aN:=λb=>∃(i:Nat) (c:Cell),α[i]?=cL b/\ω[i]?=cL c/\c≠Cell.dead
def ow(B:aN)(α:cc OL)(ω:aG):aN:=λb=>B b\/Lv α ω b
section
variable(O:aN)(K:Bn)(H:Hp)(Z:cc OL)
def W4(v:V):AV->Prop
 |.fz d=>DV O K H v d
 |.rf i=>∃a,Z[i]?=cL a/\v=.ref a
def Sl(v:V):SV->Prop
 |.fz d=>DV O K H v d
 |.rf i=>∃a,Z[i]?=cL a/\v=.ref a
 |.tp l=>∃a xs,v=.ref a/\TU O K H a xs/\Paired (W4 O K H Z) xs l
abbrev Rv:cc V->cc SV->Prop:=Paired (Sl O K H Z)
def WH(a:OL):Cell->Prop
 |.lst xs=>∃vs,H a=cL (.lst vs)/\Rv O K H Z vs xs
 |.XH PL=>∃ws:cc (jA×V),H a=cL (.dK ws)/\Paired (λ(p:jA×V) (q:jA×SV)=>p.1=q.1/\Sl O K H Z p.2 q.2) ws PL
 |.obj C fs=>∃Ca dx ws,Qr K PK C=cL (cL (.ref Ca))/\H a=cL (.ins Ca dx ws)/\Paired (λ(p:Str×V) (q:Str×SV)=>p.1=q.1/\Sl O K H Z p.2 q.2) ws fs
 |.dd PL=>∃xs,H a=cL (LD.DkO a xs)/\LD.PrD O K H xs PL
 |.dead=>True
def Ru(a:L2.St)(ρ:aE):Prop:=a.length=ρ.length/\∀(i:Nat) (x:SV),ρ[i]?=cL (cL x)->∃v,a[i]?=cL (cL v)/\Sl O K H Z v x
end
structure StoOk(B:aN)(K:Bn)(H:Hp)(α:cc OL)(ω:aG):Prop where
 len:α.length=ω.length
 nd:∀(i j:Nat) (a:OL),α[i]?=cL a->α[j]?=cL a->i=j
 bn:∀a,B a->H a≠CL
 ba:∀a,B a->∀i:Nat,α[i]?≠cL a
 al:∀(i:Nat) (a:OL),α[i]?=cL a->H a≠CL
 UO:∀(i:Nat) (a:OL) (c:Cell),α[i]?=cL a->ω[i]?=cL c->WH (ow B α ω) K H α a c
structure QN(α:cc OL)(ω:aG)(H:Hp)(α':cc OL)(ω':aG)(H':Hp):Prop where
 pre:∀(i:Nat) (a:OL),α[i]?=cL a->α'[i]?=cL a
 kp:∀b o,H b=cL o->¬Lv α ω b->H' b=cL o
 lv:∀b,Lv α' ω' b->Lv α ω b\/H b=CL
section
variable{B O N:aN}{K:Bn}{E:XK}{H H' S M:Hp}{Z Y U T:cc OL}{ω X ω1 Q:aG}{σ:L2.St}{ρ:aE}{v:V}
theorem QN.refl:QN Z ω H Z ω H:=⟨λ_ _ h=>h,λ_ _ h _=>h,λ_ h=>.inl h⟩
theorem QN.trans(a:QN Z ω H U ω1 S)(b:QN U ω1 S T Q M):QN Z ω H T Q M:=by
 have d:∀b o,H b=cL o->¬Lv Z ω b->¬Lv U ω1 b:=λb o h n z=>(a.lv b z).elim n λq=>by simp_all
 refine⟨λi p h=>b.pre i p (a.pre i p h),λp o h n=>b.kp p o (a.kp p o h n) (d p o h n),λp h=>?_⟩;rcases b.lv p h with h|h
 .exact a.lv p h
 .cases q:H p with
  |none=>simp_all
  |some o=>refine .inl (Classical.byContradiction λn=>?_);rw[a.kp p o q n]at h;cases h
theorem QN.same(s:QL H H'):QN Z ω H Z ω H':=⟨λ_ _ h=>h,λb o h _=>s b o h,λ_ h=>.inl h⟩
theorem QN.ev(e:QN Z ω H Y X H'):Ev (ow B Z ω) H (ow B Y X) H':=λb o h n=>
 ⟨e.kp b o h λz=>n (.inr z),λz=>z.elim (λq=>n (.inl q)) λq=>(e.lv b q).elim (λq=>n (.inr q)) λq=>by simp_all⟩
theorem W4.ev(e:Ev O H N H')(p:∀(i:Nat) (a:OL),Z[i]?=cL a->Y[i]?=cL a)(h:W4 O K H Z v x):W4 N K H' Y v x:=by
 cases x with
 |fz d=>exact DV.ev e h
 |rf i=>obtain⟨a,h1,b⟩:=h;exact⟨a,p i a h1,b⟩
theorem Sl.ev(e:Ev O H N H')(p:∀(i:Nat) (a:OL),Z[i]?=cL a->Y[i]?=cL a)(h:Sl O K H Z v x):Sl N K H' Y v x:=by
 cases x with
 |fz d=>exact DV.ev e h
 |rf i=>obtain⟨a,h1,b⟩:=h;exact⟨a,p i a h1,b⟩
 |tp l=>obtain⟨a,xs,h1,b,f⟩:=h;exact⟨a,xs,h1,b.ev e,Paired.SE f λ_ _ q=>q.ev e p⟩
theorem Sl.R9(e:QN Z ω H Y X H')(h:Sl (ow B Z ω) K H Z v x):Sl (ow B Y X) K H' Y v x:=h.ev e.ev e.pre
theorem Rv.R9(e:QN Z ω H Y X H')(h:Rv (ow B Z ω) K H Z vs xs):Rv (ow B Y X) K H' Y vs xs:=Paired.SE h λ_ _ q=>q.R9 e
theorem Ru.R9(e:QN Z ω H Y X H')(h:Ru (ow B Z ω) K H Z σ ρ):Ru (ow B Y X) K H' Y σ ρ:=⟨h.1,λi x q=>let⟨v,h1,h2⟩:=h.2 i x q;⟨v,h1,h2.R9 e⟩⟩
theorem WH.ev(e:Ev O H N H')(p:∀(i:Nat) (a:OL),Z[i]?=cL a->Y[i]?=cL a)(ha:∀o,H a=cL o->H' a=cL o)(h:WH O K H Z a c):WH N K H' Y a c:=by
 cases c with
 |lst xs=>obtain⟨vs,h1,b⟩:=h;exact⟨vs,ha _ h1,Paired.SE b λ_ _ q=>q.ev e p⟩
 |XH PL=>obtain⟨d,h1,b⟩:=h;exact⟨d,ha _ h1,Paired.SE b λ_ _ q=>⟨q.1,q.2.ev e p⟩⟩
 |obj C fs=>obtain⟨f,dx,d,h0,h1,b⟩:=h;exact⟨f,dx,d,h0,ha _ h1,Paired.SE b λ_ _ q=>⟨q.1,q.2.ev e p⟩⟩
 |dd PL=>obtain⟨xs,h1,b⟩:=h;exact⟨xs,ha _ h1,Paired.SE b λ_ _ q=>⟨q.1,q.2.1.ev e,q.2.2.ev e⟩⟩
 |dead=>trivial
theorem StoOk.Vt(s:StoOk B K H Z ω):jy (ow B Z ω) H:=λa h z=>z.elim (λq=>s.bn a q h) λ⟨i,c,q,_⟩=>s.al i a q h
theorem StoOk.owd(s:StoOk B K H Z ω):∀a,ow B Z ω a->H a≠CL:=λa z h=>s.Vt a h z
theorem StoOk.grow(s:StoOk B K H Z ω)(e:QL H H'):StoOk B K H' Z ω:=by have n:∀a,H a≠CL->H' a≠CL:=λa h z=>h (e.free z);exact⟨s.len,s.nd,λa h=>n a (s.bn a h),s.ba,λi a h=>n a (s.al i a h),λi a c h1 b=>(s.UO i a c h1 b).ev (Ev.grow e) (λ_ _ h=>h) λo h=>e _ _ h⟩
theorem StoOk.at(s:StoOk B K H Z ω){i:Nat}(h:ω[i]?=cL c):∃a,Z[i]?=cL a:=by have:i<ω.length:=(OI.mp h).1;rw[<-s.len]at this;simp_all
theorem StoOk.XT(s:StoOk B K H Z ω){i:Nat}(h:Z[i]?=cL a):¬B a:=λz=>s.ba a z i h
theorem ua{i:Nat}{c g:Cell}(h:ω[i]?=cL c)(k:c≠.dead)(l:g≠.dead){b:OL}:Lv Z (ω.set i g) b↔Lv Z ω b:=by
 constructor
 .rintro⟨j,d,h1,a,f⟩
  rcases aP a with⟨rfl,rfl⟩|⟨_,a⟩
  .exact⟨j,c,h1,h,k⟩
  .exact⟨j,d,h1,a,f⟩
 .rintro⟨j,d,h1,a,f⟩
  by_cases e:j=i
  .subst e;exact⟨j,g,h1,by rw[Q9 (OI.mp h).1],l⟩
  .exact⟨j,d,h1,by rw[Rx (λz=>e z.symm)];exact a,f⟩
theorem JB(h:ω[i]?=cL c)(a:c≠.dead)(d:c'≠.dead):ow B Z (ω.set i c')=ow B Z ω:=by funext b;exact propext ⟨λz=>z.imp id (ua h a d).mp,λz=>z.imp id (ua h a d).mpr⟩
theorem QN.put(ha:Z[i]?=cL a)(h:ω[i]?=cL c)(d:c≠.dead)(f:c'≠.dead):QN Z ω H Z (ω.set i c') (upd H a o):=
 ⟨λ_ _ h=>h,λb g q n=>by have z:b≠a:=λe=>n ⟨i,c,by simp_all,h,d⟩;rw[au z];exact q,λb z=>.inl ((ua h d f).mp z)⟩
theorem StoOk.put(s:StoOk B K H Z ω)(ha:Z[i]?=cL a)(h:ω[i]?=cL c)(g:c≠.dead)(k:c'≠.dead)(new:WH (ow B Z ω) K (upd H a o) Z a c'):StoOk B K (upd H a o) Z (ω.set i c'):=by
 have e:QN Z ω H Z (ω.set i c') (upd H a o):=QN.put ha h g k;have n:∀b,H b≠CL->upd H a o b≠CL:=λb h=>by
  by_cases z:b=a
  .subst z;rw[ay];simp
  .rw[au z];exact h
 refine⟨by rw[Qq];exact s.len,s.nd,λb h=>n b (s.bn b h),s.ba,λj b h=>n b (s.al j b h),λj b d h1 f=>?_⟩;rcases aP f with⟨rfl,rfl⟩|⟨l,f⟩
 .rw[ha]at h1;cases h1;rw[JB h g k];exact new
 .exact(s.UO j b d h1 f).ev e.ev e.pre λu q=>by rw[au (λz=>l (s.nd j i a (by simp_all) ha))];exact q
theorem tV{i:Nat}{a:OL}{c:Cell}{o:HO}(ha:Z[i]?=cL a)(h:ω[i]?=cL c)(b:c≠.dead):Ev (ow B Z ω) H (ow B Z ω) (upd H a o):=Ev.mut (.inr ⟨i,c,ha,h,b⟩) o
theorem a9{Z:Type}{l:cc Z}{x y:Z}{i:Nat}(h:(l++[x])[i]?=cL y):l[i]?=cL y\/(i=l.length/\y=x):=by
 by_cases hi:i<l.length
 .rw[Pc hi]at h;exact .inl h
 .rw[Pn (by ext)]at h
  cases q:i - l.length with
  |zero=>rw[q]at h;cases h;exact .inr ⟨by ext,rfl⟩
  |succ n=>rw[q]at h;cases h
theorem gX{Z:Type}{l:cc Z}{x y:Z}{i:Nat}(h:l[i]?=cL y):(l++[x])[i]?=cL y:=by rw[Pc (OI.mp h).1];exact h
theorem aH:(l++[x])[l.length]?=cL x:=by simp
theorem o3(f:Z.length=ω.length)(h:Lv (Z++[p]) (ω++[c]) b):Lv Z ω b\/b=p:=by
 obtain⟨i,d,h1,a,e⟩:=h;rcases a9 h1 with h1|⟨e1,e2⟩
 .rcases a9 a with a|⟨e1,e2⟩
  .exact .inl ⟨i,d,h1,a,e⟩
  simp_all
 .exact .inr e2
theorem QN.UJ(d:Z.length=ω.length)(s:QL H H')(f:H p=CL):QN Z ω H (Z++[p]) (ω++[c]) H':=
 ⟨λi a h=>gX h,λb u q _=>s b u q,λb z=>(o3 d z).imp id λe=>by simp_all⟩
theorem StoOk.UJ(s:StoOk B K H Z ω)(e:QL H H')(g:H p=CL)(k:H' p≠CL)(new:WH (ow B (Z++[p]) (ω++[c])) K H' (Z++[p]) p c):StoOk B K H' (Z++[p]) (ω++[c]):=by
 have ev:QN Z ω H (Z++[p]) (ω++[c]) H':=QN.UJ s.len e g;have n:∀b,H b≠CL->H' b≠CL:=λb h z=>h (e.free z);refine⟨by rw[OO,OO,s.len];rfl,λi j a h1 f=>?_,λa h=>n a (s.bn a h),λa h i q=>?_,λi a h=>?_,λi a d h1 f=>?_⟩
 .rcases a9 h1 with g1|⟨e1,e2⟩<;>rcases a9 f with g2|⟨e3,e4⟩
  .exact s.nd i j a g1 g2
  .exact cb (by rw[e4];exact g) (s.al i a g1)
  .exact cb (by rw[e2];exact g) (s.al j a g2)
  .omega
 .rcases a9 q with q|⟨_,e2⟩
  .exact s.ba a h i q
  .subst e2;exact s.bn a h g
 .rcases a9 h with h|⟨_,e2⟩
  .exact n a (s.al i a h)
  simp_all
 .rcases a9 f with f|⟨e1,e2⟩
  .rcases a9 h1 with h1|⟨e1,_⟩
   .exact(s.UO i a d h1 f).ev ev.ev ev.pre λo q=>e _ _ q
   .have:=(OI.mp f).1;have:=s.len;ext
  .rcases a9 h1 with h1|⟨_,e3⟩
   .have:=(OI.mp h1).1;have:=s.len;ext
   simp_all
def WS(K:Bn)(E:XK)(B:aN)(H:Hp)(Z:cc OL)(ω:aG)(P:A->cc OL->aG->Hp->Prop):RS A->Prop
 |.ok a X=>∀Y H',QN Z ω H Y X H'->StoOk B K H' Y X->P a Y X H'
 |.er x X=>∀c dx Y H',QN Z ω H Y X H'->StoOk B K H' Y X->XN K (ow B Y X) H' c dx x->E c dx H'
 |.bad=>False
theorem WS.from(e:QN Z ω H U ω1 S)(h:WS K E B H Z ω P r):WS K E B S U ω1 P r:=by
 cases r with
 |ok a Q=>exact λT M e2 b=>h T M (e.trans e2) b
 |er x Q=>exact λc dx T M e2 b=>h c dx T M (e.trans e2) b
 |bad=>exact h
theorem WS.bind(h:WS K E B H Z ω P (r.bind k)):WS K E B H Z ω (λa U ω1 S=>WS K E B S U ω1 P (k a ω1)) r:=by
 cases r with
 |ok a ω1=>exact λU S e1 _=>WS.from e1 h
 |er x ω1=>exact h
 |bad=>exact h
theorem WS.Qf(h:WS K E B H Z ω P ((RS.Qf ω o).bind k)):∃a,o=cL a/\WS K E B H Z ω P (k a ω):=by
 cases o with
 |none=>exact h.elim
 |some a=>exact⟨a,rfl,h⟩
theorem WS.imp(h:WS K E B H Z ω P r)(g:∀a Y X H',QN Z ω H Y X H'->StoOk B K H' Y X->P a Y X H'->P' a Y X H'):WS K E B H Z ω P' r:=by
 cases r with
 |ok a ω1=>exact λU S e1 b=>g a U ω1 S e1 b (h U S e1 b)
 |er x ω1=>exact h
 |bad=>exact h
theorem WS.now(s:StoOk B K H Z ω)(h:WS K E B H Z ω P (.ok a ω)):P a Z ω H:=h Z H .refl s
end
abbrev cI:=aE->aG->RS SV
abbrev lY:=aE->aG->RS Bool
abbrev x4:=aE->aG->RS (cc SV)
def c7(K:Bn)(E:XK)(t:TE)(f:cI):Prop:=
 ∀(B:aN) (d:L2.St) (H:Hp) (α:cc OL) (ω:aG) (ρ:aE) (Q:VK),StoOk B K H α ω->Ru (ow B α ω) K H α d ρ->WS K E B H α ω (λx a b e=>∀v,Sl (ow B a b) K e a v x->Q v e) (f ρ ω)->t d H Q
def sw(K:Bn)(E:XK)(t:TT)(f:lY):Prop:=
 ∀(B:aN) (a:L2.St) (H:Hp) (α:cc OL) (ω:aG) (ρ:aE) (Q:Bool->Hp->Prop),StoOk B K H α ω->Ru (ow B α ω) K H α a ρ->WS K E B H α ω (λb _ _ d=>Q b d) (f ρ ω)->t a H Q
def FB(K:Bn)(E:XK)(t:TA)(f:x4):Prop:=
 ∀(B:aN) (d:L2.St) (H:Hp) (α:cc OL) (ω:aG) (ρ:aE) (Q:cc V->Hp->Prop),StoOk B K H α ω->Ru (ow B α ω) K H α d ρ->WS K E B H α ω (λxs a b e=>∀vs,Rv (ow B a b) K e a vs xs->Q vs e) (f ρ ω)->t d H Q
section
variable{B O N:aN}{K:Bn}{E:XK}{H H' T H2:Hp}{Z P Y L:cc OL}{ω M ω1 U:aG}{X:L2.St}{ρ:aE}{v:V}
def Gf:cj SV->cj PV
 |some (.fz d)=>cL (.fz d)
 |_=>CL
def dI(ρ:aE):aB:=ρ.map Gf
theorem mH{i:Nat}(h:(dI ρ)[i]?=cL (cL x)):∃d,x=.fz d/\ρ[i]?=cL (cL (.fz d)):=by
 unfold dI at h;rw[OT]at h;cases q:ρ[i]? with
 |none=>simp_all
 |some o=>
  rw[q]at h;have a:=Pr h;unfold Gf at a;split at a
  .cases a;exact⟨_,rfl,rfl⟩
  .cases a
theorem y8(s:StoOk B K H Z ω)(a:Ru (ow B Z ω) K H Z X ρ):Rl K (ow B Z ω) H (ow B Z ω) X H (dI ρ):=by
 refine⟨QL.refl _,λ_ h=>h,s.owd,s.Vt,by unfold dI;rw[OH];exact a.1,λi x h=>?_,λi j ds es w h=>?_⟩
 .obtain⟨d,rfl,b⟩:=mH h;obtain⟨v,h1,f⟩:=a.2 i _ b;exact⟨v,h1,f⟩
 .obtain⟨d,e,_⟩:=mH h;cases e
def fS(ω:aG):RV->RS SV
 |.fz d=>.ok (.fz d) ω
 |.ow ds=>.ok (.rf ω.length) (ω++[.lst (ds.map .fz)])
abbrev PQ(B:aN)(K:Bn)(Q:VK):SV->cc OL->aG->Hp->Prop:=λx P M H'=>∀v,Sl (ow B P M) K H' P v x->Q v H'
theorem jH(O:aN)(Z:cc OL):∀{vs:cc V} {ds:cc D},QC O K H vs ds->Rv O K H Z vs (ds.map .fz)
 |_,_,.nil=>.nil
 |_,_,.cons h t=>.cons h (jH O Z t)
theorem nH:∀{vs:cc V} {ds:cc D},Rv O K H Z vs (ds.map .fz)->QC O K H vs ds
 |_,[],.nil=>.nil
 |_,_::_,.cons h t=>.cons h (nH t)
theorem kU(s:StoOk B K H Z ω)(w:WS K E B H Z ω (PQ B K Q) (fS ω (.ow ds)))(e:QL H H')(a:H p=CL)(h:H' p=cL (.lst vs))(hd:QC N K H' vs ds)(d:∀b,ow B Z ω b->N b)(f:N p):Q (.ref p) H':=by
 have sub:∀b,ow B (Z++[p]) (ω++[.lst (ds.map .fz)]) b->N b:=λb z=>z.elim (λq=>d b (.inl q)) λq=>(o3 s.len q).elim (λq=>d b (.inr q)) λq=>by simp_all
 exact w (Z++[p]) H' (QN.UJ s.len e a) (s.UJ e a (by rw[h];simp) ⟨vs,h,jH _ _ (hd.ev (Ev.sub sub))⟩) (.ref p) ⟨p,by rw[<-s.len];exact aH,rfl⟩
theorem A8(s:StoOk B K H Z ω)(w:WS K E B H Z ω (PQ B K Q) (fS ω rv)):Fin (ow B Z ω) K H Q rv:=by
 cases rv with
 |fz d=>exact λv H' e a=>w Z H' (QN.same e) (s.grow e) v a
 |ow ds=>exact λp vs H' e f h a=>kU s w e f h a (λb z=>.inl z) (.inr rfl)
def aD(f:FE):cI:=λρ ω=>match f (dI ρ)with
 |.ok (.fz d,_)=>.ok (.fz d) ω
 |.ok (.ow ds,_)=>fS ω (.ow ds)
 |.ok (.pl _,_)=>.bad
 |.er x=>.er x ω
 |.bad=>.bad
theorem yI(h:EO K E t f):c7 K E t (aD f):=by
 intro B X H Z ω ρ Q s g w;refine h (ow B Z ω) H (ow B Z ω) X H (dI ρ) Q (y8 s g) ?_;unfold aD at w;cases q:f (dI ρ)with
 |bad=>rw[q]at w;exact w.elim
 |er x=>rw[q]at w;exact λc dx H' e k=>w c dx Z H' (QN.same e) (s.grow e) k
 |ok r=>
  obtain⟨pv,b⟩:=r;rw[q]at w;intro N v H' e R p;cases pv with
  |fz d=>exact w Z H' (QN.same R.same) (s.grow R.same) v (DV.ev (Ev.sub R.bo) p)
  |ow ds=>obtain⟨a,vs,rfl,h1,m,l,j,n⟩:=p;exact kU s w R.same m l j R.bo h1
  |pl i=>exact w.elim
def mL(f:FT):lY:=λρ ω=>match f (dI ρ)with
 |.ok (b,_)=>.ok b ω
 |.er x=>.er x ω
 |.bad=>.bad
theorem yE(h:Vi K E t f):sw K E t (mL f):=by
 intro B X H Z ω ρ Q s d w;refine h (ow B Z ω) H (ow B Z ω) X H (dI ρ) Q (y8 s d) ?_;unfold mL at w;cases q:f (dI ρ)with
 |bad=>rw[q]at w;exact w.elim
 |er x=>rw[q]at w;exact λc dx H' e k=>w c dx Z H' (QN.same e) (s.grow e) k
 |ok r=>obtain⟨b,a⟩:=r;rw[q]at w;exact λN H' e R=>w Z H' (QN.same R.same) (s.grow R.same)
def bA(i:Nat):cI:=λρ ω=>match ρ[i]? with
 |some (cL x)=>.ok x ω
 |_=>.bad
theorem Dy:c7 K E (fY i) (bA i):=by
 intro B X H Z ω ρ Q s a w;unfold bA at w;cases q:ρ[i]? with
 |none=>rw[q]at w;exact w.elim
 |some o=>
  cases o with
  |none=>rw[q]at w;exact w.elim
  |some x=>rw[q]at w;obtain⟨v,h1,b⟩:=a.2 i x q;exact⟨v,h1,WS.now s w v b⟩
def KS(K:Bn)(C:Str)(fs:cc Str):Prop:=∃Ca,Qr K PK C=cL (cL (.ref Ca))/\Cls K Ca/\∀f∈fs,AA K Ca f
def aq{Z a:Type}(f:Z->cj a):cc Z->cj (cc a)
 |[]=>cL []
 |x::r=>match f x with
  |some y=>(match aq f r with
   |some ys=>cL (y::ys)
   |none=>CL)
  |none=>CL
def oJ:Nat->aG->SV->cj D
 |_,_,.fz d=>cL d
 |0,_,_=>CL
 |n+1,ω,.rf i=>match ω[i]? with
  |some (.lst xs)=>(aq (oJ n ω) xs).map .list
  |_=>CL
 |n+1,ω,.tp l=>(aq (λx=>oJ n ω x.sv) l).map .tuple
theorem cu{Z a:Type}{f:Z->cj a}{R:V->Z->Prop}{S:V->a->Prop}(h:∀v x y,R v x->f x=cL y->S v y):∀{vs:cc V} {xs:cc Z} {ys:cc a},Paired R vs xs->aq f xs=cL ys->Paired S vs ys
 |_,_,_,.nil,e=>by cases e;exact .nil
 |_,_,_,.cons (b:=x) (l₂:=xs) r t,e=>by
  unfold aq at e;cases q:f x with
  |none=>simp_all
  |some y=>
   rw[q]at e;dsimp only at e;cases q2:aq f xs with
   |none=>simp_all
   |some ys=>rw[q2]at e;cases e;exact .cons (h _ _ _ r q) (cu h t q2)
theorem jP:∀{vs:cc V} {ds:cc D},Paired (DV O K H) vs ds->QC O K H vs ds:=by
 intro _ _ p
 induction p with
 |nil=>exact .nil
 |cons h t a=>exact .cons h a
theorem FV:Ev O H Vt H:=Ev.sub λ_ z=>z.elim
theorem g9(s:StoOk B K H Z ω):∀(n:Nat) {v:V} {x:SV} {d:D},Sl (ow B Z ω) K H Z v x->oJ n ω x=cL d->DV Vt K H v d
 |n,v,.fz d',d,h,e=>by
  have f:cL d'=cL d:=by cases n<;>exact e
  cases f;exact DV.ev FV h
 |0,v,.rf i,d,h,e=>by cases e
 |0,v,.tp l,d,h,e=>by cases e
 |n+1,v,.rf i,d,h,e=>by
  obtain⟨a,ha,rfl⟩:=h;unfold oJ at e;cases q:ω[i]? with
  |none=>simp_all
  |some c=>
   rw[q]at e;cases c with
   |lst xs=>
    dsimp only at e;cases q2:aq (oJ n ω) xs with
    |none=>simp_all
    |some ds=>rw[q2]at e;cases e;obtain⟨vs,h1,b⟩:=s.UO i a _ ha q;exact .lst ⟨Su.of h1,λz=>z.elim⟩ (jP (cu (R:=Sl (ow B Z ω) K H Z) (λv x y r e=>g9 s n r e) b q2))
   |_=>cases e
 |n+1,v,.tp l,d,h,e=>by
  obtain⟨a,xs,rfl,h1,b⟩:=h;unfold oJ at e;cases q2:aq (λx=>oJ n ω x.sv) l with
  |none=>simp_all
  |some ds=>rw[q2]at e;cases e;exact .tup (h1.ev FV) (jP (cu (λv x y r e=>g9 s n (by cases x<;>exact r) e) b q2))
def ms:SV->cj D
 |.fz d=>cL d
 |_=>CL
def sh(ω:aG):SV->cj D
 |.fz d=>cL d
 |.rf i=>match ω[i]? with
  |some (.lst xs)=>(aq ms xs).map .list
  |_=>CL
 |.tp _=>CL
theorem yZ(s:StoOk B K H Z ω)(h:Sl (ow B Z ω) K H Z v x)(e:sh ω x=cL d):DX (ow B Z ω) K H v d:=by
 cases x with
 |fz f=>cases e;exact DV.x h
 |tp l=>cases e
 |rf i=>
  obtain⟨a,ha,rfl⟩:=h;unfold sh at e;dsimp only at e;cases q:ω[i]? with
  |none=>simp_all
  |some c=>
   rw[q]at e;cases c with
   |lst xs=>
    dsimp only at e;cases q2:aq ms xs with
    |none=>simp_all
    |some ds=>
     rw[q2]at e;cases e;obtain⟨vs,h1,b⟩:=s.UO i a _ ha q;refine⟨a,vs,rfl,Su.of h1,jP (cu (λv x y r e=>?_) b q2)⟩;cases x with
     |fz d=>cases e;exact r
     |rf i=>cases e
     |tp l=>cases e
   |_=>cases e
def D8:D->Bool
 |.none=>OG
 |.bool _=>OG
 |.int _=>OG
 |.str _=>OG
 |_=>OP
theorem Dt(h:D8 d=OG)(a:DV O K H v d):DV N K H' v d:=by
 cases a with
 |Se=>exact .Se
 |bl b=>exact .bl b
 |int i=>exact .int i
 |str x=>exact .str x
 |tup _ _=>cases h
 |lst _ _=>cases h
def mV(ω:aG):RV->RS SV
 |.fz d=>if D8 d=OG then .ok (.fz d) ω else .bad
 |.ow _=>.bad
theorem yM(s:StoOk B K H Z ω)(w:WS K E B H Z ω (PQ B K Q) (mV ω rv)):Fin Vt K H Q rv:=by
 cases rv with
 |fz d=>
  have w:WS K E B H Z ω (PQ B K Q) (if D8 d=OG then RS.ok (SV.fz d) ω else RS.bad):=w;by_cases z:D8 d=OG
  .rw[ai z]at w;exact λv H' e a=>w Z H' (QN.same e) (s.grow e) v (Dt z a)
  .rw[ak z]at w;exact w.elim
 |ow ds=>exact w.elim
theorem B2:jy Vt H:=λ_ _ z=>z
def qG(f:D->D->cj RV)(x y:SV)(ω:aG):RS SV:=match sh ω x,sh ω y with
 |some dx,cL b=>(RS.Qf ω (f dx b)).bind λrv ω1=>fS ω1 rv
 |_,_=>(RS.Qf ω (oJ 6 ω x)).bind λdx ω1=>(RS.Qf ω1 (oJ 6 ω1 y)).bind λb U=>(RS.Qf U (f dx b)).bind λrv a=>mV a rv
theorem Iw(l:iA K r f)(s:StoOk B K H Z ω)(k:Sl (ow B Z ω) K H Z x a)(j:Sl (ow B Z ω) K H Z y b)(w:WS K E B H Z ω (PQ B K Q) (qG f a b ω)):r x y H Q:=by
 have m:WS K E B H Z ω (PQ B K Q) ((RS.Qf ω (oJ 6 ω a)).bind λdx ω1=>(RS.Qf ω1 (oJ 6 ω1 b)).bind λd U=>(RS.Qf U (f dx d)).bind λrv h=>mV h rv)->r x y H Q:=λw=>by obtain⟨dx,g,w⟩:=w.Qf;obtain⟨d,e,w⟩:=w.Qf;obtain⟨rv,i,w⟩:=w.Qf;exact l Vt H x y dx d rv Q B2 (DV.x (g9 s 6 k g)) (DV.x (g9 s 6 j e)) i (yM s w)
 unfold qG at w;cases g:sh ω a with
 |none=>simp_all
 |some dx=>
  cases e:sh ω b with
  |none=>simp_all
  |some d=>rw[g,e]at w;obtain⟨rv,i,w⟩:=w.Qf;exact l _ H x y dx d rv Q s.Vt (yZ s k g) (yZ s j e) i (A8 s w)
def yG(f:D->D->cj RV)(fa fb:cI):cI:=λρ ω=>(fa ρ ω).bind λx ω1=>(fb ρ ω1).bind λy U=>qG f x y U
theorem Bm(j:iA K r f)(ha:c7 K E ta fa)(hb:c7 K E tb fb):c7 K E (wA r ta tb) (yG f fa fb):=by intro B X H Z ω ρ Q s a w;refine ha B X H Z ω ρ _ s a (w.bind.imp λx Y ω1 T e1 g d v h=>?_);refine hb B X T Y ω1 ρ _ g (a.R9 e1) (d.bind.imp λy L U H2 e2 e b u i=>?_);exact Iw j e (h.R9 e2) i b
def Es:SV->cj Bool
 |.fz (.bool b)=>cL b
 |_=>CL
theorem Ea(e:Es x=cL b)(h:Sl O K H Z v x):v=.bl b:=by
 unfold Es at e;split at e
 .cases e;cases h;rfl
 .cases e
def d5(fa:cI):lY:=λρ ω=>(fa ρ ω).bind λx ω1=>RS.Qf ω1 (Es x)
theorem qB(ha:c7 K E ta fa):sw K E (v7 ta) (d5 fa):=by
 intro B X H Z ω ρ Q s d w;refine ha B X H Z ω ρ _ s d (w.bind.imp λx Y ω1 T e1 e a v f=>?_);cases q:Es x with
 |none=>rw[q]at a;exact a.elim
 |some b=>rw[q]at a;exact⟨b,Ea q f,WS.now e a⟩
theorem yF(ha:c7 K E ta fa):sw K E (tB ta) (d5 fa):=qB ha
def JT(fa fb:lY):lY:=λρ ω=>(fa ρ ω).bind λb ω1=>if b=OG then .ok OG ω1 else fb ρ ω1
def wO(fa:lY):lY:=λρ ω=>(fa ρ ω).bind λb ω1=>.ok (!b) ω1
theorem Gw(h1:sw K E t f)(h:sw K E u g):sw K E (MX t u) (JT f g):=by
 intro B X H Z ω ρ Q s d w;refine h1 B X H Z ω ρ _ s d (w.bind.imp λb Y ω1 T e1 e a=>?_);cases b with
 |true=>exact WS.now e a
 |false=>exact h B X T Y ω1 ρ Q e (d.R9 e1) a
theorem D7(h1:sw K E t f):sw K E (CV t) (wO f):=by intro B X H Z ω ρ Q s d w;exact h1 B X H Z ω ρ _ s d (w.bind.imp λb Y ω1 T e1 e a=>WS.now e a)
def rX:lY:=λ_ ω=>.ok OG ω
theorem AG:sw K E sk rX:=λB X H Z ω ρ Q s a w=>WS.now s w
def iB:x4:=λ_ ω=>.ok [] ω
def cY(fa:cI)(a:x4):x4:=λρ ω=>(fa ρ ω).bind λx ω1=>(a ρ ω1).bind λxs U=>.ok (x::xs) U
theorem Cz:FB K E iI iB:=λB X H Z ω ρ Q s a w=>WS.now s w [] .nil
theorem ym(ha:c7 K E ta fa)(i:FB K E tr fr):FB K E (c8 ta tr) (cY fa fr):=by intro B X H Z ω ρ Q s b w;refine ha B X H Z ω ρ _ s b (w.bind.imp λx Y ω1 T e1 g e v h=>?_);refine i B X T Y ω1 ρ _ g (b.R9 e1) (e.bind.imp λxs L U H2 e2 f d vs a=>?_);exact WS.now f d (v::vs) (.cons (h.R9 e2) a)
theorem Ai(r:Sl O K H Z v x)(e:ms x=cL d):DV O K H v d:=by
 cases x with
 |fz d=>cases e;exact r
 |rf i=>cases e
 |tp l=>cases e
def Dz(f:cc D->cj RV)(xs:cc SV)(ω:aG):RS SV:=match aq (sh ω) xs with
 |some ds=>(RS.Qf ω (f ds)).bind λrv ω1=>fS ω1 rv
 |_=>(RS.Qf ω (aq (oJ 6 ω) xs)).bind λds ω1=>(RS.Qf ω1 (f ds)).bind λrv a=>mV a rv
def BF(f:cc D->cj RV)(fa:x4):cI:=λρ ω=>(fa ρ ω).bind λxs ω1=>Dz f xs ω1
theorem zC(h:B5 K r f)(ha:FB K E ta fa):c7 K E (B8 r ta) (BF f fa):=by
 intro B X H Z ω ρ Q s i w;refine ha B X H Z ω ρ _ s i (w.bind.imp λxs Y ω1 T e1 b a vs g=>?_);unfold Dz at a;cases q1:aq (sh ω1) xs with
 |none=>rw[q1]at a;obtain⟨ds,j,a⟩:=a.Qf;obtain⟨rv,d,a⟩:=a.Qf;exact h Vt T vs ds rv Q B2 (cu (R:=Sl (ow B Y ω1) K T Y) (λv x y r e=>DV.x (g9 b 6 r e)) g j) d (yM b a)
 |some ds=>rw[q1]at a;obtain⟨rv,d,a⟩:=a.Qf;exact h _ T vs ds rv Q b.Vt (cu (R:=Sl (ow B Y ω1) K T Y) (λv x y r e=>yZ b r e) g q1) d (A8 b a)
end
section
variable{B O O':aN}{K:Bn}{E:XK}{H H' N M:Hp}{Z α' U S:cc OL}{ω Y ω1 X:aG}{T:L2.St}{ρ:aE}{v:V}
theorem Br:∀{vs:cc V} {xs:cc β} {i:Nat} {x:β},Paired R vs xs->xs[i]?=cL x->∃v,vs[i]?=cL v/\R v x
 |_,_,_,_,.nil,e=>by simp at e
 |_,_,0,_,.cons h _,e=>by simp_all
 |_,_,i+1,x,.cons _ t,e=>by obtain⟨v,h1,a⟩:=Br t (by simpa using e);simp_all
theorem kz(h:Lv Z (ω.set i .dead) b):Lv Z ω b:=by
 obtain⟨j,c,h1,a,d⟩:=h;rcases aP a with⟨rfl,rfl⟩|⟨_,a⟩
 .simp_all
 .exact⟨j,c,h1,a,d⟩
theorem QN.kill:QN Z ω H Z (ω.set i .dead) H:=⟨λ_ _ h=>h,λ_ _ h _=>h,λ_ h=>.inl (kz h)⟩
theorem StoOk.kill(s:StoOk B K H Z ω)(i:Nat):StoOk B K H Z (ω.set i .dead):=by
 have e:QN Z ω H Z (ω.set i .dead) H:=QN.kill;refine⟨by rw[Qq];exact s.len,s.nd,s.bn,s.ba,s.al,λj b d h1 a=>?_⟩;rcases aP a with⟨rfl,rfl⟩|⟨f,a⟩
 .exact trivial
 .exact(s.UO j b d h1 a).ev e.ev e.pre λu q=>q
theorem StoOk.U4(s:StoOk B K H Z ω)(ha:Z[i]?=cL a):¬ow B Z (ω.set i .dead) a:=by
 rintro(z|⟨j,c,h1,d,b⟩)
 .exact s.XT ha z
 .have:=s.nd j i a h1 ha
  subst this;rcases aP d with⟨_,rfl⟩|⟨e,_⟩
  .exact b rfl
  .exact e rfl
def l9(g:aG->SV->cj (D×aG)):aG->cc SV->cj (cc D×aG)
 |ω,[]=>cL ([],ω)
 |ω,x::r=>match g ω x with
  |some (d,ω1)=>(match l9 g ω1 r with
   |some (ds,X)=>cL (d::ds,X)
   |none=>CL)
  |none=>CL
def frz:Nat->aG->SV->cj (D×aG)
 |_,ω,.fz d=>cL (d,ω)
 |0,_,_=>CL
 |n+1,ω,.rf i=>match ω[i]? with
  |some (.lst xs)=>(match l9 (frz n) ω xs with
   |some (ds,ω1)=>cL (.list ds,ω1.set i .dead)
   |none=>CL)
  |_=>CL
 |n+1,ω,.tp l=>match l9 (frz n) ω (l.map AV.sv)with
  |some (ds,ω1)=>cL (.tuple ds,ω1)
  |none=>CL
theorem oK(a:∀{ω Y:aG} {v:V} {x:SV} {d:D},StoOk B K H Z ω->Sl (ow B Z ω) K H Z v x->g ω x=cL (d,Y)->StoOk B K H Z Y/\QN Z ω H Z Y H/\L3.DV (ow B Z Y) K H v d):
  ∀{vs:cc V} {xs:cc SV} {ds:cc D} {ω Y:aG},StoOk B K H Z ω->Rv (ow B Z ω) K H Z vs xs->l9 g ω xs=cL (ds,Y)->StoOk B K H Z Y/\QN Z ω H Z Y H/\L3.QC (ow B Z Y) K H vs ds
 |_,_,_,ω,Y,s,.nil,e=>by cases e;exact⟨s,.refl,.nil⟩
 |_,_,_,ω,Y,s,.cons (b:=x) (l₂:=xs) r t,e=>by
  unfold l9 at e;cases q:g ω x with
  |none=>simp_all
  |some p=>
   obtain⟨d,ω1⟩:=p;rw[q]at e;dsimp only at e;obtain⟨h,e1,k⟩:=a s r q;cases q2:l9 g ω1 xs with
   |none=>simp_all
   |some i=>obtain⟨ds,X⟩:=i;rw[q2]at e;cases e;obtain⟨f,e2,j⟩:=oK a h (Rv.R9 e1 t) q2;exact⟨f,e1.trans e2,.cons (k.ev e2.ev) j⟩
theorem oM:∀{vs:cc V} {l:cc AV},Paired (W4 O K H Z) vs l->Rv O K H Z vs (l.map AV.sv)
 |_,_,.nil=>.nil
 |_,_,.cons (b:=x) h t=>.cons (by cases x<;>exact h) (oM t)
theorem oy:∀(n:Nat) {ω Y:aG} {v:V} {x:SV} {d:D},StoOk B K H Z ω->Sl (ow B Z ω) K H Z v x->frz n ω x=cL (d,Y)->StoOk B K H Z Y/\QN Z ω H Z Y H/\L3.DV (ow B Z Y) K H v d
 |n,ω,Y,v,.fz d',d,s,h,e=>by
  have j:cL (d',ω)=cL (d,Y):=by cases n<;>exact e
  cases j;exact⟨s,.refl,h⟩
 |0,_,_,v,.rf i,d,s,h,e=>by cases e
 |0,_,_,v,.tp l,d,s,h,e=>by cases e
 |n+1,ω,Y,v,.rf i,d,s,h,e=>by
  obtain⟨a,ha,rfl⟩:=h;unfold frz at e;cases q:ω[i]? with
  |none=>simp_all
  |some c=>
   rw[q]at e;cases c with
   |lst xs=>
    dsimp only at e;obtain⟨vs,h1,f⟩:=s.UO i a _ ha q;cases q2:l9 (frz n) ω xs with
    |none=>simp_all
    |some p=>obtain⟨ds,ω1⟩:=p;rw[q2]at e;cases e;obtain⟨b,e1,g⟩:=oK (λs h e=>oy n s h e) s f q2;exact⟨b.kill i,e1.trans QN.kill,ph h1 (b.U4 ha) (g.ev (QN.kill).ev)⟩
   |_=>cases e
 |n+1,ω,Y,v,.tp l,d,s,h,e=>by
  obtain⟨a,xs,rfl,h1,f⟩:=h;unfold frz at e;cases q2:l9 (frz n) ω (l.map AV.sv)with
  |none=>simp_all
  |some p=>obtain⟨ds,ω1⟩:=p;rw[q2]at e;cases e;obtain⟨b,e1,g⟩:=oK (λs h e=>oy n s h e) s (oM f) q2;exact⟨b,e1,.tup (h1.ev e1.ev) g⟩
def G5(x:SV)(ω:aG):RS SV:=match frz 4 ω x with
 |some (d,ω1)=>.ok (.fz d) ω1
 |none=>.bad
def sB(f:cI):cI:=λρ ω=>(f ρ ω).bind λx ω1=>G5 x ω1
theorem Dn(h:c7 K E t f):c7 K E t (sB f):=by
 intro B T H Z ω ρ Q s b w;refine h B T H Z ω ρ _ s b (w.bind.imp λx U ω1 N e1 g a v i=>?_);unfold G5 at a;cases q:frz 4 ω1 x with
 |none=>rw[q]at a;exact a.elim
 |some p=>obtain⟨d,X⟩:=p;rw[q]at a;obtain⟨e,e2,j⟩:=oy 4 g i q;exact a U N e2 e v j
theorem XN.sub(h:∀b,O' b->O b)(k:XN K O H c dx x):XN K O' H c dx x:=by obtain⟨h1,fs,g,a⟩:=k;exact⟨h1,fs,g,λf d e=>let⟨g1,v,g2,g3⟩:=a f d e;⟨g1,v,g2,g3.ev (Ev.sub h)⟩⟩
def vZ(F:FN)(n:Nat)(xs:cc SV)(ω:aG):RS SV:=if xs.length=n then(match aq ms xs with
 |some ds=>(match F ds with
  |.ok rv=>fS ω rv
  |.er x=>.er x ω
  |.bad=>.bad)
 |none=>(RS.Qf ω (aq (oJ 6 ω) xs)).bind λds ω1=>(match F ds with
  |.ok rv=>mV ω1 rv
  |_=>.bad))else .bad
def gA:RS A->RS A
 |.er _ _=>.bad
 |r=>r
def zk(F:FN)(n:Nat)(fa:x4):cI:=λρ ω=>(fa ρ ω).bind λxs ω1=>gA (vZ F n xs ω1)
theorem WS.e0(h:WS K E B H Z ω P (gA r)):WS K E0 B H Z ω P r:=by
 cases r with
 |ok a ω=>exact h
 |er x ω=>exact h.elim
 |bad=>exact h
theorem CM(s:StoOk B K H Z ω)(b:Rv (ow B Z ω) K H Z vs xs)(w:WS K E B H Z ω (PQ B K Q) (vZ F n xs ω)):xF K n F vs H Q E:=by
 unfold vZ at w;by_cases hn:xs.length=n
 .rw[ai hn]at w
  refine⟨b.length.trans hn,?_⟩;cases q:aq ms xs with
  |some ds=>
   rw[q]at w;refine⟨ow B Z ω,ds,s.owd,jP (cu (R:=Sl (ow B Z ω) K H Z) (λv x y r e=>Ai r e) b q),?_⟩;dsimp only at w;cases qF:F ds with
   |ok rv=>rw[qF]at w;exact A8 s w
   |er x=>rw[qF]at w;exact λc dx H' e k=>w c dx Z H' (QN.same e) (s.grow e) k
   |bad=>rw[qF]at w;exact w.elim
  |none=>
   rw[q]at w;obtain⟨ds,d,w⟩:=WS.Qf w;refine⟨Vt,ds,λa z=>z.elim,jP (cu (R:=Sl (ow B Z ω) K H Z) (λv x y r e=>g9 s 6 r e) b d),?_⟩;cases qF:F ds with
   |ok rv=>rw[qF]at w;exact yM s w
   |er x=>rw[qF]at w;exact w.elim
   |bad=>rw[qF]at w;exact w.elim
 .rw[ak hn]at w;exact w.elim
theorem DY(ha:FB K E ta fa):c7 K E (nk (xF K n F) [] E0 ta) (zk F n fa):=by intro B T H Z ω ρ Q s b w;refine ha B T H Z ω ρ _ s b (w.bind.imp λxs U ω1 N e1 d a vs e=>?_);rw[Pu];exact CM d e (WS.e0 a)
abbrev kh:=cc SV->aG->RS SV
def x9(K:Bn)(n:Nat)(F:kh):Sp:=λvs H Q E=>vs.length=n/\∃(B:aN) (Z:cc OL) (ω:aG) (xs:cc SV),StoOk B K H Z ω/\Rv (ow B Z ω) K H Z vs xs/\WS K E B H Z ω (PQ B K Q) (F xs ω)
def lL(F:kh)(n:Nat)(fa:x4):cI:=λρ ω=>(fa ρ ω).bind λxs ω1=>if xs.length=n then gA (F xs ω1)else .bad
theorem wB(ha:FB K E ta fa):c7 K E (nk (x9 K n F) [] E0 ta) (lL F n fa):=by
 intro B T H Z ω ρ Q s d w;refine ha B T H Z ω ρ _ s d (w.bind.imp λxs U ω1 N e1 e a vs b=>?_);rw[Pu];by_cases hn:xs.length=n
 .rw[ai hn]at a;exact⟨b.length.trans hn,B,U,ω1,xs,e,b,WS.e0 a⟩
 .rw[ak hn]at a;exact a.elim
def gR(ω:aG):SV->cj (Nat×cc SV)
 |.rf i=>match ω[i]? with
  |some (.lst xs)=>cL (i,xs)
  |_=>CL
 |_=>CL
theorem uz(s:StoOk B K H Z ω)(b:Sl (ow B Z ω) K H Z v x)(h:gR ω x=cL (i,xs)):ω[i]?=cL (.lst xs)/\∃a vs,Z[i]?=cL a/\v=.ref a/\H a=cL (.lst vs)/\Rv (ow B Z ω) K H Z vs xs:=by
 cases x with
 |fz d=>cases h
 |tp l=>cases h
 |rf j=>
  obtain⟨a,ha,rfl⟩:=b;unfold gR at h;dsimp only at h;cases q:ω[j]? with
  |none=>simp_all
  |some c=>
   rw[q]at h;cases c with
   |lst ys=>have e:=Pr h;cases e;obtain⟨vs,h1,f⟩:=s.UO i a _ ha q;exact⟨q,a,vs,ha,rfl,h1,f⟩
   |_=>cases h
theorem vt(h:Paired R vs xs)(r:R v x):Paired R (vs++[v]) (xs++[x]):=by
 induction h with
 |nil=>exact .cons r .nil
 |cons a _ b=>exact .cons a b
def Bo(b fe:cI):cI:=λρ ω=>(b ρ ω).bind λo ω1=>(RS.Qf ω1 (gR ω1 o)).bind λ_ ω1=>(fe ρ ω1).bind λx X=>(RS.Qf X (gR X o)).bind λp a=>
 if p.2.length<1000000 then .ok (.fz .none) (a.set p.1 (.lst (p.2++[x])))else .bad
theorem CP(A:c7 K E to fo)(C:c7 K E te fe):c7 K E (Kd K "list" nF to (c8 te iI)) (Bo fo fe):=by
 intro B T H Z ω ρ Q s g w;refine A B T H Z ω ρ _ s g (w.bind.imp λo U ω1 N e1 k d v l=>?_);obtain⟨⟨I,J⟩,p,d⟩:=WS.Qf d;obtain⟨_,n,e,_,rfl,g0,_⟩:=uz k l p;refine⟨.inl ⟨rfl,e,Tw.of g0⟩,?_⟩;refine C B T N U ω1 ρ _ k (g.R9 e1) (d.bind.imp λx S X M e2 j b u t=>?_);obtain⟨⟨i,xs⟩,q,b⟩:=WS.Qf b;obtain⟨f,a,vs,ha,G,F,m⟩:=uz j (l.R9 e2) q;cases G;dsimp only at b;by_cases hn:xs.length<1000000
 .rw[ai hn]at b;have ev:Ev (ow B S X) M (ow B S X) (upd M n (.lst (vs++[u]))):=tV ha f (by nofun);refine⟨n,vs,u,rfl,rfl,F,ri (by rw[m.length];exact hn),?_⟩;exact b S _ (QN.put ha f (by nofun) (by nofun)) (j.put ha f (by nofun) (by nofun) ⟨_,ay,vt (Paired.SE m λ_ _ r=>r.ev ev λ_ _ h=>h) (t.ev ev λ_ _ h=>h)⟩) _ .Se
 .rw[ak hn]at b;exact b.elim
end
inductive YC where
 |nx (ρ:aE)
 |bk (ρ:aE)
 |ct (ρ:aE)
 |rt (x:SV)
abbrev fR:=aE->aG->RS YC
abbrev kR:=SV->aE->aG->RS aE
abbrev wZ:=cc SV->aE->aG->RS aE
def iC(B:aN)(K:Bn)(D:Ends):YC->cc OL->aG->Hp->Prop
 |.nx ρ,α,ω,H=>∀σ,Ru (ow B α ω) K H α σ ρ->D.nx σ H
 |.bk ρ,α,ω,H=>∀σ,Ru (ow B α ω) K H α σ ρ->D.bk σ H
 |.ct ρ,α,ω,H=>∀σ,Ru (ow B α ω) K H α σ ρ->D.ct σ H
 |.rt x,α,ω,H=>∀v,Sl (ow B α ω) K H α v x->D.rt v H
def l6(K:Bn)(E:XK)(t:TS)(g:fR):Prop:=
 ∀(B:aN) (a:L2.St) (H:Hp) (α:cc OL) (ω:aG) (ρ:aE) (D:Ends),StoOk B K H α ω->Ru (ow B α ω) K H α a ρ->WS K E B H α ω (iC B K D) (g ρ ω)->t D a H
def yc(K:Bn)(E:XK)(g:TG)(f:kR):Prop:=
 ∀(B:aN) (e:L2.St) (H:Hp) (α:cc OL) (ω:aG) (ρ:aE) (v:V) (x:SV) (Q:L2.St->Hp->Prop),StoOk B K H α ω->Ru (ow B α ω) K H α e ρ->Sl (ow B α ω) K H α v x->WS K E B H α ω (λd a b h=>∀σ',Ru (ow B a b) K h a σ' d->Q σ' h) (f x ρ ω)->g v e H Q
def y4(K:Bn)(E:XK)(g:tF)(f:wZ):Prop:=
 ∀(B:aN) (e:L2.St) (H:Hp) (α:cc OL) (ω:aG) (ρ:aE) (vs:cc V) (xs:cc SV) (Q:L2.St->Hp->Prop),StoOk B K H α ω->Ru (ow B α ω) K H α e ρ->Rv (ow B α ω) K H α vs xs->WS K E B H α ω (λd a b h=>∀σ',Ru (ow B a b) K h a σ' d->Q σ' h) (f xs ρ ω)->g vs e H Q
section
variable{B O O':aN}{K:Bn}{E:XK}{H H' S P:Hp}{X M U Y:cc OL}{ω N ω1 Z:aG}{T:L2.St}{ρ:aE}{v:V}
theorem Ru.set(a:Ru O K H X T ρ)(h:Sl O K H X v x):Ru O K H X (T.set i (cL v)) (ρ.set i (cL x)):=by
 refine⟨by rw[Qq,Qq];exact a.1,λj y b=>?_⟩;rcases aP b with⟨rfl,e⟩|⟨g,f⟩
 .cases e;refine⟨v,?_,h⟩;rw[Q9];have:=pT b;rw[a.1];exact this
 .obtain⟨u,h1,d⟩:=a.2 j y f;exact⟨u,by rw[Rx (λz=>g z.symm)];exact h1,d⟩
def jB(i:Nat):kR:=λx ρ ω=>.ok (ρ.set i (cL x)) ω
theorem lq:yc K E (jp i) (jB i):=λB T H X ω ρ v x Q s a h w=>WS.now s w _ (a.set h)
def Dr:wZ:=λxs ρ ω=>match xs with
 |[]=>.ok ρ ω
 |_=>.bad
def wX(f:kR)(g:wZ):wZ:=λxs ρ ω=>match xs with
 |x::r=>(f x ρ ω).bind λa ω1=>g r a ω1
 |[]=>.bad
theorem Cb:y4 K E EU Dr:=by
 intro B T H X ω ρ vs xs Q s a h w;cases h with
 |nil=>exact⟨rfl,WS.now s w _ a⟩
 |cons _ _=>exact w.elim
theorem Bw(h1:yc K E t f)(l:y4 K E u g):y4 K E (wt t u) (wX f g):=by
 intro B T H X ω ρ vs xs Q s j h w;cases h with
 |nil=>exact w.elim
 |cons a b=>refine⟨_,_,rfl,h1 B T H X ω ρ _ _ _ s j a (WS.imp (WS.bind w) λe U ω1 S e1 k i d m=>?_)⟩;exact l B d S U ω1 e _ _ _ k m (Rv.R9 e1 b) i
def Ao:SV->cj (cc SV)
 |.fz (.tuple ds)=>cL (ds.map .fz)
 |.tp l=>cL (l.map AV.sv)
 |_=>CL
theorem G6(h:Sl O K H X v x)(e:Ao x=cL xs):∃a vs,v=.ref a/\TU O K H a vs/\Rv O K H X vs xs:=by
 unfold Ao at e;split at e
 .cases e
  cases h with
  |tup h b=>exact⟨_,_,rfl,h,jH _ _ b⟩
 .cases e;obtain⟨a,ys,rfl,h1,d⟩:=h;exact⟨a,ys,rfl,h1,oM d⟩
 .cases e
def Ml(n:Nat)(f:wZ):kR:=λx ρ ω=>(RS.Qf ω (Ao x)).bind λxs ω1=>if xs.length=n then f xs ρ ω1 else .bad
theorem C7(h:y4 K E t f):yc K E (D2 K n t) (Ml n f):=by
 intro B T H X ω ρ v x Q s d e w;obtain⟨xs,q,w⟩:=WS.Qf w;obtain⟨a,vs,rfl,h1,b⟩:=G6 e q;by_cases hn:xs.length=n
 .rw[ai hn]at w;exact⟨a,vs,rfl,h1.1,b.length.trans hn,h B T H X ω ρ vs xs Q s d b w⟩
 .rw[ak hn]at w;exact w.elim
def jz:fR:=λρ ω=>.ok (.nx ρ) ω
def bC(f g:fR):fR:=λρ ω=>(f ρ ω).bind λa ω1=>match a with
 |.nx ρ1=>g ρ1 ω1
 |a=>.ok a ω1
def je(f:cI):fR:=λρ ω=>(f ρ ω).bind λ_ ω1=>.ok (.nx ρ) ω1
def fQ(f:cI)(g:kR):fR:=λρ ω=>(f ρ ω).bind λx ω1=>(g x ρ ω1).bind λa Z=>.ok (.nx a) Z
def ja(c:lY)(f g:fR):fR:=λρ ω=>(c ρ ω).bind λb ω1=>if b=OG then f ρ ω1 else g ρ ω1
def jR(f:cI):fR:=λρ ω=>(f ρ ω).bind λx ω1=>.ok (.rt x) ω1
theorem BP:l6 K E yS jz:=λB T H X ω ρ D s a w=>WS.now s w T a
theorem Ep(h1:l6 K E t f)(i:l6 K E u g):l6 K E (Eu t u) (bC f g):=by
 intro B T H X ω ρ D s h w;refine h1 B T H X ω ρ {D with nx:=u D} s h (WS.imp (WS.bind w) λj U ω1 S e1 d b=>?_);cases j with
 |nx a=>exact λe k=>i B e S U ω1 a D d k b
 |rt x=>exact WS.now (E:=E) d b
 |bk a=>exact WS.now (E:=E) d b
 |ct a=>exact WS.now (E:=E) d b
theorem yU(h:c7 K E t f):l6 K E (vM t) (je f):=by intro B T H X ω ρ D s a w;exact h B T H X ω ρ _ s a (WS.imp (WS.bind w) λx U ω1 S e1 d b v e=>WS.now d b T (a.R9 e1))
theorem Ej(h:c7 K E t f)(m:yc K E g fg):l6 K E (Cu t g) (fQ f fg):=by intro B T H X ω ρ D s b w;refine h B T H X ω ρ _ s b (WS.imp (WS.bind w) λx U ω1 S e1 k i v l=>?_);exact m B T S U ω1 ρ v x _ k (b.R9 e1) l (WS.imp (WS.bind i) λd Y Z P e2 j e a n=>WS.now j e a n)
theorem Ht(h:sw K E c fc)(h1:l6 K E t f)(i:l6 K E u g):l6 K E (Cf c t u) (ja fc f g):=by
 intro B T H X ω ρ D s a w;refine h B T H X ω ρ _ s a (WS.imp (WS.bind w) λb U ω1 S e1 e d=>?_);cases b with
 |true=>exact h1 B T S U ω1 ρ D e (a.R9 e1) d
 |false=>exact i B T S U ω1 ρ D e (a.R9 e1) d
theorem DE(h:c7 K E t f):l6 K E (Cv t) (jR f):=by intro B T H X ω ρ D s b w;exact h B T H X ω ρ _ s b (WS.imp (WS.bind w) λx U ω1 S e1 d a v e=>WS.now d a v e)
abbrev Hc:=aE->aG->RS (cc D)
def LF(K:Bn)(E:XK)(b:TI)(d:Hc):Prop:=
 ∀(B:aN) (T:L2.St) (H:Hp) (X:cc OL) (ω:aG) (ρ:aE) (a:It->Hp->Prop),StoOk B K H X ω->Ru (ow B X ω) K H X T ρ->WS K E B H X ω (λds M N H'=>∀J,oE K J (ow B M N) H' ds->a J H') (d ρ ω)->b T H a
def j6(f:FI):Hc:=λρ ω=>match f (dI ρ)with
 |.ok (ds,_)=>.ok ds ω
 |.er x=>.er x ω
 |.bad=>.bad
theorem yu(h:IO K E wi f):LF K E wi (j6 f):=by
 intro B T H X ω ρ i s d w;refine h (ow B X ω) H (ow B X ω) T H (dI ρ) i (y8 s d) ?_;unfold j6 at w;cases q:f (dI ρ)with
 |bad=>rw[q]at w;exact w.elim
 |er x=>rw[q]at w;exact λc dx H' e k=>w c dx X H' (QN.same e) (s.grow e) k
 |ok r=>obtain⟨ds,a⟩:=r;rw[q]at w;exact λO' J H' e R g=>w X H' (QN.same R.same) (s.grow R.same) J λj P e2 n=>g j P (λb o h z=>e2 b o h λy=>z (R.bo b y)) n
def sj(fe:cI):Hc:=λρ ω=>(fe ρ ω).bind λx ω1=>(match frz 4 ω1 x with
 |some (d,Z)=>RS.Qf Z (eX d)
 |none=>.bad)
theorem C5(h:c7 K E tl fe):LF K E (wa K tl) (sj fe):=by
 intro B T H X ω ρ k s f w;refine h B T H X ω ρ _ s f (WS.imp (WS.bind w) λx U ω1 S e1 g a v i=>?_);cases q:frz 4 ω1 x with
 |none=>rw[q]at a;exact a.elim
 |some p=>
  obtain⟨d,Z⟩:=p;rw[q]at a;obtain⟨e,e2,j⟩:=oy 4 g i q;dsimp only at a;cases qs:eX d with
  |none=>rw[qs]at a;exact a.elim
  |some ds=>
   rw[qs]at a;cases j with
   |tup h b=>cases qs;exact⟨_,rfl,.inr ⟨⟨_,h.1⟩,a U S e2 e _ (zX h b)⟩⟩
   |lst h b=>cases qs;exact⟨_,rfl,.inl ⟨⟨_,h.1.sq⟩,a U S e2 e _ (u3 h b)⟩⟩
   |_=>cases qs
def fq(gt:kR)(b:fR):cc D->fR
 |[],ρ,ω=>.ok (.nx ρ) ω
 |d::r,ρ,ω=>(gt (.fz d) ρ ω).bind λa ω1=>(b a ω1).bind λe Z=>match e with
  |.nx ρ2=>fq gt b r ρ2 Z
  |.ct ρ2=>fq gt b r ρ2 Z
  |.bk ρ2=>.ok (.nx ρ2) Z
  |.rt x=>.ok (.rt x) Z
def wV(a:Hc)(gt:kR)(b:fR):fR:=λρ ω=>(a ρ ω).bind λds ω1=>fq gt b ds ρ ω1
theorem C2(hi:LF K E wi fi)(hg:yc K E g gt)(hb:l6 K E tb b):l6 K E (wP wi g tb) (wV fi gt b):=by
 intro B T H X ω ρ D s G w;refine hi B T H X ω ρ _ s G (WS.imp (WS.bind w) λds U ω1 S e1 s1 w1 J it=>?_);refine⟨λi m a H'=>m=ds.length - i/\i<=ds.length/\∃Y Z ρ2,QN U ω1 S Y Z H'/\StoOk B K H' Y Z/\Ru (ow B Y Z) K H' Y a ρ2/\WS K E B H' Y Z (iC B K D) (fq gt b (ds.drop i) ρ2 Z),⟨_,rfl,P0 _,U,ω1,ρ,.refl,s1,G.R9 e1,w1⟩,?_⟩;rintro i m j P ⟨rfl,hi,Y,Z,ρ2,e2,s2,Vb,w2⟩;obtain⟨go,l⟩:=it (ow B Y Z) P e2.ev s2.Vt;by_cases p:i<ds.length
 .obtain⟨g1,g2⟩:=go i p
  refine .inr ⟨g1,λa H'=>i+1<=ds.length/\∃Y Z ρ2,QN U ω1 S Y Z H'/\StoOk B K H' Y Z/\Ru (ow B Y Z) K H' Y a ρ2/\WS K E B H' Y Z (iC B K D) (fq gt b (ds.drop (i+1)) ρ2 Z),λa H' ⟨h1,h2⟩=>⟨ds.length - (i+1),by ext,rfl,h1,h2⟩,λx F y=>?_⟩;obtain⟨I,d,hd,dv⟩:=g2 x F y;have ed:ds.drop i=d::ds.drop (i+1):=by obtain⟨_,q⟩:=OI.mp hd;rw[Ql p,q]
  rw[ed]at w2;have e3:QN Y Z P Y Z F:=QN.same I;refine hg B j F Y Z ρ2 x (.fz d) _ (s2.grow I) (Vb.R9 e3) dv (WS.imp (WS.bind (WS.from e3 w2)) λz A r H4 e4 s4 Q u Zb=>?_);refine hb B u H4 A r z _ s4 Zb (WS.imp (WS.bind Q) λfl k h H5 e5 o n=>?_);have L:=e2.trans (e3.trans (e4.trans e5));cases fl with
  |nx f=>exact λt C=>⟨p,k,h,f,L,o,C,n⟩
  |ct f=>exact λt C=>⟨p,k,h,f,L,o,C,n⟩
  |bk f=>exact WS.now (E:=E) o n
  |rt x=>exact WS.now (E:=E) o n
 .have e:i=ds.length:=by ext
  subst e;rw[QD (OJ _)]at w2;exact .inl ⟨l,WS.now s2 w2 j Vb⟩
def l7(c:lY)(b:fR):Nat->fR
 |0,_,_=>.bad
 |n+1,ρ,ω=>(c ρ ω).bind λk ω1=>if k=OG then(b ρ ω1).bind λa Z=>match a with
  |.nx ρ2=>l7 c b n ρ2 Z
  |.ct ρ2=>l7 c b n ρ2 Z
  |.bk ρ2=>.ok (.nx ρ2) Z
  |.rt x=>.ok (.rt x) Z else .ok (.nx ρ) ω1
def sL(c:lY)(b:fR):fR:=l7 c b 1000000
theorem xo(G:sw K E c fc)(hb:l6 K E tb b):l6 K E (zw c tb) (sL fc b):=by
 intro B T H X ω ρ D s C w;refine⟨λm d H'=>∃Y Z a,QN X ω H Y Z H'/\StoOk B K H' Y Z/\Ru (ow B Y Z) K H' Y d a/\WS K E B H' Y Z (iC B K D) (l7 fc b m a Z),⟨_,X,ω,ρ,.refl,s,C,w⟩,?_⟩;rintro m f P ⟨Y,Z,a,e2,F,t,u⟩;cases m with
 |zero=>exact u.elim
 |succ m=>
  refine G B f P Y Z a _ F t (WS.imp (WS.bind u) λk p n J e3 z j=>?_);cases k with
  |true=>
   rw[ai rfl]at j⊢;refine⟨λd H'=>∃Y Z a,QN X ω H Y Z H'/\StoOk B K H' Y Z/\Ru (ow B Y Z) K H' Y d a/\WS K E B H' Y Z (iC B K D) (l7 fc b m a Z),λd H' q=>⟨m,QI m,q⟩,?_⟩;refine hb B f J p n a _ z (t.R9 e3) (WS.imp (WS.bind j) λI h g L e5 l i=>?_);have A:=e2.trans (e3.trans e5);cases I with
   |nx e=>exact λo r=>⟨h,g,e,A,l,r,i⟩
   |ct e=>exact λo r=>⟨h,g,e,A,l,r,i⟩
   |bk e=>exact WS.now (E:=E) l i
   |rt x=>exact WS.now (E:=E) l i
  |false=>rw[ak OX]at j⊢;exact WS.now z j f (t.R9 e3)
end
section
variable{B O O':aN}{K:Bn}{E:XK}{H H' T L:Hp}{U S X Y:cc OL}{ω ω' ω1 Z:aG}{M:L2.St}{ρ:aE}{v:V}
def bu(gt:kR)(ft:lY)(fe:cI):cc D->aE->aG->cc SV->RS (cc SV)
 |[],_,ω,acc=>.ok acc ω
 |d::r,ρ,ω,acc=>(gt (.fz d) ρ ω).bind λa ω1=>(ft a ω1).bind λb Z=>if b=OG then(fe a Z).bind λx e=>(if acc.length<1000000 then bu gt ft fe r a e (acc++[x])else .bad)else bu gt ft fe r a Z acc
def fA(n:Nat)(fj:cc Nat)(ρ:aE):aE:=ON n CL++fj.map λj=>(ρ[j]?).join
def r8(n:Nat)(fj:cc Nat)(a:Hc)(gt:kR)(ft:lY)(fe:cI):cI:=λρ ω=>(a ρ ω).bind λds ω1=>(gA (bu gt ft fe ds (fA n fj ρ) ω1 [])).bind λxs Z=>.ok (.rf Z.length) (Z++[.lst xs])
theorem CF{own:cc Str}{b:cc (Str×Nat)}{n:Nat}{fj:cc Nat}(hn:own.length=n)(f:b.map (·.2)=fj)(g:Ru O K H U M ρ):Ru O K H U (dP own b M) (fA n fj ρ):=by
 unfold dP fA;rw[ut hn];have i:b.length=fj.length:=by rw[<-f,OH]
 refine⟨by simp_all,λj x a=>?_⟩;by_cases e:j<n
 .rw[Pc (by rw[Py];exact e),Q5,ai e]at a;cases a
 .rw[Pn (by simp_all),Py,OT]at a⊢
  subst f;rw[OT]at a;cases q:b[j - n]? with
  |none=>simp_all
  |some p=>
   rw[q]at a;have d:(ρ[p.2]?).join=cL x:=Pr a;have h:ρ[p.2]?=cL (cL x):=by
    cases qq:ρ[p.2]? with
    |none=>rw[qq]at d;cases d
    |some o=>rw[qq]at d;exact ey cL d
   obtain⟨u,h1,k⟩:=g.2 p.2 x h;simp_all
theorem p9{p:OL}{c:Cell}(a:U.length=ω.length)(e:c≠.dead):ow (aY B p) U ω=ow B (U++[p]) (ω++[c]):=by
 funext b;refine propext ⟨λz=>?_,λz=>?_⟩
 .rcases z with(z|z)|⟨i,d,h1,h2,h3⟩
  .exact .inl z
  .exact .inr ⟨U.length,c,by rw[z];exact aH,by rw[a];exact aH,e⟩
  .exact .inr ⟨i,d,gX h1,gX h2,h3⟩
 .rcases z with z|z
  .exact .inl (.inl z)
  .rcases o3 a z with z|z
   .exact .inr z
   .exact .inl (.inr z)
theorem StoOk.adopt{p:OL}{vs:cc V}{xs:cc SV}(s:StoOk (aY B p) K H U ω)(g:H p=cL (.lst vs))(f:Rv (ow (aY B p) U ω) K H U vs xs)(l:¬B p):StoOk B K H (U++[p]) (ω++[.lst xs]):=by
 have eo:ow (aY B p) U ω=ow B (U++[p]) (ω++[.lst xs]):=p9 s.len (by simp_all);have b:∀(i:Nat) (a:OL),U[i]?=cL a->(U++[p])[i]?=cL a:=λi a h=>gX h;have k:∀i:Nat,U[i]?≠cL p:=s.ba p (.inr rfl);refine⟨by rw[OO,OO,s.len];rfl,λi j a h1 e=>?_,λa h=>s.bn a (.inl h),λa h i q=>?_,λi a h=>?_,λi a d h1 e=>?_⟩
 .rcases a9 h1 with g1|⟨e1,e2⟩<;>rcases a9 e with g2|⟨e3,e4⟩
  .exact s.nd i j a g1 g2
  .simp_all
  .simp_all
  .omega
 .rcases a9 q with q|⟨_,e2⟩
  .exact s.ba a (.inl h) i q
  simp_all
 .rcases a9 h with h|⟨_,e2⟩
  .exact s.al i a h
  simp_all
 .rw[<-eo]
  rcases a9 e with g2|⟨e1,e2⟩
  .rcases a9 h1 with g1|⟨e1,_⟩
   .exact(s.UO i a d g1 g2).ev .refl b λo q=>q
   .have:=(OI.mp g2).1;have:=s.len;ext
  .rcases a9 h1 with g1|⟨_,e3⟩
   .have:=(OI.mp g1).1;have:=s.len;ext
   .rw[e2,e3];exact⟨vs,g,Paired.SE f λ_ _ r=>r.ev .refl b⟩
theorem StoOk.hide{p:OL}{o:HO}(s:StoOk B K H U ω)(f:H p=CL):StoOk (aY B p) K (upd H p o) U ω:=by have d:QL H (upd H p o):=bE f o;have g:=s.grow d;have ev:Ev (ow B U ω) H (ow (aY B p) U ω) (upd H p o):=λb u h n=>⟨d b u h,λz=>z.elim (λz=>z.elim (λz=>n (.inl z)) λz=>by simp_all) λz=>n (.inr z)⟩;refine⟨g.len,g.nd,λa h=>h.elim (g.bn a) λe=>by rw[e,ay];simp,λa h i q=>h.elim (λh=>g.ba a h i q) λe=>by rw[e]at q;exact s.al i p q f,g.al,λi a c h1 j=>?_⟩;exact(s.UO i a c h1 j).ev ev (λ_ _ h=>h) λo q=>d _ _ q
theorem StoOk.abT{p:OL}{o d:HO}(s:StoOk (aY B p) K H U ω)(f:H p=cL o):StoOk (aY B p) K (upd H p d) U ω:=by
 have ev:Ev (ow (aY B p) U ω) H (ow (aY B p) U ω) (upd H p d):=Ev.mut (.inl (.inr rfl)) d;have n:∀b,H b≠CL->upd H p d b≠CL:=λb h=>by
  by_cases z:b=p
  .subst z;rw[ay];simp
  .rw[au z];exact h
 refine⟨s.len,s.nd,λa h=>n a (s.bn a h),s.ba,λi a h=>n a (s.al i a h),λi a c h1 e=>(s.UO i a c h1 e).ev ev (λ_ _ h=>h) λu q=>?_⟩;have:a≠p:=λz=>s.ba p (.inr rfl) i (by rw[<-z];exact h1);rw[au this];exact q
theorem QN.dd{p:OL}{o:HO}(e:QN X ω1 T U ω H)(a:T p=CL):QN X ω1 T U ω (upd H p o):=⟨e.pre,λb u h n=>by rw[au (bB h a)];exact e.kp b u h n,e.lv⟩
theorem StoOk.Yt{p:OL}(s:StoOk (aY B p) K H U ω):StoOk B K H U ω:=
 ⟨s.len,s.nd,λa h=>s.bn a (.inl h),λa h=>s.ba a (.inl h),s.al,λi a c h1 d=>(s.UO i a c h1 d).ev (λb o h n=>⟨h,λy=>n (y.elim (λy=>.inl (.inl y)) .inr)⟩) (λ_ _ h=>h) λ_ h=>h⟩
theorem kI{own:cc Str}{fv:cc (Str×Nat)}{g:TG}{tc:TT}{te:TE}{gt:kR}{ft:lY}{fe:cI}{n:Nat}{fj:cc Nat}{J:It}{Q:VK}{ds:cc D}(hn:own.length=n)(hf:fv.map (·.2)=fj)
  (hg:yc K E g gt) (ht:sw K E tc ft) (he:c7 K E te fe) (s1:StoOk B K T X ω1) (XM:Ru (ow B X ω1) K T X M ρ) (it:oE K J (ow B X ω1) T ds) (w1:WS K E B T X ω1 (PQ B K Q) ((bu gt ft fe ds (fA n fj ρ) ω1 []).bind λxs Z=>.ok (.rf Z.length) (Z++[.lst xs]))):
  ∀D,T D=CL->sr J D (dP own fv M) g tc te T λH'=>Q (.ref D) H':=by
 intro l hD;have slc:Ru (ow B X ω1) K T X (dP own fv M) (fA n fj ρ):=CF hn hf XM;generalize qr:bu gt ft fe ds (fA n fj ρ) ω1 []=rr at w1;by_cases WD:rr=.bad
 .subst WD;exact w1.elim
 .
  have hB:¬B l:=λz=>s1.bn l z hD;have evH:∀{Y:cc OL} {Z:aG} {H':Hp},QN X ω1 T Y Z H'->Ev (ow B X ω1) T (ow (aY B l) Y Z) H':=λe b o h n=>⟨e.kp b o h λz=>n (.inr z),λz=>by
   rcases z with(z|z)|z
   .exact n (.inl z)
   .simp_all
   .exact(e.lv b z).elim (λq=>n (.inr q)) λq=>by simp_all⟩
  refine⟨λi m σ' H'=>m=ds.length - i/\i<=ds.length/\∃Y Z ρc acc ys,QN X ω1 T Y Z H'/\StoOk (aY B l) K H' Y Z/\Ru (ow (aY B l) Y Z) K H' Y σ' ρc/\H' l=cL (.lst ys)/\Rv (ow (aY B l) Y Z) K H' Y ys acc/\bu gt ft fe (ds.drop i) ρc Z acc=rr,
   ⟨_,rfl,P0 _,X,ω1,fA n fj ρ,[],[],QN.same (bE hD _),s1.hide hD,?_,ay,.nil,qr⟩,?_⟩
  .exact⟨slc.1,λj x hx=>let⟨v,h1,h2⟩:=slc.2 j x hx;⟨v,h1,h2.ev (evH (QN.same (bE hD _))) λ_ _ h=>h⟩⟩
  .rintro i m σ2 L ⟨rfl,hi,Y,Z,ρ2,acc,ys,e2,s2,Vb,hy,vy,f⟩
   obtain⟨go,stop⟩:=it (ow (aY B l) Y Z) L (evH e2) s2.Vt;by_cases SG:i<ds.length
   .obtain⟨g1,g2⟩:=go i SG
    refine .inr ⟨g1,λσ5 C=>i+1<=ds.length/\∃Y Z ρc acc ys,QN X ω1 T Y Z C/\StoOk (aY B l) K C Y Z/\Ru (ow (aY B l) Y Z) K C Y σ5 ρc/\C l=cL (.lst ys)/\Rv (ow (aY B l) Y Z) K C Y ys acc/\bu gt ft fe (ds.drop (i+1)) ρc Z acc=rr,
     λσ5 C ⟨h1,h2⟩=>⟨ds.length - (i+1),by ext,rfl,h1,h2⟩,λx P y=>?_⟩
    obtain⟨s3,d,hd,dv⟩:=g2 x P y;have ed:ds.drop i=d::ds.drop (i+1):=by obtain⟨_,q⟩:=OI.mp hd;rw[Ql SG,q]
    rw[ed]at f;unfold bu at f;have e3:QN Y Z L Y Z P:=QN.same s3;have kD:∀{αx αy:cc OL} {ωx ωy:aG} {Hx Hy:Hp} {o:HO},StoOk (aY B l) K Hx αx ωx->QN αx ωx Hx αy ωy Hy->Hx l=cL o->Hy l=cL o:=λsx ex h=>ex.kp _ _ h λ⟨i,c,q,_⟩=>sx.ba l (.inr rfl) i q;have u:∀{I:cc OL} {t:aG} {P:Hp} {z:Xc} {p:aG},QN X ω1 T I t P->RS.er z p=rr->∀c dx S H',QN I t P S p H'->StoOk (aY B l) K H' S p->XN K (ow (aY B l) S p) H' c dx z->E c dx H':=λ{I t P z p} e3 q c dx S H' e s' x'=>by subst q;exact w1 c dx S H' (e3.trans e) s'.Yt (XN.sub (λb y=>y.elim (λy=>.inl (.inl y)) .inr) x')
    refine hg (aY B l) σ2 P Y Z ρ2 x (.fz d) _ (s2.grow s3) (Vb.R9 e3) dv ?_;cases qg:gt (.fz d) ρ2 Z with
    |er z p=>rw[qg]at f;exact u (e2.trans e3) f
    |bad=>rw[qg]at f;exact WD f.symm
    |ok k F=>
     rw[qg]at f;intro α4 H4 e4 s4 σ4 Zb;refine ht (aY B l) σ4 H4 α4 F k _ s4 Zb ?_;have f:((ft k F).bind λb Z=>if b=OG then(fe k Z).bind λx t=>(if acc.length<1000000 then bu gt ft fe (ds.drop (i+1)) k t (acc++[x])else .bad)else bu gt ft fe (ds.drop (i+1)) k Z acc)=rr:=f;cases qt:ft k F with
     |er z p=>rw[qt]at f;exact u (e2.trans (e3.trans e4)) f
     |bad=>rw[qt]at f;exact WD f.symm
     |ok b w=>
      rw[qt]at f;intro α5 C e5 s5;have Vz:=Zb.R9 e5;have Z5:=e3.trans (e4.trans e5);cases b with
      |false=>have f:bu gt ft fe (ds.drop (i+1)) k w acc=rr:=f;exact⟨SG,α5,w,k,acc,ys,e2.trans Z5,s5,Vz,kD s2 Z5 hy,Rv.R9 Z5 vy,f⟩
      |true=>
       have f:((fe k w).bind λx t=>(if acc.length<1000000 then bu gt ft fe (ds.drop (i+1)) k t (acc++[x])else .bad))=rr:=f;rw[ai rfl];refine he (aY B l) σ4 C α5 w k _ s5 Vz ?_;cases qe:fe k w with
       |er z p=>rw[qe]at f;exact u (e2.trans Z5) f
       |bad=>rw[qe]at f;exact WD f.symm
       |ok x6 A=>
        rw[qe]at f;intro G H6 e6 s6 v6 hv6;have f:(if acc.length<1000000 then bu gt ft fe (ds.drop (i+1)) k A (acc++[x6])else .bad)=rr:=f;by_cases YJ:acc.length<1000000
        .rw[ai YJ]at f;have N:=Z5.trans e6;have hy6:H6 l=cL (.lst ys):=kD s2 N hy;have vy6:=Rv.R9 N vy;have em:Ev (ow (aY B l) G A) H6 (ow (aY B l) G A) (upd H6 l (.lst (ys++[v6]))):=Ev.mut (.inl (.inr rfl)) _;have sl6:=Vz.R9 e6;refine⟨ys,hy6,ri (by rw[vy6.length];exact YJ),SG,G,A,k,acc++[x6],ys++[v6],(e2.trans N).dd hD,s6.abT hy6,⟨sl6.1,λj x hx=>let⟨v,h1,h2⟩:=sl6.2 j x hx;⟨v,h1,h2.ev em λ_ _ h=>h⟩⟩,ay,vt (Paired.SE vy6 λ_ _ r=>r.ev em λ_ _ h=>h) (hv6.ev em λ_ _ h=>h),f⟩
        .rw[ak YJ]at f;exact cb f.symm WD
   .have e:i=ds.length:=by ext
    subst e;rw[QD (OJ _)]at f;have f:RS.ok acc Z=rr:=f;subst f;refine .inl ⟨stop,?_⟩;refine w1 (Y++[l]) L ⟨λi a h=>gX (e2.pre i a h),e2.kp,λb z=>(o3 s2.len z).elim (e2.lv b) λz=>.inr (by rw[z];exact hD)⟩ (s2.adopt hy vy hB) (.ref l) ⟨l,by rw[<-s2.len];exact aH,rfl⟩
theorem AY{A C:Type}{P:C->cc OL->aG->Hp->Prop}{r:RS A}{k:A->aG->C}{m:A->aG->aG}(w:WS K E B H U ω P ((gA r).bind λa o=>.ok (k a o) (m a o))):WS K E0 B H U ω P (r.bind λa o=>.ok (k a o) (m a o)):=by
 cases r with
 |ok a o=>exact w
 |er x o=>exact w.elim
 |bad=>exact w
theorem zI{own:cc Str}{e:cc (Str×Nat)}{a:TI}{g:TG}{b:TT}{te:TE}{f:Hc}{gt:kR}{ft:lY}{fe:cI}{n:Nat}{fj:cc Nat}(hn:own.length=n)(m:e.map (·.2)=fj)
  (hi:LF K E a f) (l:yc K E0 g gt) (k:sw K E0 b ft) (o:c7 K E0 te fe):c7 K E (mX own e a g b te) (r8 n fj f gt ft fe):=by
 intro B M H U ω ρ Q s d w;refine hi B M H U ω ρ _ s d (WS.imp (WS.bind w) λds X ω1 T e1 i h J j=>?_);exact kI hn m l k o i (d.R9 e1) j (AY h)
def jN(N:Nat)(g:fR):kh:=λxs ω=>(g (xs.map cL++ON (N - xs.length) CL) ω).bind λa ω1=>match a with
 |.rt x=>.ok x ω1
 |.nx _=>.ok (.fz .none) ω1
 |_=>.bad
theorem yK{N:cc Str}{vs:cc V}{xs:cc SV}(h:Rv O K H U vs xs):Ru O K H U (L2.start N vs) (xs.map cL++ON (N.length - xs.length) CL):=by
 have e:vs.length=xs.length:=Paired.length h;unfold L2.start;refine⟨by simp_all,λi x a=>?_⟩;by_cases hi:i<xs.length
 .rw[Pc (by simp_all),OT]at a
  cases q:xs[i]? with
  |none=>rw[q]at a;cases a
  |some d=>rw[q]at a;cases a;obtain⟨v,b,f⟩:=Br h q;refine⟨v,?_,f⟩;rw[Pc (by rw[OH,e];exact hi),OT,b];rfl
 .rw[Pn (by rw[OH];ext),Q5]at a;split at a<;>cases a
theorem Iz{N:cc Str}{vs:cc V}{xs:cc SV}{g:fR}{t:TS}{Q:VK}{n:Nat}(e:l6 K E t g)(h:x9 K n (jN N.length g) vs H Q E):t {nx:=λ_ H'=>Q .Se H',rt:=Q} (L2.start N vs) H:=by
 obtain⟨j,B,U,ω,xs,s,d,w⟩:=h;refine e B _ H U ω _ _ s (yK d) (WS.imp (WS.bind w) λf X ω1 T e1 b a=>?_);cases f with
 |rt x=>exact WS.now (E:=E) b a
 |nx ρ=>exact λM i=>WS.now (E:=E) b a .Se .Se
 |bk ρ=>exact a.elim
 |ct ρ=>exact a.elim
end
theorem NU{P:Pa}{w:Pz}{K:Bn}{mg:Str->cj OC}{base:Heap}{x a:Str}{st:Rk}{f:OL}{fd:Qx}{N ps:cc Str}{k n m:Nat}{g:fR}{d:kh}(F:Vk K x a st f fd)(S:Sa N ps (aw st))(hn:ps.length=n)(hm:N.length=m)(l:d=jN m g)
  (o:∀(b:OC) (A:Pp) (outer:cc Env) (s:OK) (H:Hp) (E:XK),RK k (A.deeper (P5 a (aw st) s.heap.objs.size f b))->
   ∃t,UY (iz jC P w K mg base N a (aw st) f b A outer s H E).Xp (cF st) t/\l6 K E t g):FnOk P w K mg base jC (k+1) f fd ps (x9 K n d):=by
 subst l hm;refine F.ok S (λvs H Q E h=>h.1.trans hn.symm) (λb A outer s H vs Q E j h=>?_);obtain⟨t,e,i⟩:=o b A outer s H E j;exact⟨t,e,Iz (xs:=[]) i h⟩
end L10
namespace L10
open PySem PySem.Spec PyProof.Rows L2 L3
def JU(p d:OL):HO:=.ext λh=>h.IsValuesView p d
theorem Lw(x:h.IsValuesView p d):Qt P w H h p (JU p d):=⟨x,let⟨o,a,_⟩:=x;⟨o,a⟩,λh1 e ⟨o,a,b⟩ k=>⟨o,k o a,b⟩⟩
end L10
namespace PySem
open Sem (wp)
namespace F
theorem sub_ae:isSubtype (.type "AttributeError") (.type "AttributeError")=pure OG:=by rw[isSubtype_type];kernel_rfl
end F
section
variable{prog:Pa}{w:Pz}{A:Pp}{E:OC->OK->Prop}{h:Heap}{g:Array Ux}{d:YL}{t:Nat}{Z:YQ}{a:OL}{o:Obj}
theorem tL{α:Type}{name f:Str}{Q:α->OK->Prop}{E:OC->OK->Prop}(hm:f.length<=Pd)(j:A.handled=CL)(i:∀e h' t',(∀b o,h.get? b=cL o->h'.get? b=cL o)->(⟨h',g,d,t',Z⟩:OK).TypeIs e "AttributeError"->E e ⟨h',g,d,t',Z⟩):
  wpAny (model prog w) A (raiseAttrError (.ref a) name f:Sem α) Q E ⟨h,g,d,t,Z⟩:=by
 have k:¬f.length>Pd:=Nat.not_lt.mpr hm;unfold raiseAttrError newExc newTuple
 repeat (any_goals (first|assumption|wp_step))
 refine Te (a:=OG) F.sub_ae ?_
 repeat (any_goals (first|assumption|wp_step))
 refine wpAny_raiseNew_none j (i _ _ _ (λb o e=>?_) ?_)
 .exact(c5 _ _ (ee (PN (c3 (c0 _ e))))).trans (c0 _ (c0 _ e))
 .exact⟨_,c6 _ (c4 _ rfl) rfl,rfl⟩
namespace F
theorem entry_upd_loop:entryFor table "dict.update.loop"=cL Pb.«dict.update.loop»:=entryFor_of_tree (by kernel_rfl)
theorem plain_upd_loop:plainId "dict.update.loop"=OG:=by decide+kernel
end F
end
end PySem
namespace L10
open PySem PySem.Spec PyProof.Rows L2 L3
inductive WE(K:Bn)(H:Hp):cc V->cc (jA×V)->Prop
 |nil:WE K H [] []
 |cons {q:OL} {k:jA} {v:V} {vs:cc V} {PL:cc (jA×V)}:Tj K H q [kV k,v]->WE K H vs PL->WE K H (.ref q::vs) ((k,v)::PL)
end L10
namespace L10
open PySem PyProof.Rows L2 L3
theorem JR:Qd "dict"=cL (.type "dict"):=by decide+kernel
section
variable{B O O':aN}{K:Bn}{E:XK}{H H' H1 H2:Hp}{Z α' α1 α2:cc OL}{ω ω' ω1 ω2:aG}{σ:L2.St}{ρ:aE}{v:V}
theorem rY(s:StoOk B K H Z ω)(a:H p=CL)(w:WS K E B H Z ω (PQ B K Q) (.ok (.rf ω.length) (ω++[c])))(d:∀e:QN Z ω H (Z++[p]) (ω++[c]) (upd H p o),WH (ow B (Z++[p]) (ω++[c])) K (upd H p o) (Z++[p]) p c):Q (.ref p) (upd H p o):=by have b:QL H (upd H p o):=bE a _;have e:QN Z ω H (Z++[p]) (ω++[c]) (upd H p o):=QN.UJ s.len b a;exact w _ _ e (s.UJ b a (by rw[ay];simp) (d e)) _ ⟨p,by rw[<-s.len];exact aH,rfl⟩
end
end L10
namespace L10
open PySem L2 L3
section
variable{B O O':aN}{K:Bn}{E:XK}{H H' H1 H2:Hp}{X Y U α2:cc OL}{ω Z ω1 ω2:aG}{σ:L2.St}{ρ:aE}{v:V}
theorem eG{l r:cc A}(h:(l++r)[i]?=cL y):l[i]?=cL y\/∃j,i=l.length+j/\r[j]?=cL y:=by
 by_cases hi:i<l.length
 .rw[Pc hi]at h;exact .inl h
 .rw[Pn (by ext)]at h;exact .inr ⟨i - l.length,by ext,h⟩
theorem DN{l r:cc A}{i:Nat}(h:l[i]?=cL y):(l++r)[i]?=cL y:=by rw[Pc (OI.mp h).1];exact h
theorem AD{l r:cc A}(h:r[i]?=cL y):(l++r)[l.length+i]?=cL y:=by rw[Pn (by ext),Ta];exact h
theorem Bq(f:X.length=ω.length)(h:Lv (X++ps) (ω++cs) b):Lv X ω b\/b∈ps:=by
 obtain⟨i,d,h1,e,a⟩:=h;rcases eG h1 with g1|⟨j,e1,g1⟩
 .rcases eG e with g2|⟨k,e2,g2⟩
  .exact .inl ⟨i,d,g1,g2,a⟩
  .have:=(OI.mp g1).1;ext
 .exact .inr (O9 g1)
theorem QN.UU(s:StoOk B K H X ω)(e:QL H H')(d:∀p∈ps,H p=CL):QN X ω H (X++ps) (ω++cs) H':=
 ⟨λi a h=>DN h,λb u q _=>e b u q,λb z=>(Bq s.len z).imp id λz=>d b z⟩
theorem StoOk.UU(s:StoOk B K H X ω)(e:QL H H')(f:∀p∈ps,H p=CL)(l:∀p∈ps,H' p≠CL)(nd:∀(i j:Nat) (a:OL),ps[i]?=cL a->ps[j]?=cL a->i=j)(r:ps.length=cs.length)
  (new:∀(i:Nat) (a:OL) (c:Cell),ps[i]?=cL a->cs[i]?=cL c->WH (ow B (X++ps) (ω++cs)) K H' (X++ps) a c):StoOk B K H' (X++ps) (ω++cs):=by
 have ev:QN X ω H (X++ps) (ω++cs) H':=QN.UU s e f;have n:∀b,H b≠CL->H' b≠CL:=λb h z=>h (e.free z);refine⟨by rw[OO,OO,s.len,r],λi j a h1 g=>?_,λa h=>n a (s.bn a h),λa h i q=>?_,λi a h=>?_,λi a d h1 g=>?_⟩
 .rcases eG h1 with g1|⟨i',e1,g1⟩<;>rcases eG g with g2|⟨j',e2,g2⟩
  .exact s.nd i j a g1 g2
  .exact cb (f a (O9 g2)) (s.al i a g1)
  .exact cb (f a (O9 g1)) (s.al j a g2)
  .have:=nd i' j' a g1 g2;ext
 .rcases eG q with q|⟨j,_,q⟩
  .exact s.ba a h i q
  .exact s.bn a h (f a (O9 q))
 .rcases eG h with h|⟨j,_,h⟩
  .exact n a (s.al i a h)
  .exact l a (O9 h)
 .have m:=s.len
  rcases eG g with g2|⟨j,e2,g2⟩
  .rcases eG h1 with g1|⟨k,e1,g1⟩
   .exact(s.UO i a d g1 g2).ev ev.ev ev.pre λo q=>e _ _ q
   .have:=(OI.mp g2).1;ext
  .rcases eG h1 with g1|⟨k,e1,g1⟩
   .have:=(OI.mp g1).1;ext
   .have:k=j:=by ext
    subst this;exact new k a d g1 g2
def Cm(Z:aG):Nat->cc AV->cj (cc AV×cc (cc D)×cc Nat)
 |_,[]=>cL ([],[],[])
 |n,.fz d::r=>match Cm Z n r with
  |some (l,cs,js)=>cL (.fz d::l,cs,js)
  |none=>CL
 |n,.rf i::r=>match sh Z (.rf i)with
  |some (.list ds)=>(match Cm Z (n+1) r with
   |some (l,cs,js)=>cL (.rf n::l,ds::cs,i::js)
   |none=>CL)
  |_=>CL
def Mz(ds:cc D):Cell:=.lst (ds.map .fz)
def hV(x:SV)(Z ω:aG):RS SV:=match x with
 |.fz d=>.ok (.fz d) ω
 |.rf i=>(match sh Z (.rf i)with
  |some (.list ds)=>fS ω (.ow ds)
  |_=>.bad)
 |.tp l=>(match Cm Z ω.length l with
  |some (l',cs,js)=>if js.Nodup then .ok (.tp l') (ω++cs.map Mz)else .bad
  |none=>.bad)
theorem pM(h:sh ω (.rf i)=cL (.list ds)):∃xs,ω[i]?=cL (.lst xs)/\aq ms xs=cL ds:=by
 unfold sh at h;dsimp only at h;cases q:ω[i]? with
 |none=>rw[q]at h;cases h
 |some c=>
  rw[q]at h;cases c with
  |lst xs=>
   dsimp only at h;cases q2:aq ms xs with
   |none=>rw[q2]at h;cases h
   |some es=>rw[q2]at h;cases h;exact⟨xs,rfl,q2⟩
  |_=>cases h
theorem iK(s:StoOk B K H X ω)(h:sh ω (.rf i)=cL (.list ds)):∃a vs,X[i]?=cL a/\H a=cL (.lst vs)/\L3.QC (ow B X ω) K H vs ds/\ow B X ω a:=by obtain⟨xs,b,d⟩:=pM h;obtain⟨a,ha⟩:=s.at b;obtain⟨vs,h1,f⟩:=s.UO i a _ ha b;exact⟨a,vs,ha,h1,jP (cu (R:=Sl (ow B X ω) K H X) (λv x y r e=>Ai r e) f d),.inr ⟨i,_,ha,b,by intro z;cases z⟩⟩
theorem KC{m:aN}(s:StoOk m K H' Y Z):∀{n:Nat} {l o:cc AV} {cs:cc (cc D)} {g:cc Nat} {xs:cc V},Cm Z n l=cL (o,cs,g)->Paired (W4 (ow m Y Z) K H' Y) xs l->
  ∃ps:cc OL,ps.length=g.length/\cs.length=g.length/\(∀(k j:Nat),g[k]?=cL j->∃a ds vs,ps[k]?=cL a/\cs[k]?=cL ds/\Y[j]?=cL a/\H' a=cL (.lst vs)/\L3.QC (ow m Y Z) K H' vs ds/\ow m Y Z a)/\
   ∀(b:cc OL),b.length=n->Paired (W4 (ow m Y Z) K H' (b++ps)) xs o:=by
 intro n l o cs g xs e p
 induction p generalizing n o cs g with
 |nil=>cases e;exact⟨[],rfl,rfl,λk j h=>by simp at h,λb _=>.nil⟩
 | @cons _ x _ r h t ih=>
  cases x with
  |fz d=>
   unfold Cm at e;cases q:Cm Z n r with
   |none=>rw[q]at e;cases e
   |some p=>obtain⟨l1,C,u⟩:=p;rw[q]at e;cases e;obtain⟨ps,h1,A,z,w⟩:=ih q;exact⟨ps,h1,A,z,λb f=>.cons h (w b f)⟩
  |rf i=>
   unfold Cm at e;cases qs:sh Z (.rf i)with
   |none=>rw[qs]at e;cases e
   |some d=>
    rw[qs]at e;cases d with
    |list ds=>
     dsimp only at e;cases q:Cm Z (n+1) r with
     |none=>rw[q]at e;cases e
     |some p=>
      obtain⟨l1,C,u⟩:=p;rw[q]at e;cases e;obtain⟨ps,h1,A,z,w⟩:=ih q;obtain⟨a,vs,ha,I,L,J⟩:=iK s qs;refine⟨a::ps,by rw[OQ,OQ,h1],by rw[OQ,OQ,A],λk j F=>?_,λb f=>?_⟩
      .cases k with
       |zero=>cases F;exact⟨a,ds,vs,rfl,rfl,ha,I,L,J⟩
       |succ k=>exact z k j (by simpa using F)
      .have e2:b++a::ps=(b++[a])++ps:=by simp
       obtain⟨M,G,rfl⟩:=h;rw[ha]at G;cases G;refine .cons ⟨a,by rw[<-f];exact AD (l:=b) (r:=a::ps) (i:=0) rfl,rfl⟩ ?_;rw[e2];exact w (b++[a]) (by rw[OO,f];rfl)
    |_=>cases e
theorem hW(s:StoOk B K H X ω)(w:WS K E B H X ω (PQ B K Q) (hV x Z ω))(e':QN [] [] H Y Z H')(F:StoOk (ow B X ω) K H' Y Z)(I:Sl (ow (ow B X ω) Y Z) K H' Y v x):Q v H':=by
 have C:=λb o h=>e'.kp b o h λ⟨i,c,q,_⟩=>by simp at q
 have sub:∀b,ow B X ω b->ow (ow B X ω) Y Z b:=λb z=>.inl z;have fr:=λi a c h1 h2 h3=>(e'.lv a ⟨i,c,h1,h2,h3⟩).elim (λ⟨i,c,q,_⟩=>by simp at q) id;cases x with
 |fz d=>exact w X H' (QN.same C) (s.grow C) v (DV.ev (Ev.sub sub) I)
 |rf i=>
  unfold hV at w;dsimp only at w;cases qs:sh Z (.rf i)with
  |none=>rw[qs]at w;exact w.elim
  |some d=>
   rw[qs]at w;cases d with
   |list ds=>obtain⟨a,vs,ha,h1,hd,L⟩:=iK F qs;obtain⟨xs,e,_⟩:=pM qs;obtain⟨a',Vj,rfl⟩:=I;rw[ha]at Vj;cases Vj;exact kU s w C (fr i a _ ha e (by nofun)) h1 hd sub L
   |_=>exact w.elim
 |tp l=>
  unfold hV at w;dsimp only at w;cases qg:Cm Z ω.length l with
  |none=>rw[qg]at w;exact w.elim
  |some p=>
   obtain⟨l',cs,G⟩:=p;rw[qg]at w;dsimp only at w;by_cases hn:G.Nodup
   .rw[ai hn]at w
    obtain⟨a,xs,rfl,ht,hl⟩:=I;obtain⟨ps,g1,g2,g3,g4⟩:=KC F qg hl;have A:∀(k:Nat) (b:OL),ps[k]?=cL b->∃j ds vs,G[k]?=cL j/\cs[k]?=cL ds/\Y[j]?=cL b/\H' b=cL (.lst vs)/\L3.QC (ow (ow B X ω) Y Z) K H' vs ds/\ow (ow B X ω) Y Z b:=λk b hb=>by
     have f:k<G.length:=by rw[<-g1];exact(OI.mp hb).1
     obtain⟨b',ds,vs,e,u,t,m,n,g⟩:=g3 k _ (OY f);rw[hb]at e;cases e;exact⟨_,ds,vs,OY f,u,t,m,n,g⟩
    have nB:∀(j:Nat) (b:OL),Y[j]?=cL b->ow (ow B X ω) Y Z b->H b=CL:=λj b M L=>by
     rcases L with z|⟨i,c,z1,z2,z3⟩
     .exact cb M (F.ba b z j)
     .exact fr i b c z1 z2 z3
    have fp:∀p∈ps,H p=CL:=λp J=>by obtain⟨k,f⟩:=Sb.mp J;obtain⟨j,ds,vs,e,u,t,m,n,g⟩:=A k p f;exact nB j p t g
    have P:∀b,ow B (X++ps) (ω++cs.map Mz) b->ow (ow B X ω) Y Z b:=λb z=>by
     rcases z with z|z
     .exact .inl (.inl z)
     .rcases Bq s.len z with z|z
      .exact .inl (.inr z)
      .obtain⟨k,f⟩:=Sb.mp z;obtain⟨j,ds,vs,e,u,t,m,n,g⟩:=A k b f;exact g
    have ev:=QN.UU (cs:=cs.map Mz) s C fp;refine w (X++ps) H' ev (s.UU C fp (λp J=>?_) (λi j b hi M=>?_) (by rw[OH,g1,g2]) λi b c hi T=>?_) (.ref a) ⟨a,xs,rfl,ht.ev (Ev.sub P),Paired.SE (g4 X s.len) λ_ _ r=>r.ev (Ev.sub P) λ_ _ h=>h⟩
    .obtain⟨k,f⟩:=Sb.mp J;obtain⟨j,ds,vs,e,u,t,m,n,g⟩:=A k p f;rw[m];simp
    .obtain⟨j1,_,_,S,_,p3,_⟩:=A i b hi;obtain⟨j2,_,_,r1,_,r3,_⟩:=A j b M;have:=F.nd j1 j2 b p3 r3;subst this;have N:=(OI.mp S).1;exact(List.getElem?_inj N hn).mp (S.trans r1.symm)
    .obtain⟨j,ds,vs,e,u,t,m,n,g⟩:=A i b hi;rw[OT,u]at T;cases T;exact⟨vs,m,jH _ _ (n.ev (Ev.sub P))⟩
   .rw[ak hn]at w;exact w.elim
def mR(F:kh)(n:Nat)(xs:cc SV)(ω:aG):RS SV:=if xs.length=n then(match aq ms xs with
 |some ds=>(match F (ds.map .fz) []with
  |.ok x Z=>hV x Z ω
  |.er x _=>.er x ω
  |.bad=>.bad)
 |none=>.bad)else .bad
def ji(F:kh)(n:Nat)(fa:x4):cI:=λρ ω=>(fa ρ ω).bind λxs ω1=>gA (mR F n xs ω1)
theorem Bu(h:∀a,B a->H a≠CL):StoOk B K H [] []:=⟨rfl,λi j a h=>by simp at h,h,λa h i=>by simp,λi a h=>by simp at h,λi a c h=>by simp at h⟩
theorem iZ:∀{xs:cc SV} {ds:cc D},aq ms xs=cL ds->xs=ds.map .fz
 |[],_,e=>by cases e;rfl
 |x::r,ds,e=>by
  unfold aq at e;cases x with
  |fz d=>
   dsimp only[ms]at e;cases q:aq ms r with
   |none=>rw[q]at e;cases e
   |some es=>rw[q]at e;cases e;rw[OM,<-iZ q]
  |rf i=>cases e
  |tp l=>cases e
theorem yk(s:StoOk B K H X ω)(a:Rv (ow B X ω) K H X vs xs)(w:WS K E B H X ω (PQ B K Q) (mR F n xs ω)):x9 K n F vs H Q E:=by
 unfold mR at w;by_cases hn:xs.length=n
 .rw[ai hn]at w
  refine⟨a.length.trans hn,?_⟩;cases q:aq ms xs with
  |none=>rw[q]at w;exact w.elim
  |some ds=>
   rw[q]at w;dsimp only at w;have g:=iZ q;refine⟨ow B X ω,[],[],ds.map .fz,Bu s.owd,?_,?_⟩
   .rw[g]at a;exact jH _ _ ((nH a).ev (Ev.sub λb z=>z.elim id λ⟨i,c,q,_⟩=>by simp at q))
   .cases qF:F (ds.map .fz) []with
    |bad=>rw[qF]at w;exact w.elim
    |ok x Z=>rw[qF]at w;exact λY H' d f v j=>hW s w d f j
    |er x Z=>
     rw[qF]at w;intro c dx Y H' d f k;have e:=λb o h=>d.kp b o h λ⟨i,c,q,_⟩=>by simp at q
     exact w c dx X H' (QN.same e) (s.grow e) (XN.sub (λb z=>.inl z) k)
 .rw[ak hn]at w;exact w.elim
theorem xi(ha:FB K E ta fa):c7 K E (nk (x9 K n F) [] E0 ta) (ji F n fa):=by intro B σ H X ω ρ Q s b w;refine ha B σ H X ω ρ _ s b (w.bind.imp λxs U ω1 H1 e1 d a vs e=>?_);rw[Pu];exact yk d e (WS.e0 a)
def LI(F:kh):FN:=λds=>match F (ds.map .fz) []with
 |.ok (.fz d) _=>.ok (.fz d)
 |.ok (.rf i) ω=>(match sh ω (.rf i)with
  |some (.list ds)=>.ok (.ow ds)
  |_=>.bad)
 |.ok (.tp _) _=>.bad
 |.er x _=>.er x
 |.bad=>.bad
theorem JJ(h:xF K n (LI F) vs H Q E):x9 K n F vs H Q E:=by
 obtain⟨u,B,ds,C,G,w⟩:=h;refine⟨u,B,[],[],ds.map .fz,Bu C,jH _ _ (G.ev (Ev.sub λb z=>z.elim id λ⟨i,c,q,_⟩=>by simp at q)),?_⟩;unfold LI at w;cases qF:F (ds.map .fz) []with
 |bad=>rw[qF]at w;exact w.elim
 |er x Z=>rw[qF]at w;intro c dx Y H' e g k;exact w c dx H' (λb o h=>e.kp b o h λ⟨i,c,q,_⟩=>by simp at q) (XN.sub (λb z=>.inl z) k)
 |ok x Z=>
  rw[qF]at w;intro Y H' e g v j;have f:=λb o h=>e.kp b o h λ⟨i,c,q,_⟩=>by simp at q
  cases x with
  |fz d=>exact w v H' f (DV.ev (Ev.sub λb z=>.inl z) j)
  |tp l=>exact w.elim
  |rf i=>
   dsimp only at w;cases qs:sh Z (.rf i)with
   |none=>rw[qs]at w;exact w.elim
   |some d=>
    rw[qs]at w;cases d with
    |list es=>obtain⟨a,p,ha,h1,A,t⟩:=iK g qs;obtain⟨xs,r,_⟩:=pM qs;obtain⟨I,m,rfl⟩:=j;rw[ha]at m;cases m;refine w a p H' f ((e.lv a ⟨i,_,ha,r,by intro z;cases z⟩).elim (λ⟨i,c,q,_⟩=>by simp at q) id) h1 (A.ev (Ev.sub λb z=>z.elim (λz=>.inl z) λz=>by rw[z];exact t))
    |_=>exact w.elim
end
def HF(P:Pa)(w:Pz)(K:Bn)(mg:Str->cj OC)(base:Heap)(a:pY)(k:Nat)(C m:Str)(ps:cc Str)(sp:Sp):Prop:=
 ∃Ca f fd,Qr K PK C=cL (cL (.ref Ca))/\Cls K Ca/\Meth K Ca m f/\FnOk P w K mg base a k f fd ps sp/\Binds K fd ps []
def F9(P:Pa)(w:Pz)(K:Bn)(mg:Str->cj OC)(base:Heap)(a:pY)(k:Nat)(C:Str)(ps:cc Str)(sp:Sp):Prop:=
 ∃Ca f fd,Qr K PK C=cL (cL (.ref Ca))/\mg C=cL (.ref Ca)/\Mk K Ca f/\FnOk P w K mg base a k f fd ps sp/\Binds K fd ps []
section
variable{ρ ρ1 ρ2:aE}{ω ω1 Z Y ω4:aG}{x y z:SV}{i n:Nat}{d dx dy:D}{ds:cc D}{b:Bool}
theorem bh(h:ρ[i]?=cL (cL x)):bA i ρ ω=.ok x ω:=by unfold bA;rw[h]
theorem aL(h:f (dI ρ)=.ok (.fz d,ρ')):aD f ρ ω=.ok (.fz d) ω:=by unfold aD;rw[h]
theorem lO(h:f (dI ρ)=.ok (.ow ds,ρ')):aD f ρ ω=.ok (.rf ω.length) (ω++[.lst (ds.map .fz)]):=by unfold aD;rw[h];rfl
theorem qE(h:f (dI ρ)=.ok (b,ρ')):mL f ρ ω=.ok b ω:=by unfold mL;rw[h]
theorem qZ(h:f (dI ρ)=.ok (ds,ρ')):j6 f ρ ω=.ok ds ω:=by unfold j6;rw[h]
theorem sg(ha:fa ρ ω=.ok x ω1)(hb:fb ρ ω1=.ok y Z)(a:qG f x y Z=.ok z Y):yG f fa fb ρ ω=.ok z Y:=by unfold yG;rw[ha,eN,hb,eN,a]
theorem yD(h:f dx dy=cL (.fz d)):qG f (.fz dx) (.fz dy) ω=.ok (.fz d) ω:=by unfold qG;show((RS.Qf ω (f dx dy)).bind λrv ω1=>fS ω1 rv)=_;rw[h];rfl
theorem sG(e:sh ω x=cL dx)(a:sh ω y=cL dy)(h:f dx dy=cL (.fz d)):qG f x y ω=.ok (.fz d) ω:=by unfold qG;rw[e,a];show((RS.Qf ω (f dx dy)).bind λrv ω1=>fS ω1 rv)=_;rw[h];rfl
theorem jr:∀ds:cc D,aq ms (ds.map .fz)=cL ds
 |[]=>rfl
 |d::r=>by rw[OM];unfold aq;rw[jr r];rfl
theorem gW(h:ω[i]?=cL (.lst (ds.map .fz))):sh ω (.rf i)=cL (.list ds):=by unfold sh;dsimp only;rw[h];dsimp only;rw[jr];rfl
theorem dW(h:fa ρ ω=.ok (.fz (.bool b)) ω1):d5 fa ρ ω=.ok b ω1:=by unfold d5;rw[h];rfl
theorem rC(h:fa ρ ω=.ok OP ω1)(k:fb ρ ω1=r):JT fa fb ρ ω=r:=by unfold JT;rw[h,eN,ak OX,k]
theorem oO(h:fa ρ ω=.ok b ω1):wO fa ρ ω=.ok (!b) ω1:=by unfold wO;rw[h];rfl
theorem eC:iB ρ ω=.ok [] ω:=rfl
theorem bN(ha:fa ρ ω=.ok x ω1)(a:fr ρ ω1=.ok xs Z):cY fa fr ρ ω=.ok (x::xs) Z:=by unfold cY;rw[ha,eN,a,eN]
theorem Fv(ha:fa ρ ω=.ok xs ω1)(a:aq (sh ω1) xs=cL ds)(h:f ds=cL (.fz d)):BF f fa ρ ω=.ok (.fz d) ω1:=by unfold BF;rw[ha,eN];unfold Dz;rw[a];show((RS.Qf ω1 (f ds)).bind λrv ω1=>fS ω1 rv)=_;rw[h];rfl
theorem qS:gA (RS.ok a ω)=.ok a ω:=rfl
theorem Ia(a:fo ρ ω=.ok (.rf i) ω1)(h1:ω1[i]?=cL (.lst xs))(f:fe ρ ω1=.ok x Z)(g:Z[i]?=cL (.lst ys))(e:ys.length<1000000):Bo fo fe ρ ω=.ok (.fz .none) (Z.set i (.lst (ys++[x]))):=by
 have e1:gR ω1 (.rf i)=cL (i,xs):=by unfold gR;dsimp only;rw[h1]
 have e2:gR Z (.rf i)=cL (i,ys):=by unfold gR;dsimp only;rw[g]
 unfold Bo;rw[a,eN,e1];show((fe ρ ω1).bind _)=_;rw[f,eN,e2];show(if ys.length<1000000 then _ else _)=_;rw[ai e]
variable{fl:YC}{r:RS YC}
theorem IG(h:f ρ ω=.ok (.nx ρ1) ω1)(k:g ρ1 ω1=r):bC f g ρ ω=r:=by unfold bC;rw[h,eN];exact k
theorem Ae(h:f ρ ω=.ok x ω1):jR f ρ ω=.ok (.rt x) ω1:=by unfold jR;rw[h];rfl
theorem Ef(h:f ρ ω=.ok x ω1):je f ρ ω=.ok (.nx ρ) ω1:=by unfold je;rw[h];rfl
theorem GB(h:f ρ ω=.ok x ω1)(e:ρ.set i (cL x)=ρ1):fQ f (jB i) ρ ω=.ok (.nx ρ1) ω1:=by subst e;unfold fQ;rw[h];rfl
theorem IB(h:f ρ ω=.ok x ω1)(k:frz 4 ω1 x=cL (d,Z)):sB f ρ ω=.ok (.fz d) Z:=by unfold sB;rw[h,eN];unfold G5;rw[k]
theorem G4(e:xs.map cL++ON (N - xs.length) CL=ρ)(h:g ρ ω=.ok (.rt x) ω1):jN N g xs ω=.ok x ω1:=by subst e;unfold jN;rw[h];rfl
end
section
variable{ρ ρ1 ρ2:aE}{ω ω1 Z ω3 ω4:aG}{x y z:SV}{i n:Nat}{d dx dy:D}{ds:cc D}{b:Bool}
theorem nu(e:α->D)(f:α->SV)(ω:aG)(I:aE->Prop):∀(xs:cc α) (ρ:aE) (acc:cc SV),I ρ->acc.length+xs.length<=1000000->(∀x∈xs,∀ρ,I ρ->∃ρ',gt (.fz (e x)) ρ ω=.ok ρ' ω/\ft ρ' ω=.ok OG ω/\fe ρ' ω=.ok (f x) ω/\I ρ')->bu gt ft fe (xs.map e) ρ ω acc=.ok (acc++xs.map f) ω
 |[],ρ,acc,_,_,_=>by show RS.ok acc ω=_;rw[Pq,Pu]
 |x::r,ρ,acc,h0,hl,hs=>by obtain⟨ρ',h1,j,h,g⟩:=hs x O0 ρ h0;rw[OQ]at hl;show((gt (.fz (e x)) ρ ω).bind _)=_;rw[h1,eN,j,eN,ai rfl,h,eN,ai (by ext),nu e f ω I r ρ' _ g (by rw[OO,P8];ext) λy a=>hs y (OV _ a),Pj];rfl
theorem DZ(hi:fi ρ ω=.ok ds ω1)(a:bu gt ft fe ds (fA n fj ρ) ω1 []=.ok xs Z):r8 n fj fi gt ft fe ρ ω=.ok (.rf Z.length) (Z++[.lst xs]):=by unfold r8;rw[hi,eN,a,qS,eN]
theorem uR(m:Nat):∀(ds:cc D),l9 (frz m) ω (ds.map .fz)=cL (ds,ω)
 |[]=>rfl
 |d::r=>by rw[OM];unfold l9;rw[show frz m ω (.fz d)=cL (d,ω) by cases m<;>rfl];dsimp only;rw[uR m r]
theorem wj(h:ω[i]?=cL (.lst (ds.map .fz))):frz 4 ω (.rf i)=cL (.list ds,ω.set i .dead):=by unfold frz;rw[h];dsimp only;rw[uR]
theorem Im(h:fe ρ ω=.ok (.rf i) ω1)(a:ω1[i]?=cL (.lst (ds.map .fz))):sj fe ρ ω=.ok ds (ω1.set i .dead):=by unfold sj;rw[h,eN,wj a];rfl
def KN(N C:aE->aG->Prop)(T:SV->aG->Prop):RS YC->Prop
 |.ok (.nx ρ) ω=>N ρ ω
 |.ok (.ct ρ) ω=>C ρ ω
 |.ok (.rt v) ω=>T v ω
 |_=>False
structure Sk(r:RS YC)(N C:aE->aG->Prop)(T:SV->aG->Prop):Prop where
 out:KN N C T r
variable{f g:fR}{fe:cI}{N C:aE->aG->Prop}{T:SV->aG->Prop}
theorem Sk.eq(e:r=r')(h:Sk r' N C T):Sk r N C T:=by rw[e];exact h
theorem Sk.imp(h:Sk r N C T)(e:∀ρ ω,N ρ ω->N' ρ ω)(j:∀ρ ω,C ρ ω->C' ρ ω)(a:∀v ω,T v ω->T' v ω):Sk r N' C' T':=by
 refine⟨?_⟩;have h:=h.out;cases r with
 |bad=>exact h
 |er x ω=>exact h
 |ok k ω=>
  cases k with
  |nx r=>exact e _ _ h
  |ct r=>exact j _ _ h
  |rt v=>exact a _ _ h
  |bk r=>exact h
theorem iJ(h:Sk (f ρ ω) (λr o=>Sk (g r o) N C T) C T):Sk (bC f g ρ ω) N C T:=by
 refine⟨?_⟩;have h:=h.out;unfold bC;cases q:f ρ ω with
 |bad=>rw[q]at h;exact h.elim
 |er x o=>rw[q]at h;exact h.elim
 |ok a o=>
  rw[q]at h;cases a with
  |nx r=>exact(show Sk (g r o) N C T from h).out
  |ct r=>exact h
  |rt v=>exact h
  |bk r=>exact h.elim
theorem F5(h:c ρ ω=.ok b ω1)(a:b=OG->Sk (f ρ ω1) N C T)(e:b=OP->Sk (g ρ ω1) N C T):Sk (ja c f g ρ ω) N C T:=by
 unfold ja;rw[h,eN];cases b with
 |true=>exact a rfl
 |false=>exact e rfl
theorem Ib(e:c ρ ω=.ok OP ω1)(a:Sk (g ρ ω1) N C T):Sk (ja c f g ρ ω) N C T:=F5 e (λh=>by cases h) λ_=>a
theorem yO(e:fe ρ ω=.ok x ω1)(a:gt x ρ ω1=.ok ρ1 Z)(h:N ρ1 Z):Sk (fQ fe gt ρ ω) N C T:=by refine⟨?_⟩;unfold fQ;rw[e,eN,a,eN];exact h
theorem yY(a:f ρ ω=.ok (.nx ρ1) ω1)(h:N ρ1 ω1):Sk (f ρ ω) N C T:=⟨by rw[a];exact h⟩
theorem LA(a:f ρ ω=.ok (.rt x) ω1)(h:T x ω1):Sk (f ρ ω) N C T:=⟨by rw[a];exact h⟩
theorem uA(a:fe ρ ω=.ok x ω1)(h:N ρ ω1):Sk (je fe ρ ω) N C T:=yY (Ef a) h
theorem sV(a:fe ρ ω=.ok x ω1)(h:T x ω1):Sk (jR fe ρ ω) N C T:=LA (Ae a) h
theorem nY(h:N ρ ω):Sk (jz ρ ω) N C T:=⟨h⟩
theorem ej{gt:kR}(e:fe ρ ω=.ok x ω1)(a:gt x ρ ω1=.ok ρ1 Z)(h:Sk (g ρ1 Z) N C T):Sk (bC (fQ fe gt) g ρ ω) N C T:=iJ (yO e a h)
theorem J9(a:f ρ ω=.ok (.nx ρ1) ω1)(h:Sk (g ρ1 ω1) N C T):Sk (bC f g ρ ω) N C T:=iJ (yY a h)
theorem vT(a:fe ρ ω=.ok x ω1)(h:Sk (g ρ ω1) N C T):Sk (bC (je fe) g ρ ω) N C T:=iJ (uA a h)
theorem K7{h a:fR}(l:c ρ ω=.ok b ω1)(j:b=OG->Sk (bC h g ρ ω1) N C T)(k:b=OP->Sk (bC a g ρ ω1) N C T):Sk (bC (ja c h a) g ρ ω) N C T:=by
 have e:bC (ja c h a) g ρ ω=if b=OG then bC h g ρ ω1 else bC a g ρ ω1:=by unfold bC ja;rw[l,eN];cases b<;>rfl
 refine .eq e ?_;cases b with
 |true=>exact j rfl
 |false=>exact k rfl
theorem uc{k a:fR}(j:c ρ ω=.ok OP ω1)(e:Sk (bC a g ρ ω1) N C T):Sk (bC (ja c k a) g ρ ω) N C T:=K7 j (λh=>by cases h) λ_=>e
theorem o8(h:Sk (g ρ ω) N C T):Sk (bC jz g ρ ω) N C T:=iJ (nY h)
theorem n5{b:fR}(I:Nat->aE->aG->Prop):∀(ds:cc D) (k:Nat) (ρ:aE) (ω:aG),I k ρ ω->(∀i d ρ ω,ds[i]?=cL d->I (k+i) ρ ω->∃ρ1 ω1,gt (.fz d) ρ ω=.ok ρ1 ω1/\Sk (b ρ1 ω1) (I (k+i+1)) (I (k+i+1)) T)->Sk (fq gt b ds ρ ω) (I (k+ds.length)) C T
 |[],k,ρ,ω,h0,_=>⟨h0⟩
 |d::r,k,ρ,ω,h0,hs=>by
  obtain⟨ρ1,ω1,h1,a⟩:=hs 0 d ρ ω rfl h0;have a:=a.out;have m:∀l j,I (k+1) l j->Sk (fq gt b r l j) (I (k+(r.length+1))) C T:=λl j h=>by
   have e:k+(r.length+1)=k+1+r.length:=by ext
   rw[e];refine n5 I r (k+1) l j h λi w A p hi t=>?_;have e:k+1+i=k+(i+1):=by ext
   rw[e]at t⊢;exact hs (i+1) w A p (by simpa using hi) t
  refine⟨?_⟩;show KN _ _ _ ((gt (.fz d) ρ ω).bind _);rw[h1,eN];cases q:b ρ1 ω1 with
  |bad=>rw[q]at a;exact a.elim
  |er x o=>rw[q]at a;exact a.elim
  |ok u o=>
   rw[q]at a;cases u with
   |nx r=>exact(m _ _ a).out
   |ct r=>exact(m _ _ a).out
   |rt v=>exact a
   |bk r=>exact a.elim
theorem yt{b:fR}(I:Nat->aE->aG->Prop)(hi:fi ρ ω=.ok ds ω1)(h0:I 0 ρ ω1)(a:∀i d ρ ω,ds[i]?=cL d->I i ρ ω->∃ρ1 ω1,gt (.fz d) ρ ω=.ok ρ1 ω1/\Sk (b ρ1 ω1) (I (i+1)) (I (i+1)) T)(e:∀ρ' ω',I ds.length ρ' ω'->N ρ' ω'):Sk (wV fi gt b ρ ω) N C T:=by have:=n5 (C:=C) I ds 0 ρ ω1 h0 (by simpa using a);rw[Sq]at this;refine .eq ?_ (this.imp e (λ_ _ h=>h) λ_ _ h=>h);unfold wV;rw[hi,eN]
theorem o9(a:xs.map cL++ON (n - xs.length) CL=ρ)(h:Sk (g ρ ω) (λ_ ω'=>T (.fz .none) ω') (λ_ _=>False) T):∃x ω',jN n g xs ω=.ok x ω'/\T x ω':=by
 have h:=h.out;unfold jN;rw[a];cases q:g ρ ω with
 |bad=>rw[q]at h;exact h.elim
 |er x o=>rw[q]at h;exact h.elim
 |ok e o=>
  rw[q]at h;cases e with
  |nx r=>exact⟨_,_,rfl,h⟩
  |ct r=>exact h.elim
  |rt v=>exact⟨_,_,rfl,h⟩
  |bk r=>exact h.elim
end
end L10
namespace L10
open PySem PyProof.Rows L2 L3
section
variable{O Z:aN}{K:Bn}{H H':Hp}{a b:OL}{xs:cc V}{Y:Heap->Prop}
def B4(a:OL)(O:aN)(H:Hp)(Z:aN)(H':Hp):Prop:=∀b o,b≠a->H b=cL o->¬O b->H' b=cL o/\¬Z b
theorem UZ.Uj(f:H a=cL (.ext Y))(h:UZ O K H b xs)(e:B4 a O H Z H'):UZ Z K H' b xs:=by
 obtain⟨h,k⟩:=h;by_cases z:O b
 .exact⟨Su.same (il H') (k z),λ_=>k z⟩
 .rcases h with(h|⟨o,h⟩)|h
  .obtain⟨h1,d⟩:=e b _ (λy=>by rw[y,f]at h;cases h) h z;exact⟨.inl (.inl h1),λy=>cb y d⟩
  .obtain⟨h1,d⟩:=e b _ (λy=>by rw[y,f]at h;cases h) h z;exact⟨.inl (.inr ⟨o,h1⟩),λy=>cb y d⟩
  .exact⟨.inr h,λ_=>.inr h⟩
theorem TU.Uj(f:H a=cL (.ext Y))(h:TU O K H b xs)(e:B4 a O H Z H'):TU Z K H' b xs:=by
 obtain⟨h,k⟩:=h;by_cases z:O b
 .exact⟨(il H').tup (k z),λ_=>k z⟩
 .rcases h with(h|⟨o,h⟩)|h
  .obtain⟨h1,d⟩:=e b _ (λy=>by rw[y,f]at h;cases h) h z;exact⟨.inl (.inl h1),λy=>cb y d⟩
  .obtain⟨h1,d⟩:=e b _ (λy=>by rw[y,f]at h;cases h) h z;exact⟨.inl (.inr ⟨o,h1⟩),λy=>cb y d⟩
  .exact⟨.inr h,λ_=>.inr h⟩
mutual
theorem DV.Uj(f:H a=cL (.ext Y))(e:B4 a O H Z H'):∀{v:V} {d:D},L3.DV O K H v d->L3.DV Z K H' v d
 |_,_,.Se=>.Se
 |_,_,.bl b=>.bl b
 |_,_,.int i=>.int i
 |_,_,.str x=>.str x
 |_,_,.tup h hs=>.tup (TU.Uj f h e) (QC.Uj f e hs)
 |_,_,.lst h hs=>.lst (UZ.Uj f h e) (QC.Uj f e hs)
theorem QC.Uj(d:H a=cL (.ext Y))(e:B4 a O H Z H'):∀{vs:cc V} {ds:cc D},L3.QC O K H vs ds->L3.QC Z K H' vs ds
 |_,_,.nil=>.nil
 |_,_,.cons h hs=>.cons (DV.Uj d e h) (QC.Uj d e hs)
end
end
section
variable{B O U:aN}{K:Bn}{E:XK}{H H' T H2:Hp}{Z α' Y α2:cc OL}{ω ω' ω1 X:aG}{σ:L2.St}{ρ:aE}{v:V}{S:Heap->Prop}{a b:OL}
theorem W4.Uj{x:AV}(f:H a=cL (.ext S))(e:B4 a O H U H')(h:W4 O K H Z v x):W4 U K H' Z v x:=by
 cases x with
 |fz d=>exact DV.Uj f e h
 |rf i=>exact h
theorem Sl.Uj{x:SV}(f:H a=cL (.ext S))(e:B4 a O H U H')(h:Sl O K H Z v x):Sl U K H' Z v x:=by
 cases x with
 |fz d=>exact DV.Uj f e h
 |rf i=>exact h
 |tp l=>obtain⟨a,xs,h1,j,g⟩:=h;exact⟨a,xs,h1,TU.Uj f j e,Paired.SE g λ_ _ q=>W4.Uj f e q⟩
theorem WH.Uj{c:Cell}(f:H a=cL (.ext S))(e:B4 a O H U H')(ha:∀o,H b=cL o->H' b=cL o)(h:WH O K H Z b c):WH U K H' Z b c:=by
 cases c with
 |lst xs=>obtain⟨vs,h1,d⟩:=h;exact⟨vs,ha _ h1,Paired.SE d λ_ _ q=>Sl.Uj f e q⟩
 |XH PL=>obtain⟨g,h1,d⟩:=h;exact⟨g,ha _ h1,Paired.SE d λ_ _ q=>⟨q.1,Sl.Uj f e q.2⟩⟩
 |obj C fs=>obtain⟨i,dx,g,h0,h1,d⟩:=h;exact⟨i,dx,g,h0,ha _ h1,Paired.SE d λ_ _ q=>⟨q.1,Sl.Uj f e q.2⟩⟩
 |dd PL=>obtain⟨xs,h1,d⟩:=h;exact⟨xs,ha _ h1,Paired.SE d λ_ _ q=>⟨q.1,DV.Uj f e q.2.1,DV.Uj f e q.2.2⟩⟩
 |dead=>trivial
theorem QN.pin{i:Nat}{c:Cell}{o:HO}(ha:Z[i]?=cL a)(h:ω[i]?=cL c)(d:c≠.dead):QN Z ω H Z (ω.set i .dead) (upd H a o):=
 ⟨λ_ _ h=>h,λb f q n=>by have z:b≠a:=λe=>n ⟨i,c,by rw[e];exact ha,h,d⟩;rw[au z];exact q,λb z=>.inl (kz z)⟩
theorem ju{o:HO}(h:H b≠CL):upd H a o b≠CL:=by
 by_cases z:b=a
 .subst z;rw[ay];simp
 .rw[au z];exact h
theorem StoOk.pin(s:StoOk B K H Z ω){i:Nat}{c:Cell}{o:HO}(ha:Z[i]?=cL a)(h:ω[i]?=cL c)(g:c≠.dead):StoOk B K (upd H a o) Z (ω.set i .dead):=by
 have e:QN Z ω H Z (ω.set i .dead) (upd H a o):=QN.pin ha h g;refine⟨by rw[Qq];exact s.len,s.nd,λb h=>ju (s.bn b h),s.ba,λj b h=>ju (s.al j b h),λj b d h1 f=>?_⟩;rcases aP f with⟨rfl,rfl⟩|⟨k,f⟩
 .exact trivial
 .exact(s.UO j b d h1 f).ev e.ev e.pre λu q=>by rw[au (λz=>k (s.nd j i a (by rw[<-z];exact h1) ha))];exact q
theorem BM{i:Nat}{c:Cell}(s:StoOk B K H Z ω)(ha:Z[i]?=cL a)(h:Lv Z (ω.set i c) b):b=a\/Lv Z ω b:=by
 obtain⟨j,d,h1,e,f⟩:=h;rcases aP e with⟨rfl,rfl⟩|⟨_,e⟩
 .rw[ha]at h1;cases h1;exact .inl rfl
 .exact .inr ⟨j,d,h1,e,f⟩
theorem v4{i:Nat}{c:Cell}{o:HO}(s:StoOk B K H Z ω)(ha:Z[i]?=cL a):B4 a (ow B Z ω) H (ow B Z (ω.set i c)) (upd H a o):=λb u d h n=>by
 refine⟨by rw[au d];exact h,λz=>?_⟩;rcases z with z|z
 .exact n (.inl z)
 .rcases BM s ha z with z|z
  .exact d z
  .exact n (.inr z)
theorem xV{own:cc Str}{e:cc (Str×Nat)}{g:TG}{d:TT}{te:TE}{gt:kR}{ft:lY}{fe:cI}{n:Nat}{fj:cc Nat}{J:It}{Q:VK}{ds:cc D}(hn:own.length=n)(k:e.map (·.2)=fj)
  (j:yc K E0 g gt) (i:sw K E0 d ft) (l:c7 K E0 te fe) (s1:StoOk B K T Y ω1) (m:Ru (ow B Y ω1) K T Y σ ρ) (h:oE K J (ow B Y ω1) T ds) (f:WS K E B T Y ω1 (PQ B K Q) ((gA (bu gt ft fe ds (fA n fj ρ) ω1 [])).bind λxs X=>.ok (.rf X.length) (X++[.lst xs]))):
  ∀D,T D=CL->sr J D (dP own e σ) g d te T λH'=>Q (.ref D) H':=kI hn k j i l s1 m h (AY f)
end
end L10
namespace L3
open PySem L2
structure NI(K:Bn)(f:OL)(n:Str)(t:Rk):Prop where
 a:Qr K PK n=cL (cL (.ref f))
 F:∃fd,Vk K n n t f fd
structure MI(K:Bn)(C f:OL)(m q:Str)(t:Rk):Prop where
 a:QH K (.ref C) m=cL (cL (.ref f))
 i:SX K (.ref f)=OG
 F:∃fd,Vk K m q t f fd
structure CI(K:Bn)(C:OL)(n:Str)(fs:cc Str):Prop where
 a:Qr K PK n=cL (cL (.ref C))
 pg:VS K C Str.empty=OG
 hd:VD K C=OG
 po:VF K C=OG
 sa:QH K (.ref C) "__setattr__"=cL (cL (.builtin "object.__setattr__"))
 mm:Wf K C=OG
 kc:Q0 K (.ref C)=OG
 fl:∀x∈fs,AA K C x
def BA(n q:Str)(t:Rk)(ps:cc Str):Prop:=∀(kV b d:OC) (e:cj OL) (f ct:OC) (a:cc OC),a.length=ps.length->bindArgs (Rq n q (ir t) (cF t) (aw t) .none kV b d e f ct) ⟨a,[]⟩=pure (ps.zip a)
section
variable{P:Pa}{w:Pz}{K:Bn}{mg:Str->cj OC}{base h:Heap}{f C:OL}{n m q:Str}{t:Rk}{Z fs:cc Str}{Y k:Nat}{sp sp':Sp}
theorem NI.cal(i:NI K f n t)(X:K.In h)(G:h.Ns PK mg)(hb:BA n n t Z)(ok:∀fd,Vk K n n t f fd->FnOk P w K mg base jC Y f fd Z sp):rA P w K mg base Y n Z sp:=
 let⟨fd,z⟩:=i.F;⟨f,fd,ok fd z,z.binds hb,z.kp,Xa X G i.a⟩
theorem NI.law(i:NI K f "law" t)(X:K.In h)(G:h.Ns PK mg)(b:mg "law"=cL (.ref fa))(hb:BA "law" "law" t [x])(ok:∀base fd,Vk K "law" "law" t f fd->FnOk P w K mg base jC Y f fd [x] sp):∃fd:Qx,(∀(s:OK) (v:OC),T8 s fd ⟨[v],[]⟩ [(x,v)])/\∀base:Heap,K.In base->base.Ns PK mg->FnOk P w K mg base jC Y fa fd [x] sp:=by have e:=b.symm.trans (Xa X G i.a);cases e;obtain⟨fd,z⟩:=i.F;obtain⟨p,o,kV,d,g,j,l,ct,A,rfl,r,u⟩:=z.ex;exact⟨_,λs v=>.of_eq (hb kV d g j l ct [v] rfl),λbase _ _=>ok base _ z⟩
theorem wx(a:RK k A):A.units+65<cLine:=by have:=a.un;ext
end
end L3
namespace LD
open PySem PyProof.Rows L2 L3
section
variable{prog:Pa}{w:Pz}{K:Type}[DecidableEq K]{knd:HeapKind prog w K}{A:Pp}{E:OC->OK->Prop}{s:OK}
def pO(xs:cc (K×OL×OC))(k:K):cc (K×OL×OC):=xs.filter λx=>decide (x.1≠k)
theorem wC{k:K}(h:k∉xs.map (·.1)):pO xs k=xs:=by unfold pO;rw[List.filter_eq_self];intro x a;exact a6 λe=>h (e▸OW.mpr ⟨x,a,rfl⟩)
theorem mP:∀{xs:cc (K×OL×OC)} {j:Nat} {p:OL×OC},(xs.map (·.1)).Nodup->xs[j]?=cL (k,p)->xs.eraseIdx j=pO xs k
 |[],_,_,_,h=>by simp at h
 |x::r,0,p,hn,h=>by simp only[S4,Tv]at h;subst h;rw[OM,Qj]at hn;rw[List.eraseIdx_zero,List.tail_cons];unfold pO;rw[Qm,ak (by simp)];exact(wC hn.1).symm
 |x::r,j+1,p,hn,h=>by simp only[S5]at h;rw[OM,Qj]at hn;have hm:k∈r.map (·.1):=OW.mpr ⟨(k,p),O9 h,rfl⟩;have a:x.1≠k:=λe=>hn.1 (e▸hm);rw[S6,mP hn.2 h];unfold pO;rw[Qm,ai (a6 a)]
theorem mB(f:α->β):∀(l:cc α) (j:Nat),(l.map f).eraseIdx j=(l.eraseIdx j).map f
 |[],_=>rfl
 |_::_,0=>rfl
 |x::r,j+1=>by rw[OM,S6,S6,OM,mB f r j]
theorem nJ(n:knd.room A)(q:knd.is s.heap k a)(hm:s.heap.DictOfH knd d xs)(i:atKey xs k=cL p)(hsz:xs.length<=Pd)
  (u:∀(e:QB) h',e.val=p.2->h'.DictOfH knd d (pO xs k)->Heap.SameBut d s.heap h'->Q (cL e) {s with heap:=h',toks:=s.toks+knd.draws k}):wpAny (model prog w) A (Pb.Dict.takeOut d (.ref a)) Q E s:=by
 obtain⟨o,es,v,f,t,b,h,g,hn⟩:=hm;unfold Pb.Dict.takeOut
 try with_reducible refine QE ?_
 refine lD (knd.pyHash n q (lD (wpAny_dictFind_heap n q f b h g hn ?_ ?_)))
 .intro l;rw[atKey_none_of_get l]at i;cases i
 .intro j z m
  have e:=atKey_of_get hn m;rw[i]at e;cases e;refine lD (Qv f b ?_);rw[entry_at h j,m];refine lD (wpAny_updateDictKeys (hz:=by have e:=size_of_entries h;ext) f b (OE (u _ _ rfl ⟨_,_,v+1,c6 _ f (Obj.isFreed_of_dict (Obj.data_mapDictKeys b _)),
   t.mapDictKeys _,Obj.data_mapDictKeys b _,?_,?_,?_⟩ (Heap.SameBut.update ..))))
  .rw[<-mP hn m,<-mB,<-h];simp
  .intro x r;exact knd.keeps (g x (Qi.mp r).1) f b (Heap.SameBut.update ..)
  .exact hn.sublist ((VX).map _)
theorem tG(d a:OL):MeetsIn prog w (Pb.«dict.pop» ⟨[.ref d,.ref a],[]⟩) (λA R s=>knd.room A.in1/\∃k xs p,knd.is s.heap k a/\s.heap.DictOfH knd d xs/\xs.length<=Pd/\atKey xs k=cL p/\
  ∀h',h'.DictOfH knd d (pO xs k)->Heap.SameBut d s.heap h'->R (.ok (.ret p.2)) {s with heap:=h',toks:=s.toks+knd.draws k}):=
 .of_wp λA R s ⟨j,k,xs,p,v,hm,b,g,h⟩=>by
  unfold Pb.«dict.pop»;refine lD ?_;unfold Pb.Dict.keyAndDefault;refine lD (RA hm.typeIs ?_);refine OE ?_;have f:=hm;obtain⟨o,es,B,l,_,n,m,_,_⟩:=f;have z:es.isEmpty=OP:=by
   cases q:es.isEmpty with
   |false=>rfl
   |true=>
    rw[T4]at q;subst q;cases xs with
    |nil=>cases g
    |cons x r=>cases m
  have t:(keyPart (.ref a)).isSome=OP:=rfl;simp only[t,OS,if_false];refine lD (Qv l n ?_);refine lD (OE ?_);rw[z];simp only[OS,if_false];refine lD (nJ j v hm g b λe h' i f u=>?_);simp only[Option.isNone_some,OS,if_false];exact lD (T5 (OE ⟨e.val,rfl,by rw[i];exact h h' f u⟩))
end
def g7(xs:cc (KD×OL×V))(k:KD):cj V:=(xs.find? λx=>decide (x.1=k)).map (·.2.2)
def jw(xs:cc (KD×OL×V))(k:KD)(b:OL)(v:V):cc (KD×OL×V):=
 if(xs.find? λx=>decide (x.1=k)).isSome=OG then xs.map (λx=>if x.1=k then(x.1,x.2.1,v)else x)else xs++[(k,b,v)]
def kg(xs:cc (KD×OL×V))(k:KD):cc (KD×OL×V):=xs.filter λx=>decide (x.1≠k)
abbrev RX:cc (KD×OL×V)->cc (KD×OL×OC)->Prop:=Paired λx y=>x.1=y.1/\x.2.1=y.2.1/\RelV x.2.2 y.2.2
theorem wu:∀{xs:cc (KD×OL×V)} {ys:cc (KD×OL×OC)},RX xs ys->xs.map (·.1)=ys.map (·.1):=by
 intro _ _ a
 induction a with
 |nil=>exact rfl
 | @cons _ _ _ _ h t ih=>rw[OM,OM,h.1,ih]
theorem jI:∀{xs:cc (KD×OL×V)} {ys:cc (KD×OL×OC)},RX xs ys->Ug (g7 xs k) ((atKey ys k).map (·.2)):=by
 intro _ _ a
 induction a with
 |nil=>unfold g7 atKey;exact trivial
 | @cons x y xs ys h t ih=>
  unfold g7 atKey;rw[P6,P6,h.1];by_cases e:y.1=k
  .rw[a6 e];exact h.2.2
  .rw[a7 e];exact ih
theorem Dq:∀{xs:cc (KD×OL×V)} {ys:cc (KD×OL×OC)},RX xs ys->(xs.find? λx=>decide (x.1=k)).isSome=(atKey ys k).isSome:=by
 intro _ _ a
 induction a with
 |nil=>exact rfl
 | @cons x y xs ys h t ih=>
  unfold atKey;rw[P6,P6,h.1];by_cases e:y.1=k
  .rw[a6 e];rfl
  .rw[a7 e];exact ih
theorem GM(r:RelV v u):∀{xs:cc (KD×OL×V)} {ys:cc (KD×OL×OC)},RX xs ys->RX (xs.map λx=>if x.1=k then(x.1,x.2.1,v)else x) (ys.map (putAt k u)):=by
 intro _ _ a
 induction a with
 |nil=>exact .nil
 | @cons x y xs ys h t ih=>
  rw[OM,OM];refine .cons ?_ (ih);unfold putAt;by_cases e:y.1=k
  .rw[ai (h.1.trans e),ai e];exact⟨h.1,h.2.1,r⟩
  .rw[ak (by rw[h.1];exact e),ak e];exact h
theorem Cs(h:x.1=y.1/\x.2.1=y.2.1/\RelV x.2.2 y.2.2):∀{xs:cc (KD×OL×V)} {ys:cc (KD×OL×OC)},RX xs ys->RX (xs++[x]) (ys++[y]):=by
 intro _ _ a
 induction a with
 |nil=>exact .cons h .nil
 | @cons _ _ _ _ g t ih=>exact .cons g (ih)
theorem A3(r:RelV v u)(h:RX xs ys):RX (jw xs k b v) (storedH ys k b u):=by
 unfold jw storedH;rw[Dq h];split
 .exact GM r h
 .exact Cs ⟨rfl,rfl,r⟩ h
theorem C9:∀{xs:cc (KD×OL×V)} {ys:cc (KD×OL×OC)},RX xs ys->RX (kg xs k) (pO ys k):=by
 intro _ _ a
 induction a with
 |nil=>exact .nil
 | @cons x y xs ys h t ih=>
  unfold kg pO;rw[Qm,Qm,h.1];by_cases e:y.1≠k
  .rw[ai (a6 e),ai (a6 e)];exact .cons h (ih)
  .rw[ak (by simpa using e),ak (by simpa using e)];exact ih
theorem j9(xs:cc (KD×OL×V))(k:KD)(b:OL)(v:V):(jw xs k b v).length<=xs.length+1:=by
 unfold jw;split
 .rw[OH];ext
 .rw[OO];exact OJ _
def i8(K:Bn)(H:Hp)(xs:cc (KD×OL×V)):Prop:=∀x∈xs,L2.DV K H (.ref x.2.1) x.1.1
section
variable{X:Cx}{Z:cc (OL×Obj)}{Y:L2.St}{H:Hp}{s:OK}{a b:OL}{xs:cc (KD×OL×V)}{k:KD}{v:V}{u r:OC}{A:Pp}{E:OC->OK->Prop}
theorem Fw:∀{xs:cc (KD×OL×V)} {es:cc QB},Paired (λ(x:KD×OL×V) (e:QB)=>e.hash=j5 w x.1.1/\e.key=.ref x.2.1/\RelV x.2.2 e.val) xs es->∃ys,RX xs ys/\es=ys.map (entryOfKey (a8 P w)):=by
 intro _ _ f
 induction f with
 |nil=>exact⟨[],.nil,rfl⟩
 | @cons x e _ _ p3 t ih=>obtain⟨h1,d,g⟩:=p3;obtain⟨ys,i,h⟩:=ih;refine⟨(x.1,x.2.1,e.val)::ys,.cons ⟨rfl,rfl,g⟩ i,?_⟩;rw[OM,<-h];obtain⟨l,j,ev⟩:=e;dsimp only at h1 d;subst h1 d;rfl
theorem Lb:∀{xs:cc (KD×OL×V)} {ys:cc (KD×OL×OC)},RX xs ys->Paired (λ(x:KD×OL×V) (e:QB)=>e.hash=j5 w x.1.1/\e.key=.ref x.2.1/\RelV x.2.2 e.val) xs (ys.map (entryOfKey (a8 P w))):=by
 intro _ _ d
 induction d with
 |nil=>exact .nil
 | @cons _ _ _ _ h t ih=>exact .cons ⟨by rw[h.1];rfl,by rw[h.2.1];rfl,h.2.2⟩ (ih)
theorem gI(I:L2.Inv X Z Y H s)(h:L2.DV X.K H (.ref b) k.1):(a8 X.prog X.w).is s.heap k b:=L2.DV.reads I h rfl
theorem kT(I:L2.Inv X Z Y H s)(e:H a=cL (DkO a xs))(i:i8 X.K H xs):xs.length<=Pd/\(a==Q6)=OP/\∃ys,RX xs ys/\s.heap.DictOfH (a8 X.prog X.w) a ys:=by
 obtain⟨⟨⟨z,j,nd⟩,o,es,G,h1,C,B,n⟩,_⟩:=(show Qt X.prog X.w H s.heap a (DkO a xs)from I.QX a _ e);obtain⟨ys,f,F⟩:=Fw n;refine⟨z,j,ys,f,o,es,G,h1,C,B,F,?_,by rw[<-wu f];exact nd⟩;have all:∀{l:cc (KD×OL×V)} {m:cc (KD×OL×OC)},RX l m->(∀x∈l,L2.DV X.K H (.ref x.2.1) x.1.1)->∀y∈m,(a8 X.prog X.w).is s.heap y.1 y.2.1:=by
  intro l m q
  induction q with
  |nil=>intro _ y d;exact nomatch d
  | @cons p q ps qs hq t ih=>
   intro g y d;rcases Pe.mp d with e|d
   .subst e;have:=gI I (g p (O0 ..));rw[hq.1,hq.2.1]at this;exact this
   .exact ih (λx h=>g x (OV _ h)) y d
 exact all f i
theorem oS(z:xs.length<=Pd)(hd:(a==Q6)=OP)(d:RX xs ys)(dd:h'.DictOfH (a8 P w) a ys):Qt P w H' h' a (DkO a xs):=by obtain⟨o,es,e,h1,i,h,g,j,f⟩:=dd;refine⟨⟨⟨z,hd,by rw[wu d];exact f⟩,o,es,e,h1,i,h,by rw[g];exact Lb d⟩,⟨o,h1⟩,?_⟩;rintro m l ⟨q,o,es,e,e1,e2⟩ st;exact⟨q,o,es,e,st o e1,e2⟩
theorem gg(d:A.units+64<cLine):(a8 X.prog X.w).room A.in1:=by show A.in1.units+8<cLine;rw[Pp.in1_units];ext
theorem HJ(i:A.units+64<cLine)(I:L2.Inv X Z Y H s)(e:H a=cL (DkO a xs))(l:i8 X.K H xs)(hb:L2.DV X.K H (.ref b) k.1)(g:g7 xs k=cL v)(h:∀w' s',L2.Inv X Z Y H s'->RelV v w'->Q w' s'):
  wpAny (model X.prog X.w) A (getItem (.ref a) (.ref b)) Q E s:=by
 obtain⟨z,o,ys,d,dd⟩:=kT I e l;obtain⟨w',f,n⟩:=Ug.some_of (by rw[<-g];exact jI d);obtain⟨p,j,m⟩:=PM.mp f;refine Yh (gg i) (gI I hb) dd j ?_;rw[m];exact h w' _ (I.tok _) n
theorem Ln(f:A.units+64<cLine)(I:L2.Inv X Z Y H s)(e:H a=cL (DkO a xs))(g:i8 X.K H xs)(hb:L2.DV X.K H (.ref b) k.1)(h:∀s',L2.Inv X Z Y H s'->Q (.bool (g7 xs k).isSome) s'):
  wpAny (model X.prog X.w) A (QS .In (.ref b) (.ref a)) Q E s:=by
 obtain⟨z,i,ys,d,dd⟩:=kT I e g;refine wpAny_in_heap (gg f) (gI I hb) i dd ?_;have q:=(jI (k:=k) d).UN;rw[QU]at q;rw[<-q];exact h _ (I.tok _)
theorem Js(f:A.units+64<cLine)(I:L2.Inv X Z Y H s)(e:H a=cL (DkO a xs))(g:i8 X.K H xs)(hb:L2.DV X.K H (.ref b) k.1)(h:∀s',L2.Inv X Z Y H s'->Q (.bool (!(g7 xs k).isSome)) s'):
  wpAny (model X.prog X.w) A (QS .NotIn (.ref b) (.ref a)) Q E s:=by
 obtain⟨z,i,ys,d,dd⟩:=kT I e g;refine wpAny_notIn_heap (gg f) (gI I hb) i dd ?_;have q:=(jI (k:=k) d).UN;rw[QU]at q;rw[<-q];exact h _ (I.tok _)
theorem IE(j:A.units+64<cLine)(I:L2.Inv X Z Y H s)(e:H a=cL (DkO a xs))(m:i8 X.K H xs)(hb:L2.DV X.K H (.ref b) k.1)(rv:RelV v r)(t:xs.length<Pd)(h:∀s',L2.Inv X Z Y (upd H a (DkO a (jw xs k b v))) s'->Q () s'):
  wpAny (model X.prog X.w) A (setItem (.ref a) (.ref b) r) Q E s:=by
 obtain⟨z,o,ys,d,dd⟩:=kT I e m;have i:ys.length<=Pd:=by rw[<-Paired.length d];exact z
 have f:(jw xs k b v).length<=Pd:=by have:=j9 xs k b v;ext
 refine wpAny_setItem_heap (hsz:=i) (gg j) (gI I hb) dd λp g l=>h _ ?_;have n:∃q,p.get? a=cL q:=let⟨q,_,_,hq,_⟩:=g;⟨q,hq⟩
 exact vg I (by rw[e];exact True.intro) l n (oS f o (A3 rv d) g)
theorem D6(l:A.units+64<cLine)(I:L2.Inv X Z Y H s)(e:H a=cL (DkO a xs))(i:i8 X.K H xs)(hb:L2.DV X.K H (.ref b) k.1)(g:RelV d r)(h:∀w' s',L2.Inv X Z Y H s'->RelV ((g7 xs k).getD d) w'->Q w' s'):
  wpAny (model X.prog X.w) A (call (.builtin "dict.get") [.ref a,.ref b,r]) Q E s:=by
 obtain⟨z,j,ys,f,dd⟩:=kT I e i;refine Wu U7 dd.typeIs PySem.F.entry_dict_get (PySem.F.args_dict_get_3 _ _ _) (meetsH_dict_get_default (a8 X.prog X.w) a b j r) ⟨gg (by ext),k,ys,gI I hb,dd,h _ _ (I.tok _) ?_⟩;exact(jI f).getD g
theorem IT(G:A.units+64<cLine)(I:L2.Inv X Z Y H s)(e:H a=cL (DkO a xs))(m:i8 X.K H xs)(hb:L2.DV X.K H (.ref b) k.1)(g:g7 xs k=cL v)(h:∀w' s',L2.Inv X Z Y (upd H a (DkO a (kg xs k))) s'->RelV v w'->Q w' s'):
  wpAny (model X.prog X.w) A (call (.builtin "dict.pop") [.ref a,.ref b]) Q E s:=by
 obtain⟨z,o,ys,d,dd⟩:=kT I e m;obtain⟨w',i,C⟩:=Ug.some_of (by rw[<-g];exact jI d);obtain⟨p,l,B⟩:=PM.mp i;refine Wu U8 dd.typeIs PySem.F.entry_dict_pop (PySem.F.args_dict_pop_2 _ _) (tG a b) ⟨gg (by ext),k,ys,p,gI I hb,dd,by rw[<-Paired.length d];exact z,l,λt f j=>?_⟩;rw[B];refine h w' _ ?_ C;have n:∃q,t.get? a=cL q:=let⟨q,_,_,hq,_⟩:=f;⟨q,hq⟩
 exact vg I (by rw[e];exact True.intro) j n (oS (OZ (Ts _ _) z) o (C9 d) f)
theorem ig(I:L2.Inv X Z Y H s)(e:H a=cL (DkO a xs)):s.TypeIs (.ref a) "dict"/\(∀b,OC.ref a=.ref b->∃ob,s.heap.get? b=cL ob/\ob.dict=CL)/\(a==Q6)=OP:=by obtain⟨⟨⟨z,f,nd⟩,o,es,i,h1,d,h,g⟩,_⟩:=(show Qt X.prog X.w H s.heap a (DkO a xs)from I.QX a _ e);refine⟨⟨o,h1,d.1⟩,λb q=>?_,f⟩;cases q;exact⟨o,h1,d.2.1⟩
end
section
variable(K:Bn)
def BQ(neg:Bool)(ty f:TE):TE:=λe H Q=>ty e H λy g=>f e g λx d=>∃a b xs k,x=.ref a/\y=.ref b/\d a=cL (DkO a xs)/\i8 K d xs/\L2.DV K d (.ref b) k.1/\Q (.bl ((g7 xs k).isSome !=neg)) d
def AL(f ty:TE):TE:=λe H Q=>f e H λx g=>ty e g λy d=>∃a b xs k v,x=.ref a/\y=.ref b/\d a=cL (DkO a xs)/\i8 K d xs/\L2.DV K d (.ref b) k.1/\g7 xs k=cL v/\Q v d
def BU(g ty f:TE):TS:=λD d H=>f d H λv i=>g d i λx h=>ty d h λy e=>∃a b xs k,x=.ref a/\y=.ref b/\e a=cL (DkO a xs)/\i8 K e xs/\L2.DV K e (.ref b) k.1/\xs.length<Pd/\D.nx d (upd e a (DkO a (jw xs k b v)))
def uV(g ty tx:TE):TE:=λe H Q=>g e H λx f=>∃a Xk,x=.ref a/\f a=cL (DkO a Xk)/\ty e f λy h=>tx e h λz d=>∃b xs k,y=.ref b/\d a=cL (DkO a xs)/\i8 K d xs/\L2.DV K d (.ref b) k.1/\Q ((g7 xs k).getD z) d
def y6(g ty:TE):TE:=λe H Q=>g e H λx f=>∃a Xk,x=.ref a/\f a=cL (DkO a Xk)/\ty e f λy d=>∃b xs k v,y=.ref b/\d a=cL (DkO a xs)/\i8 K d xs/\L2.DV K d (.ref b) k.1/\g7 xs k=cL v/\Q v (upd d a (DkO a (kg xs k)))
def zq:TE:=λ_ H Q=>∀p,H p=CL->Q (.ref p) (upd H p (DkO p []))
end
section
variable{X:Cx}{o i e f Z:Po}{T U tx tv:TE}{pos S Y P:Pos}
theorem pc_ddin(t:X.A.units+64<cLine)(hi:PE X i U)(v:PE X o T):PC X .In i o (BQ X.K OP U T):=by intro d s g H Q I h;refine bK (hi d s g H _ I h) λM l ⟨y,G,E,m,p⟩=>bK (v d l g G _ E p) λu L ⟨x,F,C,n,a,b,xs,k,z,w,e,q,r,j⟩=>?_;subst z w;obtain rfl:=n;obtain rfl:=m;rw[Bool.bne_false]at j;exact Ln t C e q r λJ B=>⟨.bl _,F,B,rfl,j⟩
theorem pc_ddnin(t:X.A.units+64<cLine)(hi:PE X i U)(v:PE X o T):PC X .NotIn i o (BQ X.K OG U T):=by intro d s g H Q I h;refine bK (hi d s g H _ I h) λM l ⟨y,G,E,m,p⟩=>bK (v d l g G _ E p) λu L ⟨x,F,C,n,a,b,xs,k,z,w,e,q,r,j⟩=>?_;subst z w;obtain rfl:=n;obtain rfl:=m;rw[Yi]at j;exact Js t C e q r λJ B=>⟨.bl _,F,B,rfl,j⟩
theorem pe_ddget(z:X.A.units+64<cLine)(C:PE X o T)(hi:PE X i U)(B:JL i):PE X (.Subscript o i pos) (AL X.K T U):=by intro d s j H Q I h;refine uJ Uv.lookup B (bK (C d s j H _ I h) λu m ⟨x,N,L,p,r⟩=>bK (hi d m j N _ L r) λiv s2 ⟨y,M,l,n,a,b,xs,k,v,F,E,e,t,w,g,q⟩=>?_);subst F E;obtain rfl:=p;obtain rfl:=n;exact⟨(ig l e).1,HJ z l e t w g λO s3 J G=>⟨v,M,J,G,q⟩⟩
theorem ps_ddput(C:X.A.units+64<cLine)(F:PE X o T)(hi:PE X i U)(B:PE X Z tv)(E:UP Z (cL (.Subscript o i S)) pos.line X.env=pure OP):
  PS X (.Assign [.Subscript o i S] Z pos) (BU X.K T U tv):=by
 intro d s g H D I h;refine wpAny_Assign_Subscript (bK (B d s g H _ I h) λr l ⟨v,H1,Q,rv,t⟩=>bK (F d l g H1 _ Q t) λu j ⟨x,H2,O,n,q⟩=>bK (hi d j g H2 _ O q) λiv s3 ⟨y,H3,N,m,a,b,xs,k,L,J,e,w,z,G,p⟩=>?_) E;subst L J;obtain rfl:=n;obtain rfl:=m;exact IE C N e w z rv G λs4 M=>⟨g,_,M,p⟩
theorem pe_ddget2(G:X.A.units+64<cLine)(J:PE X o T)(M:PE X e U)(L:PE X f tx)(m:M2 X o "get" Y e f P):PE X (.Call (.Attribute o "get" Y) [e,f] [] P) (uV X.K T U tx):=by
 intro d s g H Q I h;refine YS m.base m.few m.line SK U7 PySem.F.type_dict_get (bK (J d s g H _ I h) λu q ⟨x,H1,j,t,a,Xk,O,e0,B⟩=>?_);subst O;obtain rfl:=t;obtain⟨n,l,_⟩:=ig j e0;refine⟨n,l,?_⟩;rw[m.trees];refine Calls.callWith_builtin rfl (Calls.evalArgs_plain (Calls.spliced_cons (bK (M d q g H1 _ j B) λiv p ⟨y,H2,I2,r,w⟩=>
  Calls.spliced_cons (bK (L d p g H2 _ I2 w) λfv s3 ⟨z,H3,I3,rz,b,xs,k,N,e3,C,E,v⟩=>Calls.spliced_nil ?_))))
 subst N;obtain rfl:=r;exact D6 G I3 e3 C E rz λw' s4 I4 VC=>⟨_,H3,I4,VC,v⟩
theorem pe_ddpop(E:X.A.units+64<cLine)(G:PE X o T)(J:PE X e U)(m:M1 X o "pop" Y e P):PE X (.Call (.Attribute o "pop" Y) [e] [] P) (y6 X.K T U):=by intro d s j H Q I h;refine YS m.base m.few m.line SK U8 PySem.F.type_dict_pop (bK (G d s j H _ I h) λu q ⟨x,H1,l,t,a,Xk,M,e0,z⟩=>?_);subst M;obtain rfl:=t;obtain⟨p,n,_⟩:=ig l e0;refine⟨p,n,?_⟩;rw[m.trees];refine Calls.callWith_builtin rfl (Calls.evalArgs_plain (Calls.spliced_cons (bK (J d q j H1 _ l z) λiv s2 ⟨y,H2,I2,r,b,xs,k,v,L,e2,B,C,g,w⟩=>Calls.spliced_nil ?_)));subst L;obtain rfl:=r;exact IT E I2 e2 B C g λw' s3 O N=>⟨v,_,O,N,w⟩
theorem pe_ddnew:PE X (.Dict [] [] pos) zq:=λa s b H Q I h=>
 wpAny_Dict_empty ⟨.ref s.heap.objs.size,_,I.laid (λ_ _ q=>c0 _ q) (OJ _) (oS (P0 _) (beq_eq_false_iff_ne.mpr (ee (PN I.big))) .nil (Heap.DictOfH.new s.heap)),rfl,h _ (I.QX.fresh (OJ _))⟩
end
mutual
def ltd:OD->OD->cj Bool
 |.int i,.int j=>cL (decide (i<j))
 |.str x,.str y=>cL (decide (x.cps.toList<y.cps.toList))
 |.tuple xs,.tuple ys=>ltds xs ys
 |_,_=>CL
def ltds:cc OD->cc OD->cj Bool
 |[],[]=>cL OP
 |[],_::_=>cL OG
 |_::_,[]=>cL OP
 |x::xs,y::ys=>if OD.eqv x y=OG then ltds xs ys else ltd x y
end
section
variable{prog:Pa}{w:Pz}{E:OC->OK->Prop}
theorem Aj:∀(n:Nat) (x y:OD) (u v:OC) (as bs:cc OL) (A:Pp) (s:OK) (Q:OC->OK->Prop) (r:Bool),x.depth<=n->y.depth<=n->x.canLay0=OG->y.canLay0=OG->QV s.heap u x as->QV s.heap v y bs->A.units+n<cLine->ltd x y=cL r->Q (.bool r) s->wpAny (model prog w) A (richCompare .Lt u v) Q E s
 |n,.int i,.int j,_,_,_,_,A,s,Q,r,_,_,_,_,ru,rv,_,e,h=>by cases ru;cases rv;rw[ltd]at e;cases e;exact UB (RU s _ _) (RU s _ _) F.slot_int_lt F.entry_int_lt (F.args_int_lt_2 _ _) (gives_int_lt _ _ _ _) (λx=>nomatch x) h
 |n,.str i,.str j,_,_,_,_,A,s,Q,r,_,_,_,_,ru,rv,_,e,h=>by cases ru;cases rv;rw[ltd]at e;cases e;exact UB (Vu s _ _) (Vu s _ _) F.slot_str_lt F.entry_str_lt (F.args_str_lt_2 _ _) (gives_str_lt _ _ _ _) (λx=>nomatch x) h
 |0,.tuple xs,_,_,_,_,_,A,s,Q,r,hx,_,_,_,_,_,_,_,_=>by simp only[OD.depth]at hx;ext
 |n+1,.tuple xs,.tuple ys,_,_,_,_,A,s,Q,r,hx,hy,lx,ly,ru,rv,hu,e,h=>by
  cases ru with
  | @tuple a oa va na _ _ a1 a2 a3 a4=>
  cases rv with
  | @tuple b ob vb nb _ _ b1 b2 b3 b4=>
   have k:s.TypeIs (.ref a) "tuple":=⟨_,a1,a2⟩;have l:s.TypeIs (.ref b) "tuple":=⟨_,b1,b2⟩;rw[ltd]at e;simp only[OD.depth]at hx hy;unfold OD.canLay0 at lx ly;refine SN k l F.slot_tuple_lt (Qk F.slot_tuple_lt k F.entry_tuple_lt ?_ (F.args_tuple_lt_2 _ _)) (by ext);show wpAny _ _ (isInstance (.ref b) (.type "tuple")>>=_) _ _ s;refine lD (Rb l TN ?_);simp only[Qu,OS,if_false];refine lD (R0 a1 a3 ?_);refine lD (R0 b1 b3 ?_);refine lD ?_;have la:va.size=xs.length:=by have:=SeqAt.ReadsAll.length _ _ _ a4;rw[Pt]at this;exact this
   have m:vb.size=ys.length:=by have:=SeqAt.ReadsAll.length _ _ _ b4;rw[Pt]at this;exact this
   refine UR _
    (λd q f=>q.1=CL/\f=s/\∃x' y' WK V1 cs ds,d=acJ WK V1/\QW s.heap WK x' cs/\QW s.heap V1 y' ds/\OD.depthAll x'<=n/\OD.depthAll y'<=n/\OD.canLayAll0 x'=OG/\OD.canLayAll0 y'=OG/\ltds x' y'=ltds xs ys/\(x'.length<y'.length↔xs.length<ys.length))
    _ ?_ ?_ _ _ ⟨rfl,rfl,xs,ys,_,_,_,_,rfl,a4,b4,by ext,by ext,lx,ly,rfl,Iff.rfl⟩
   .rintro⟨p,q⟩ d B f ⟨g,rfl,x',y',WK,V1,cs,ds,hz,Va,WL,dx,dy,cx,cy,hl,hlen⟩
    cases Va with
    |nil=>simp at hz
    | @cons p' ps k1 x'' c1 c2 h1 Yz=>
     cases WL with
     |nil=>simp at hz
     | @cons q' qs k2 y'' d1 d2 h2 YD=>
      simp only[Qc,T6,Prod.mk.injEq]at hz;obtain⟨⟨rfl,rfl⟩,rfl⟩:=hz;simp only[OD.depthAll]at dx dy;unfold OD.canLayAll0 at cx cy;rw[Ld]at cx cy;refine lD (SeqAt.eqAt_reads k1 k2 A.in1 f p q _ _ h1 h2 cx.1 cy.1 (by rw[Pp.in1_units];ext) prog w _ _ ?_);rw[ltds]at hl;cases z:OD.eqv k1 k2 with
      |true=>rw[ai z]at hl;simp only[Qu,OS,if_false];refine OE ⟨rfl,rfl,x'',y'',ps,qs,_,_,rfl,Yz,YD,by ext,by ext,cx.2,cy.2,hl,?_⟩;rw[<-hlen,OQ,OQ];ext
      |false=>rw[ak (by rw[z];simp)]at hl;simp only[Tx,if_true];refine lD (TJ (lD (Aj n k1 k2 p q _ _ A.in1 f _ r (by ext) (by ext) cx.1 cy.1 h1 h2 (by rw[Pp.in1_units];ext) (hl.trans e) ?_)));exact lD (OE (OE (OE ⟨_,rfl,(λx=>nomatch x),h⟩)))
   .rintro⟨t,o⟩ f ⟨g,rfl,x',y',WK,V1,cs,ds,hz,Va,WL,dx,dy,cx,cy,hl,hlen⟩
    simp only at g;subst g;refine OE ⟨_,rfl,(λx=>nomatch x),?_⟩;have er:r=decide (xs.length<ys.length):=by
     have:ltds x' y'=cL (decide (x'.length<y'.length)):=by
      cases Va with
      |nil=>cases WL<;>simp[ltds]
      |cons _ _=>
       cases WL with
       |nil=>simp[ltds]
       |cons _ _=>simp at hz
     rw[<-hl,this]at e;cases e;exact decide_eq_decide.mpr hlen
    rw[er]at h;rw[la,m];exact h
 |_,.none,_,_,_,_,_,_,_,_,_,_,_,_,_,_,_,_,e,_|_,.bool _,_,_,_,_,_,_,_,_,_,_,_,_,_,_,_,_,e,_|_,.list _,_,_,_,_,_,_,_,_,_,_,_,_,_,_,_,_,e,_|_,.dict _,_,_,_,_,_,_,_,_,_,_,_,_,_,_,_,_,e,_=>by simp[ltd]at e
 |_,.int _,.none,_,_,_,_,_,_,_,_,_,_,_,_,_,_,_,e,_|_,.int _,.bool _,_,_,_,_,_,_,_,_,_,_,_,_,_,_,_,e,_|_,.int _,.str _,_,_,_,_,_,_,_,_,_,_,_,_,_,_,_,e,_|_,.int _,.list _,_,_,_,_,_,_,_,_,_,_,_,_,_,_,_,e,_|_,.int _,.tuple _,_,_,_,_,_,_,_,_,_,_,_,_,_,_,_,e,_|_,.int _,.dict _,_,_,_,_,_,_,_,_,_,_,_,_,_,_,_,e,_=>by simp[ltd]at e
 |_,.str _,.none,_,_,_,_,_,_,_,_,_,_,_,_,_,_,_,e,_|_,.str _,.bool _,_,_,_,_,_,_,_,_,_,_,_,_,_,_,_,e,_|_,.str _,.int _,_,_,_,_,_,_,_,_,_,_,_,_,_,_,_,e,_|_,.str _,.list _,_,_,_,_,_,_,_,_,_,_,_,_,_,_,_,e,_|_,.str _,.tuple _,_,_,_,_,_,_,_,_,_,_,_,_,_,_,_,e,_|_,.str _,.dict _,_,_,_,_,_,_,_,_,_,_,_,_,_,_,_,e,_=>by simp[ltd]at e
 |_,.tuple _,.none,_,_,_,_,_,_,_,_,_,_,_,_,_,_,_,e,_|_,.tuple _,.bool _,_,_,_,_,_,_,_,_,_,_,_,_,_,_,_,e,_|_,.tuple _,.int _,_,_,_,_,_,_,_,_,_,_,_,_,_,_,_,e,_|_,.tuple _,.str _,_,_,_,_,_,_,_,_,_,_,_,_,_,_,_,e,_|_,.tuple _,.list _,_,_,_,_,_,_,_,_,_,_,_,_,_,_,_,e,_|_,.tuple _,.dict _,_,_,_,_,_,_,_,_,_,_,_,_,_,_,_,e,_=>by simp[ltd]at e
end
end LD
namespace LD
open PySem PyProof.Rows
structure VE(es:cc QB)(PL:cc (Unit×OC)):Prop where
 vals:es.map (·.val)=PL.map (·.2)
theorem VE.length{es:cc QB}{PL:cc (Unit×OC)}(h:VE es PL):es.length=PL.length:=by have:=ey Q8 h.vals;rw[OH,OH]at this;exact this
theorem VE.get?{es:cc QB}{PL:cc (Unit×OC)}(h:VE es PL){i:Nat}{e:QB}{k:Unit}{v:OC}(b:es[i]?=cL e)(a:PL[i]?=cL (k,v)):True/\e.val=v:=by have:=ey (λl=>l[i]?) h.vals;simp only[OT,b,a,Ul,Tv]at this;exact⟨trivial,this⟩
def RawAt(h:Heap)(d:OL)(PL:cc (Unit×OC))(a:Nat):Prop:=∃o es,h.get? d=cL o/\o.ExactDict/\o.data=.dict es a/\True/\VE es.toList PL/\True
theorem RawAt.at'{h h':Heap}{a:OL}{PL:cc (Unit×OC)}{b:Nat}(x:RawAt h a PL b)(e:∀o,h.get? a=cL o->h'.get? a=cL o):RawAt h' a PL b:=let⟨o,es,ho,r⟩:=x;⟨o,es,e _ ho,r⟩
def Kp(h0 h:Heap):Prop:=∀b o,h0.get? b=cL o->h.get? b=cL o
theorem Kp.step{h0 h h':Heap}{wr:cc OL}(a:∀b∈wr,h0.get? b=CL)(k:Kp h0 h)(d:∀b o,b∉wr->h.get? b=cL o->h'.get? b=cL o):Kp h0 h':=λb o e=>d b o (λm=>by rw[a b m]at e;cases e) (k b o e)
theorem Kp.upd{h0 h:Heap}{S:OL}{f:Obj->Obj}(a:h0.get? S=CL)(k:Kp h0 h):Kp h0 (h.update S f):=λb o e=>(c5 _ _ (λz:S=b=>by rw[z,e]at a;cases a)).trans (k b o e)
def yA(prog:Pa)(w:Pz)(A:Pp)(h0:Heap)(P:Nat->OC->Prop)(a:Nat->Nat->Bool):Prop:=
 ∀i j vi vj (s:OK) (Q:OC->OK->Prop) (E:OC->OK->Prop),P i vi->P j vj->Kp h0 s.heap->Q (.bool (a i j)) s->wpAny (model prog w) A (richCompare .Lt vi vj) Q E s
section
variable{prog:Pa}{w:Pz}{A:Pp}{E:OC->OK->Prop}{s:OK}
theorem jh{v d:OL}{PL:cc (Unit×OC)}{h:Nat}{Q:OC->OK->Prop}(a:s.heap.IsValuesView v d)(hm:RawAt s.heap d PL h)
  (l:Q (.ref s.heap.objs.size) {s with heap:=s.heap.push {cls:=.type "dict_valueiterator",data:=.fields #[.ref d,.int 0 0,.int PL.length 0,.int h 0]}}):
  wpAny (model prog w) A (pyIter (.ref v)) Q E s:=by
 obtain⟨n,e,k,f⟩:=id a;obtain⟨o,es,g,q,i,p,j,hn⟩:=id hm;refine YT a.typeIs F.slot_dict_values_iter (Qk F.slot_dict_values_iter a.typeIs F.entry_dict_values_iter ?_ (F.args_dict_values_iter_1 _));unfold Pb.«dict_values.__iter__»;refine lD (OE ?_);refine lD ?_;unfold Pb.Dict_items.dictOf;refine lD (Q3 e f (x:=.ref d) rfl (OE ?_));refine lD ?_;unfold Pb.Dict_items.newIterator;refine lD (Qv g i ?_);refine lD (Rr g i ?_);have b:es.size=PL.length:=by rw[<-j.length];simp
 have m:Pb.Dict_items.ownsTuple "dict_valueiterator"=OP:=by decide
 simp only[m,OS,if_false];refine Pw (OE ⟨_,rfl,"dict_valueiterator",_,⟨_,c4 _ rfl,rfl⟩,F.slot_dict_valueiterator_next.lookup,?_⟩)
 simpa [rawInt,b]using l
theorem gj{b d:OL}{i l:Nat}{PL:cc (Unit×OC)}{k:Unit}{v:OC}{Q:cj OC->OK->Prop}(a:s.heap.IsValIter b d i PL.length l)
  (hm:RawAt s.heap d PL l) (q:PL[i]?=cL (k,v))
  (B:∀h',h'.IsValIter b d (i+1) PL.length l->Heap.SameBut b s.heap h'->Q (cL v) {s with heap:=h'}):
  wpAny (model prog w) A (pyNext (.ref b)) Q E s:=by
 obtain⟨o,m,z,j⟩:=id a;obtain⟨H,es,t,J,g,I,r,hn⟩:=id hm;unfold pyNext;refine lD (Ti (QA (name:=Str.ofString "__next__") a.typeIs F.slot_dict_valueiterator_next
  (Qk F.slot_dict_valueiterator_next a.typeIs F.entry_dict_valueiterator_next ?_ (F.args_dict_valueiterator_next_1 _))))
 refine lD (OE ?_);refine lD ?_;refine lD ?_
 first|refine lD (Ri a.typeIs (OE ?_))|refine lD (RL a.typeIs (OE ?_))
 refine lD (T7 m j ?_);have C:Pb.Dict_items.ownsTuple "dict_valueiterator"=OP:=by decide
 simp only[C,OS,if_false];show wpAny _ _ (if(OC.ref d==OC.none)=OG then _ else _) _ _ s;rw[ak (show¬((OC.ref d==OC.none)=OG)from OX)];refine lD (OE ?_);refine lD (Qv t g ?_);have f:es.size=PL.length:=by rw[<-r.length];simp
 rw[ak (by rw[f];simp)];refine lD (OE ?_);refine lD (Rr t g ?_);rw[ak (by simp)];refine OE ?_;have G:i<PL.length:=by
  rcases Nat.lt_or_ge i PL.length with h|h
  .exact h
  .simp[Vv h]at q
 have u:i<es.size:=by rw[f];exact G
 have n:es[i].val=v:=(r.get? (e:=es[i]) (by simp[u]) q).2;simp only[show¬((i:Int)<0)from by ext,if_false,Qp,Array.getElem?_eq_getElem u];refine lD ?_
 first|refine lD (Ri a.typeIs (OE ?_))|refine lD (RL a.typeIs (OE ?_))
 refine lD (TQ a.typeIs ?_);show wpAny _ _ (setField (.ref b) 1 (rawInt ((i:Int)+1))>>=_) _ _ s;refine lD (RG m j (by simp) ?_)
 have p:(s.heap.update b (Obj.mapFields (·.setIfInBounds 1 (rawInt ((i:Int)+1))))).IsValIter b d (i+1) PL.length l:=
  ⟨_,c6 _ m (dN (dt j _)),(Obj.cls_mapFields ..).trans z,by rw[dt j];simp[rawInt]⟩
 refine lD (QE ?_);refine lD (TQ (s:={s with heap:=s.heap.update b (Obj.mapFields (·.setIfInBounds 1 (rawInt ((i:Int)+1))))}) p.typeIs ?_);refine lD (TQ (s:={s with heap:=s.heap.update b (Obj.mapFields (·.setIfInBounds 1 (rawInt ((i:Int)+1))))}) p.typeIs ?_);show wpAny _ _ (pure es[i].val) _ _ _;exact OE (OE ⟨_,rfl,OE (n▸B _ p (Heap.SameBut.update ..))⟩)
theorem gD{h d:OL}{i n:Nat}{PL:cc (Unit×OC)}{Q:cj OC->OK->Prop}(t:A.handled=CL)(e:s.heap.IsValIter h d i PL.length n)
  (hm:RawAt s.heap d PL n) (q:PL[i]?=CL)
  (u:∀h',Heap.ExtBut h s.heap h'->Q CL {s with heap:=h'}):wpAny (model prog w) A (pyNext (.ref h)) Q E s:=by
 obtain⟨o,k,C,l⟩:=id e;obtain⟨z,es,p,G,g,B,r,hn⟩:=id hm;unfold pyNext;refine lD (Ti (QA (name:=Str.ofString "__next__") e.typeIs F.slot_dict_valueiterator_next
  (Qk F.slot_dict_valueiterator_next e.typeIs F.entry_dict_valueiterator_next ?_ (F.args_dict_valueiterator_next_1 _))))
 refine lD (OE ?_);refine lD ?_;refine lD ?_
 first|refine lD (Ri e.typeIs (OE ?_))|refine lD (RL e.typeIs (OE ?_))
 refine lD (T7 k l ?_);have v:Pb.Dict_items.ownsTuple "dict_valueiterator"=OP:=by decide
 simp only[v,OS,if_false];show wpAny _ _ (if(OC.ref d==OC.none)=OG then _ else _) _ _ s;rw[ak (show¬((OC.ref d==OC.none)=OG)from OX)];refine lD (OE ?_);refine lD (Qv p g ?_);have f:es.size=PL.length:=by rw[<-r.length];simp
 rw[ak (by rw[f];simp)];refine lD (OE ?_);refine lD (Rr p g ?_);rw[ak (by simp)];refine OE ?_;have j:es.size<=i:=by rw[f];simpa using q
 simp only[show¬((i:Int)<0)from by ext,if_false,Qp,Vd j];refine lD ?_
 first|refine lD (Ri e.typeIs (OE ?_))|refine lD (RL e.typeIs (OE ?_))
 show wpAny _ _ (setField (.ref h) 0 .none>>=_) _ _ s;refine lD (RG k l (by simp) ?_);show wpAny _ _ (newExc (.type "StopIteration") []>>=_) _ _ _;refine lD ?_;simp only[newExc,newTuple];refine lD (Pw ?_ (by size_fits));refine lD (m:=firstArgMember _ _) (Te (a:=OC.none) (by first|rfl|(simp only[firstArgMember];rfl)) ?_);refine Pw ?_ (by size_fits);simp only[raiseNew];refine lD (acK ?_);rw[show A.in1.handled=CL from t];refine lD (OE (wpAny_throw ?_));refine lD (Rb (T:= "StopIteration") (b:=OG) ⟨_,c4 _ rfl,rfl⟩ aba ?_);exact OE (u _ (((Heap.SameBut.update ..).extBut.push _).push _))
theorem xG(r:A.handled=CL)(I d:OL)(u:d≠I)(PL:cc (Unit×OC))(n:Nat):
  Walks prog w A I [I,d] [I] PL.length (λi v=>∃k,PL[i]?=cL (k,v)) (λi h=>h.IsValIter I d i PL.length n/\RawAt h d PL n) where
 sub:=λb a=>by simp at a;simp[a]
 frame:=λ_ _ _ st m=>⟨st.1.at λo e=>m I (by simp) o e,st.2.at' λo e=>m d (by simp) o e⟩
 item:=λi s Q E hi st f=>by obtain⟨⟨k,x⟩,l⟩:∃p,PL[i]?=cL p:=⟨PL[i],by simp[hi]⟩;refine gj st.1 st.2 l λj t q=>?_;exact f x j s.toks ⟨k,l⟩ ⟨t,st.2.at' λo e=>q.extBut d o u e⟩ λb o a e=>q.extBut b o (λh=>a (by simp[h])) e
 done:=λs Q E st f=>gD r st.1 st.2 (by simp) λj g=>f j s.toks λb o a e=>g b o (λh=>a (by simp[h])) e
 self:=λ_ _ _ _ st f=>wpAny_pyIter_valiter st.1 f
end
section
variable{prog:Pa}{w:Pz}{A:Pp}{R:Yg->OK->Prop}{I:OL}{fp wr:cc OL}{n:Nat}{P:Nat->OC->Prop}{St:Nat->Heap->Prop}
theorem oz(W:Walks prog w A.in1 I fp wr n P St)(i:Nat->Nat->Bool){h0:Heap}(Z:yA prog w A.in1 h0 P i)(K:∀b∈wr,h0.get? b=CL)(S:OL)(C:h0.get? S=CL)(Q:S∉fp):
  ∀(k j:Nat) (s:OK) (a:OC) (c:Nat),n - (j+1)=k->j+1<=n->St (j+1) s.heap->P (argBest i j) a->Kp h0 s.heap->
  s.heap.get? S=cL {cls:=.type "list",dict:=CL,data:=.seq #[a,a] c,slots:= #[]}->
  (∀v h' tk,P (argBest i (n - 1)) v->(∀b o,b∉wr->b≠S->s.heap.get? b=cL o->h'.get? b=cL o)->R (.ok (.ret v)) {s with heap:=h',toks:=tk})->
  codeAny (model prog w) A (.builtin "min.loop" ⟨[.ref I,.none,.ref S],[]⟩) R s:=by
 have p:S∉wr:=λh=>Q (W.sub _ h);have U:(toString "min"++toString ".loop":String)= "min.loop":=by decide
 intro k
 induction k with
 |zero=>
  intro j s a c X Y L d u q t;have m:j+1=n:=by ext
  refine SD F.entry_min_loop ?_;rw[Pp.under_plainId F.plain_min_loop _];show wpAny _ A.in1 (seqItems? (.ref S)>>=_) _ _ s;refine lD (T3 q rfl ?_);show wpAny _ A.in1 (tryCatch (pyNext (.ref I)) _>>=_) _ _ s;refine lD (S0 (W.done s _ _ (m▸L) λh' tk f=>?_));have r:=f S _ p q;show wpAny _ A.in1 (updateSeq S (λ_=> #[])>>=_) _ _ _;refine lD ?_;refine Ve r rfl (lD (T5 (OE ?_)));refine t a _ tk (by rw[<-m];exact d) λb o g l e=>(c5 _ _ (ee l)).trans (f b o g e)
 |succ k N=>
  intro j s a c X Y L d u q t;have M:j+1<n:=by ext
  refine SD F.entry_min_loop ?_;rw[Pp.under_plainId F.plain_min_loop _];show wpAny _ A.in1 (seqItems? (.ref S)>>=_) _ _ s;refine lD (T3 q rfl ?_);show wpAny _ A.in1 (tryCatch (pyNext (.ref I)) _>>=_) _ _ s;refine lD (S0 (W.item (j+1) s _ _ M L λv h' tk O T f=>?_));have r:=f S _ p q;show wpAny _ A.in1 (tryCatch (holding [v,v] (richCompare .Lt v a>>=_)) _>>=_) _ _ _;refine lD (S0 (QE (lD (Z (j+1) (argBest i j) v a _ _ _ O d (Kp.step K u f) ?_))));refine lD (QE (QO ?_));refine lD (T5 (OE ?_));cases hb:i (j+1) (argBest i j)with
  |true=>
   simp only[if_true];refine lD ?_;refine Ve r rfl (lD (T5 ?_));rw[U];refine OE ⟨RM F.plain_min_loop _,N (j+1) _ v _ (by ext) M (W.frame _ _ _ T λb B o e=>?_) (by simp only[argBest,hb,if_true];exact O) (Kp.upd C (Kp.step K u f)) (c6 _ r rfl)
    λz E J G H=>?_⟩
   .exact(c5 _ _ (λh:S=b=>Q (by rw[h];exact B))).trans e
   .exact t z E J G λb o g l e=>H b o g l ((c5 _ _ (ee l)).trans (f b o g e))
  |false=>simp only[OS,if_false];refine lD (T5 ?_);rw[U];refine OE ⟨RM F.plain_min_loop _,N (j+1) _ a c (by ext) M T (by simp only[argBest,hb,OS,if_false];exact d) (Kp.step K u f) r λz E J G H=>?_⟩;exact t z E J G λb o g l e=>H b o g l (f b o g e)
theorem eV(W:Walks prog w A.in1 I fp wr n P St)(g:Nat->Nat->Bool){h0:Heap}(J:yA prog w A.in1 h0 P g)(p:∀b∈wr,h0.get? b=CL)(S:OL)(a:h0.get? S=CL)(i:S∉fp)(hn:0<n){s:OK}{c:Nat}(L:St 0 s.heap)(H:Kp h0 s.heap)
  (k:s.heap.get? S=cL {cls:=.type "list",dict:=CL,data:=.seq #[] c,slots:= #[]})
  (t:∀v h' tk,P (argBest g (n - 1)) v->(∀b o,b∉wr->b≠S->s.heap.get? b=cL o->h'.get? b=cL o)->R (.ok (.ret v)) {s with heap:=h',toks:=tk}):
  codeAny (model prog w) A (.builtin "min.loop" ⟨[.ref I,.none,.ref S],[]⟩) R s:=by
 have f:S∉wr:=λh=>i (W.sub _ h);have K:(toString "min"++toString ".loop":String)= "min.loop":=by decide
 refine SD F.entry_min_loop ?_;rw[Pp.under_plainId F.plain_min_loop _];show wpAny _ A.in1 (seqItems? (.ref S)>>=_) _ _ s;refine lD (T3 k rfl ?_);show wpAny _ A.in1 (tryCatch (pyNext (.ref I)) _>>=_) _ _ s;refine lD (S0 (W.item 0 s _ _ hn L λv h' tk u C j=>?_));have m:=j S _ f k;show wpAny _ A.in1 (updateSeq S (λ_=> #[v,v])>>=_) _ _ _;refine lD ?_;refine Ve m rfl ?_;rw[K];refine OE ⟨RM F.plain_min_loop _,oz W g J p S a i _ 0 _ v _ rfl hn (W.frame _ _ _ C λb d o e=>?_) u (Kp.upd a (Kp.step p H j)) (c6 _ m rfl) λr z G B E=>?_⟩
 .exact(c5 _ _ (λh:S=b=>i (by rw[h];exact d))).trans e
 .exact t r z G B λb o q l e=>E b o q l ((c5 _ _ (ee l)).trans (j b o q e))
end
section
variable{prog:Pa}{w:Pz}{A:Pp}{E:OC->OK->Prop}{s:OK}
theorem qO{h0 h:Heap}(k:Kp h0 h):h0.get? h.objs.size=CL:=by
 cases q:h0.get? h.objs.size with
 |none=>rfl
 |some o=>exact cb (c3 (k _ _ q)) (Qa _)
theorem og{x:OC}{Q:OC->OK->Prop}
  (h:wpAny (model prog w) A.in1 (pyIter x) (λit s₂=>∃I fp wr n P St bt h0,it=.ref I/\Walks prog w A.in1 I fp wr n P St/\St 0 s₂.heap/\(∀b∈fp,b<s₂.heap.objs.size)/\0<n/\yA prog w A.in1 h0 P bt/\Kp h0 s₂.heap/\(∀b∈wr,h0.get? b=CL)/\
   ∀v h' tk,P (argBest bt (n - 1)) v->(∀b o,b∉wr->s₂.heap.get? b=cL o->h'.get? b=cL o)->Q v {s₂ with heap:=h',toks:=tk}) E s):
  wpAny (model prog w) A (call (.builtin "min") [x]) Q E s:=by
 have q:(toString "min"++toString ".loop":String)= "min.loop":=by decide
 refine Yj F.kind_min F.plain_min F.entry_min (F.args_min1 _) ?_;show wpAny _ A.in1 (Pb.Builtins.bindParams "min" ["key","default"] 0 ⟨[],[]⟩>>=_) _ _ s;refine lD (Te (show Pb.Builtins.bindParams "min" ["key","default"] 0 ⟨[],[]⟩=pure [CL,CL]from rfl) ?_);refine lD (OE ?_);refine lD (wpAny_mono h (λit s₂ a=>?_) λ_ _ e=>e);obtain⟨I,fp,wr,n,P,St,bt,h0,rfl,W,r,d,hn,p,f,l,i⟩:=a;refine lD (Pw ?_);have k:s₂.heap.objs.size∉fp:=λhm=>Qa _ (d _ hm);rw[q];refine OE ⟨RM F.plain_min_loop _,eV W bt p l s₂.heap.objs.size (qO f) k hn (W.frame _ _ _ r λb _ o e=>c0 _ e) (λb o e=>c0 _ (f b o e)) (c4 _ rfl) λv h' tk j g=>?_⟩;exact i v h' tk j λb o m e=>g b o m (PN (c3 e)) (c0 _ e)
theorem qA{a b:OC}{Q:OC->OK->Prop}
  (h:wpAny (model prog w) A.in1 (pyIter (.ref s.heap.objs.size)) (λit s₂=>∃I fp wr n P St bt h0,it=.ref I/\Walks prog w A.in1 I fp wr n P St/\St 0 s₂.heap/\(∀b∈fp,b<s₂.heap.objs.size)/\0<n/\yA prog w A.in1 h0 P bt/\Kp h0 s₂.heap/\(∀b∈wr,h0.get? b=CL)/\
   ∀v h' tk,P (argBest bt (n - 1)) v->(∀b o,b∉wr->s₂.heap.get? b=cL o->h'.get? b=cL o)->Q v {s₂ with heap:=h',toks:=tk}) E
   {s with heap:=s.heap.push {cls:=.type "tuple",data:=.seq #[a,b]}}):
  wpAny (model prog w) A (call (.builtin "min") [a,b]) Q E s:=by
 have r:(toString "min"++toString ".loop":String)= "min.loop":=by decide
 refine Yj F.kind_min F.plain_min F.entry_min (F.args_min2 _ _) ?_;show wpAny _ A.in1 (Pb.Builtins.bindParams "min" ["key","default"] 0 ⟨[],[]⟩>>=_) _ _ s;refine lD (Te (show Pb.Builtins.bindParams "min" ["key","default"] 0 ⟨[],[]⟩=pure [CL,CL]from rfl) ?_);show wpAny _ A.in1 (newTuple [a,b]>>=_) _ _ s;refine lD (Pw ?_);refine lD (wpAny_mono h (λit s₂ d=>?_) λ_ _ e=>e);obtain⟨I,fp,wr,n,P,St,bt,h0,rfl,W,t,f,hn,q,g,m,j⟩:=d;refine lD (Pw ?_);have l:s₂.heap.objs.size∉fp:=λhm=>Qa _ (f _ hm);rw[r];refine OE ⟨RM F.plain_min_loop _,eV W bt q m s₂.heap.objs.size (qO g) l hn (W.frame _ _ _ t λb _ o e=>c0 _ e) (λb o e=>c0 _ (g b o e)) (c4 _ rfl) λv h' tk k i=>?_⟩;exact j v h' tk k λb o p e=>i b o p (PN (c3 e)) (c0 _ e)
end
end LD
namespace LD
open PySem PyProof.Rows L2 L3 L10
def okO(ds:cc D):Bool:=ds.all λa=>a.canLay0&&decide (a.depth<=32)&&ds.all λb=>(ltd a b).isSome
def btD(ds:cc D)(i j:Nat):Bool:=(ltd (ds.getD i .none) (ds.getD j .none)).getD OP
def minI(ds:cc D):Nat:=argBest (btD ds) (ds.length - 1)
theorem jl{ds:cc D}(h:okO ds=OG){i:Nat}{a:D}(e:ds[i]?=cL a):a.canLay0=OG/\a.depth<=32:=by unfold okO at h;rw[PF]at h;have:=h a (O9 e);rw[Ld,Ld]at this;exact⟨this.1.1,b9 this.1.2⟩
theorem pA{ds:cc D}(h:okO ds=OG){i j:Nat}{a b:D}(f:ds[i]?=cL a)(e:ds[j]?=cL b):ltd a b=cL (btD ds i j):=by unfold okO at h;rw[PF]at h;have:=h a (O9 f);rw[Ld]at this;have d:=this.2;rw[PF]at d;have k:=d b (O9 e);unfold btD;rw[Ry,Ry,f,e];obtain⟨r,g⟩:=QG.mp k;show ltd a b=cL ((ltd a b).getD OP);rw[g];rfl
theorem qj{prog:Pa}{w:Pz}{A:Pp}{h0:Heap}{P:Nat->OC->Prop}{ds:cc D}(p:A.units+32<cLine)(h:okO ds=OG)(m:∀i v,P i v->∃d as,ds[i]?=cL d/\QV h0 v d as):yA prog w A h0 P (btD ds):=by intro i j l g s Q E hi r k q;obtain⟨a,as,f,o⟩:=m i l hi;obtain⟨b,bs,e,n⟩:=m j g r;exact Aj 32 a b l g as bs A s Q _ (jl h f).2 (jl h e).2 (jl h f).1 (jl h e).1 (Reads.keeps k o) (Reads.keeps k n) p (pA h f e) q
def AC:V->cc V->Hp->VK->Prop:=λx vs H Q=>∃a xs,x=.ref a/\vs=[]/\H a=cL (DkO a xs)/\∀p,H p=CL->Q (.ref p) (upd H p (JU p a))
theorem oP{prog:Pa}{w:Pz}(d:OL)(hd:(d==Q6)=OP):MeetsIn prog w (Pb.«dict.values» ⟨[.ref d],[]⟩) (λ_ R s=>s.TypeIs (.ref d) "dict"/\R (.ok (.ret (.ref s.heap.objs.size))) {s with heap:=s.heap.push {cls:=.type "dict_values",data:=.fields #[.ref d]}}):=
 .of_wp λA R s ⟨a,h⟩=>by refine lD ?_;unfold Pb.Dict.noArgs;refine lD (RA a ?_);show wpAny _ _ (pure d) _ _ s;refine OE ?_;show wpAny _ _ (Pb.Dict.showsAll d>>=_) _ _ s;unfold Pb.Dict.showsAll;rw[ak (by rw[hd];exact OX)];exact lD (OE (lD (Pw (OE ⟨_,rfl,h⟩))))
theorem tZ{X:Cx}:L7 X "dict.values" AC:=by intro g s k H x xs v l Q I i d h;obtain⟨a,ys,rfl,rfl,e,q⟩:=h;cases i;cases d;obtain⟨f,_,j⟩:=ig I e;refine Wu UC f PySem.F.entry_dict_values (PySem.F.args_dict_values_1 _) (oP a j) ⟨f,?_⟩;exact⟨.ref s.heap.objs.size,_,I.laid (t':=s.toks) (o:=JU s.heap.objs.size a) (λb o e=>c0 _ e) (OJ _) (Lw ⟨_,c4 _ rfl,rfl,rfl⟩),rfl,q _ (I.QX.fresh (OJ _))⟩
def Fi(K:Bn):cc V->Hp->VK->Prop:=λxs H Q=>∃(p a:OL) (ys:cc (KD×OL×V)) (ds:cc D),xs=[.ref p]/\H p=cL (JU p a)/\H a=cL (DkO a ys)/\L2.QC K H (ys.map (·.2.2)) ds/\0<ds.length/\okO ds=OG/\∀(v:V) (d:D),(ys.map (·.2.2))[minI ds]?=cL v->ds[minI ds]?=cL d->L2.DV K H v d->Q v H
theorem tY{K:Bn}{H:Hp}:∀{vs:cc V} {ds:cc D} {i:Nat} {v:V},L2.QC K H vs ds->vs[i]?=cL v->∃d,ds[i]?=cL d/\L2.DV K H v d
 |_,_,0,_,.cons h _,e=>by cases e;exact⟨_,rfl,h⟩
 |_,_,n+1,_,.cons _ t,e=>by obtain⟨d,h1,a⟩:=tY (i:=n) t (by simpa using e);exact⟨d,by simpa using h1,a⟩
theorem pB{K:Bn}{H:Hp}:∀{vs:cc V} {ds:cc D},L2.QC K H vs ds->vs.length=ds.length
 |_,_,.nil=>rfl
 |_,_,.cons _ t=>by rw[OQ,OQ,pB t]
theorem vF{vs:cc V}{a:cc OC}{i:Nat}{u:OC}(h:Vals vs a)(e:a[i]?=cL u):∃v,vs[i]?=cL v/\RelV v u:=by
 induction h generalizing i with
 |nil=>simp at e
 |cons r _ b=>
  cases i with
  |zero=>simp at e;subst e;exact⟨_,rfl,r⟩
  |succ n=>obtain⟨v,h1,d⟩:=b (i:=n) (by simpa using e);exact⟨v,by simpa using h1,d⟩
theorem wy:∀{xs:cc (KD×OL×V)} {ys:cc (KD×OL×OC)},RX xs ys->Vals (xs.map (·.2.2)) (ys.map (·.2.2))
 |_,_,.nil=>.nil
 |_,_,.cons h t=>.cons h.2.2 (wy t)
theorem call_minV{X:Cx}(S:X.calm=OG)(hu:X.A.units+64<cLine):fy X (.builtin "min") (Fi X.K):=by
 intro E s σ H xs us Q I r h;obtain⟨p,a,ys,ds,rfl,ep,e,B,h0,N,q⟩:=h;obtain⟨u,rfl,L⟩:=lI r;cases L;obtain⟨J,_,_⟩:Qt X.prog X.w H s.heap p (JU p a):=I.QX p _ ep;obtain⟨⟨⟨z,hd,nd⟩,o,es,G,F,Z,Y,U⟩,_⟩:=(show Qt X.prog X.w H s.heap a (DkO a ys)from I.QX a _ e);obtain⟨j,k1,k2⟩:=Fw (P:=X.prog) U;have l:=wy k1;have n:ds.length=j.length:=by rw[<-pB B,OH,Paired.length k1]
 have m:RawAt s.heap a (j.map λy=>((),y.2.2)) G:=⟨o,es,F,Z,Y,trivial,⟨by rw[k2,PY,PY];rfl⟩,trivial⟩;refine og (jh (A:=X.A.in1) J m ?_);have la:a<s.heap.objs.size:=c3 F;refine⟨_,_,_,_,_,_,_,s.heap,rfl,xG (A:=X.A.in1) (I.ok.hd S) s.heap.objs.size a (PN la) (j.map λy=>((),y.2.2)) G,⟨⟨_,c4 _ rfl,rfl,rfl⟩,m.at' λo e=>c0 _ e⟩,λb g=>?_,by rw[OH];ext,qj (ds:=ds) (by rw[Pp.in1_units];ext) N (λi v f=>?_),λb o e=>c0 _ e,λb g=>?_,λv h' tk T O=>?_⟩
 .show b<(s.heap.push _).objs.size
  rw[di];rcases Pe.mp g with rfl|g
  .exact QI _
  .rcases Pe.mp g with rfl|g
   .exact RY la
   .cases g
 .obtain⟨k,f⟩:=f
  rw[OT]at f;have C:(j.map (·.2.2))[i]?=cL v:=by
   rw[OT];cases q:j[i]? with
   |none=>rw[q]at f;cases f
   |some y=>rw[q]at f;cases f;rfl
  obtain⟨x,e1,t⟩:=vF l C;obtain⟨d,e2,dx⟩:=tY B e1;obtain⟨as,M⟩:=L2.DV.reads I dx t;exact⟨d,as,e2,M⟩
 .rcases Pe.mp g with rfl|g
  .cases q:s.heap.get? s.heap.objs.size with
   |none=>rfl
   |some o=>exact cb (c3 q) (Qa _)
  .cases g
 .obtain⟨k,f⟩:=T
  rw[OT]at f;have C:(j.map (·.2.2))[minI ds]?=cL v:=by
   rw[OH,<-n]at f;rw[OT];show VI _ j[argBest (btD ds) (ds.length - 1)]?=cL v;cases q:j[argBest (btD ds) (ds.length - 1)]? with
   |none=>rw[q]at f;cases f
   |some y=>rw[q]at f;cases f;rfl
  obtain⟨x,e1,t⟩:=vF l C;obtain⟨d,e2,dx⟩:=tY B e1;refine⟨x,H,I.kept (λb o e=>O b o (λhm=>?_) (c0 _ e)),t,q x d e1 e2 dx⟩;rcases Pe.mp hm with e1|hm
  .exact cb (e1▸c3 e) (Qa _)
  .cases hm
def Fp(K:Bn):cc V->Hp->VK->Prop:=λxs H Q=>∃(x y:V) (d e:D),xs=[x,y]/\L2.DV K H x d/\L2.DV K H y e/\okO [d,e]=OG/\Q (if ltd e d=cL OG then y else x) H
theorem call_min2{X:Cx}(L:X.calm=OG)(T:X.A.units+64<cLine):fy X (.builtin "min") (Fp X.K):=by
 intro m s P H xs E Q I r h;obtain⟨x,y,d,e,rfl,dx,O,B,q⟩:=h;obtain⟨u,v,rfl,l,rv⟩:∃u v,E=[u,v]/\RelV x u/\RelV y v:=by
  cases r with
  |cons a b=>cases b with
   |cons b c=>cases c;exact⟨_,_,rfl,a,b⟩
 obtain⟨as,G⟩:=L2.DV.reads I dx l;obtain⟨bs,F⟩:=L2.DV.reads I O rv;have t:(s.heap.push {cls:=.type "tuple",data:=.seq #[u,v]}).IsTuple s.heap.objs.size #[u,v]:=⟨_,c4 _ rfl,rfl,_,rfl⟩;refine qA (VV t ?_);have sz:(s.heap.push {cls:=.type "tuple",data:=.seq #[u,v]}).objs.size=s.heap.objs.size+1:=di ..;refine⟨_,_,_,_,_,_,_,s.heap,rfl,Walks.tuple (A:=X.A.in1) (I.ok.hd L) _ s.heap.objs.size (by rw[sz];exact PN (QI _)) #[u,v],⟨⟨_,c4 _ rfl,rfl,rfl⟩,t.push _⟩,λb f=>?_,(show 0<2 from by decide),qj (ds:=[d,e]) (by rw[Pp.in1_units];ext) B (λi w g=>?_),λb o e=>c0 _ (c0 _ e),λb f=>?_,λw M S k J=>?_⟩
 .show b<((s.heap.push _).push _).objs.size
  rw[di,sz];rcases Pe.mp f with rfl|f
  .rw[sz];exact QI _
  .rcases Pe.mp f with rfl|f
   .exact RY (QI _)
   .cases f
 .match i,g with
  |0,g=>cases g;exact⟨d,as,rfl,G⟩
  |1,g=>cases g;exact⟨e,bs,rfl,F⟩
  |n+2,g=>cases g
 .rcases Pe.mp f with rfl|f
  .rw[sz]
   cases q:s.heap.get? (s.heap.objs.size+1)with
   |none=>rfl
   |some o=>exact cb (c3 q) (Xy (QI _))
  .cases f
 .have p:∀b o,s.heap.get? b=cL o->M.get? b=cL o:=λb o e=>by
   refine J b o (λhm=>?_) (c0 _ (c0 _ e));have:=c3 e;rcases Pe.mp hm with e1|hm
   .rw[sz]at e1;rw[e1]at this;exact cb this (Xy (QI _))
   .cases hm
  have U:btD [d,e] 1 0=(ltd e d).getD OP:=rfl;have k:(#[u,v]:Array OC)[argBest (btD [d,e]) 1]?=cL w:=k;have N:argBest (btD [d,e]) 1=if btD [d,e] 1 0=OG then 1 else 0:=rfl
  have C:=pA B (i:=1) (j:=0) (a:=e) (b:=d) rfl rfl;rw[N]at k;cases z:btD [d,e] 1 0 with
  |true=>rw[z,ai rfl]at k;cases k;rw[C,z,ai rfl]at q;exact⟨y,H,I.kept p,rv,q⟩
  |false=>rw[z,ak (by simp)]at k;cases k;rw[C,z,ak (by simp)]at q;exact⟨x,H,I.kept p,l,q⟩
def E7(e:TE):TE:=λd H Q=>e d H λx b=>∃a xs,x=.ref a/\b a=cL (DkO a xs)/\∀p,b p=CL->Q (.bl (!xs.isEmpty)) (upd b p (DkO p []))
theorem Ir{prog:Pa}{w:Pz}{A:Pp}{E:OC->OK->Prop}{s:OK}{a b:OL}{g f:Obj}{d:Array QB}{na nb:Nat}{Q:OC->OK->Prop}(ha:(a==Q6)=OP)(hb:(b==Q6)=OP)(h1:s.heap.get? a=cL g)(m:g.ExactDict)(i:g.data=.dict d na)(j:s.heap.get? b=cL f)(o:f.ExactDict)(n:f.data=.dict #[] nb)(l:A.units<cLine)(h:Q (.bool (!d.isEmpty)) s):
  wpAny (model prog w) A (QS .NotEq (.ref a) (.ref b)) Q E s:=by
 have e:s.TypeIs (.ref a) "dict":=⟨_,h1,m.1⟩;have tB:s.TypeIs (.ref b) "dict":=⟨_,j,o.1⟩;refine SN (op:=.NotEq) e tB Vf (Qk Vf e PySem.F.entry_dict_ne ?_ (PySem.F.args_dict_ne_2 _ _)) l;show wpAny _ _ (Pb.Dict.dictSlotArgs "__ne__" ⟨[.ref a,.ref b],[]⟩>>=_) _ _ s;refine lD ?_;unfold Pb.Dict.dictSlotArgs;refine lD (RA e ?_);show wpAny _ _ (pure (OC.ref a,OC.ref b)) _ _ s;refine OE ?_;refine lD (Rb (T:= "dict") tB PySem.F.sub_dict_dict ?_);simp only[Qu,OS,if_false];refine lD (OE (lD (OE ?_)));unfold Pb.Dict.samePairs Pb.Dict.showsAll;rw[ak (by rw[ha];exact OX),ak (by rw[hb];exact OX)];refine lD (lD (OE (lD (OE ?_))));refine lD (Qv h1 i ?_);refine lD (Qv j n ?_);cases q:d.isEmpty with
 |true=>rw[T4]at q;subst q;show wpAny _ _ (dictEpoch a>>=_) _ _ s;refine lD (Rr h1 i ?_);refine lD (Te (a:=(CL,())) (by simp) ?_);exact OE (OE ⟨_,rfl,(λx=>nomatch x),h⟩)
 |false=>
  rw[q]at h;have k:d.size≠0:=λz=>by rw[UD]at q;exact q (Ud z)
  show wpAny _ _ (if(d.size !=0)=OG then _ else _) _ _ s;rw[ai (by simpa using k)];exact lD (TJ (OE (OE ⟨_,rfl,(λx=>nomatch x),h⟩)))
theorem pc_ddne{X:Cx}{o:Po}{q:TE}{pos:Pos}(hu:X.A.units+64<cLine)(M:PE X o q):PC X .NotEq o (.Dict [] [] pos) (E7 q):=by
 intro b s n H Q I h;refine bK (M b s n H _ I h) λu E ⟨x,g,I1,G,a,xs,Y,e,J⟩=>?_;subst Y;obtain rfl:u=OC.ref a:=G;refine bK (pe_ddnew (pos:=pos) b E n g (λy C=>∃p,g p=CL/\y=.ref p/\C=upd g p (DkO p [])) I1 (λp f=>⟨p,f,rfl,rfl⟩)) λv t ⟨y,C,m,F,p,f,U,eH⟩=>?_;subst U eH;obtain rfl:v=OC.ref p:=F;have e2:(upd g p (DkO p [])) a=cL (DkO a xs):=by rw[au (bB e f)];exact e
 obtain⟨⟨⟨z,N,nd⟩,o1,es,en,T,S,P,O⟩,_⟩:=(show Qt X.prog X.w _ t.heap a (DkO a xs)from m.QX a _ e2);obtain⟨⟨⟨z',WZ,L⟩,K,B,Z,k,j,i,d⟩,_⟩:=(show Qt X.prog X.w _ t.heap p (DkO p [])from m.QX p _ ay);have e0:B= #[]:=by generalize hq:B.toList=l at d;cases d;exact Array.toList_eq_nil_iff.mp hq
 subst e0;refine Ir N WZ T S P k j i (by ext) ⟨.bl _,_,m,rfl,?_⟩;have:es.isEmpty=xs.isEmpty:=by
  have:=Paired.length O;cases xs with
  |nil=>show es.isEmpty=OG;rw[T4];exact Ud (by simpa using this.symm)
  |cons x r=>show es.isEmpty=OP;rw[UD];intro z;subst z;simp at this
 rw[this];exact J p f
def vH(b:TE):TE:=λa H Q=>b a H λx d=>AC x [] d Q
theorem pe_ddvals{X:Cx}{o:Po}{i:TE}{d k:Pos}(p:PE X o i)(t:attributeBase o "values" X.env (eval o X.env)=eval o X.env)(r:(d.endLine==k.line)=OG):PE X (.Call (.Attribute o "values" d) [] [] k) (vH i):=by intro b s g H Q I h;refine wpAny_Call_method0_late t r (bK (p b s g H _ I h) λv m ⟨x,u,l,n,j⟩=>?_);have f:=j;obtain⟨a,xs,rfl,_,e,_⟩:=f;obtain rfl:v=OC.ref a:=n;obtain⟨h1,q,_⟩:=ig l e;exact⟨"dict","dict.values",SK,UC,PySem.F.type_dict_values,h1,q,Calls.callWith_builtin rfl (PySem.evalArgs_none (tZ b m g u (.ref a) [] _ [] Q l rfl .nil j))⟩
end LD
namespace L10
open PySem PyProof.Rows L2 L3 LD
def fE:SV->cj D
 |.fz d=>if keyD d=OG then cL d else CL
 |_=>CL
def Cw:SV->cj D
 |.fz d=>cL d
 |_=>CL
def fX(ω:aG):SV->cj (Nat×cc (D×D))
 |.rf i=>match ω[i]? with
  |some (.dd PL)=>cL (i,PL)
  |_=>CL
 |_=>CL
def aV(PL:cc (D×D))(k:D):cj D:=(PL.find? λa=>OD.eqv a.1 k).map (·.2)
def fC(PL:cc (D×D))(k v:D):cc (D×D):=if(PL.find? λa=>OD.eqv a.1 k).isSome=OG then PL.map (λa=>if OD.eqv a.1 k=OG then(a.1,v)else a)else PL++[(k,v)]
def iY(PL:cc (D×D))(k:D):cc (D×D):=PL.filter λa=> !OD.eqv a.1 k
section
variable{B O O':aN}{K:Bn}{E:XK}{H H' S P:Hp}{T α' Y X:cc OL}{ω ω' ω1 Z:aG}{U:L2.St}{ρ:aE}{v:V}{k:KD}
theorem gK(e:fE x=cL d)(h:Sl O K H T v x):∃(k:KD) (b:OL),k.1=d/\v=.ref b/\L3.DV O K H (.ref b) d:=by
 cases x with
 |fz z=>
  have e:(if keyD z=OG then cL z else CL)=cL d:=e;by_cases a:keyD z=OG
  .rw[ai a]at e
   cases e;have h:=h;cases d with
   |tuple xs=>cases h with
    |tup h1 f=>exact⟨⟨_,a⟩,_,rfl,rfl,.tup h1 f⟩
   |_=>simp[keyD]at a
  .rw[ak a]at e;cases e
 |rf i=>cases e
 |tp l=>cases e
theorem iE(s:StoOk B K H T ω)(f:Sl (ow B T ω) K H T v x)(h:fX ω x=cL (i,PL)):ω[i]?=cL (.dd PL)/\∃a xs,T[i]?=cL a/\v=.ref a/\H a=cL (DkO a xs)/\PrD (ow B T ω) K H xs PL:=by
 cases x with
 |fz d=>cases h
 |tp l=>cases h
 |rf j=>
  obtain⟨a,ha,rfl⟩:=f;unfold fX at h;dsimp only at h;cases q:ω[j]? with
  |none=>rw[q]at h;cases h
  |some c=>
   rw[q]at h;cases c with
   |dd ys=>have e:=Pr h;cases e;obtain⟨b,h1,g⟩:=s.UO i a _ ha q;exact⟨q,a,b,ha,rfl,h1,g⟩
   |_=>cases h
theorem mJ:∀{xs:cc (KD×OL×V)} {PL:cc (D×D)},PrD O K H xs PL->i8 K H xs:=by
 intro _ _ b
 induction b with
 |nil=>exact λ_ h=>nomatch h
 | @cons x kv xs PL h t ih=>
  intro y a;rcases Pe.mp a with e|a
  .subst e;rw[h.1];exact h.2.1.plain
  .exact ih y a
theorem kG{x:KD×OL×V}{a:D×D}(h:x.1.1=a.1):decide (x.1=k)=OD.eqv a.1 k.1:=by
 rw[<-h]
 haveI:Decidable (x.1.1=k.1):=Classical.propDecidable _
 rw[yq (cE x.1.2).1 (cE k.2).1];by_cases e:x.1=k
 .rw[a6 e,a6 (ey Subtype.val e)]
 .rw[a7 e,a7 λz=>e (Subtype.ext z)]
theorem g8:∀{xs:cc (KD×OL×V)} {PL:cc (D×D)},PrD O K H xs PL->(∀d,aV PL k.1=cL d->∃v,g7 xs k=cL v/\L3.DV O K H v d)/\(aV PL k.1=CL->g7 xs k=CL):=by
 intro _ _ a
 induction a with
 |nil=>exact⟨λx e=>(by cases e),λ_=>rfl⟩
 | @cons x kv xs PL h t ih=>
  unfold aV g7;rw[P6,P6,kG h.1];cases OD.eqv kv.1 k.1 with
  |true=>exact⟨λd e=>⟨x.2.2,rfl,by cases e;exact h.2.2⟩,λe=>by cases e⟩
  |false=>exact ih
theorem sM(h:PrD O K H xs PL):(g7 xs k).isSome=(aV PL k.1).isSome:=by
 obtain⟨h1,a⟩:=g8 h;cases q:aV PL k.1 with
 |none=>rw[a q];rfl
 |some x=>obtain⟨u,e,_⟩:=h1 x q;rw[e];rfl
theorem Ji:∀{xs:cc (KD×OL×V)} {PL:cc (D×D)},PrD O K H xs PL->(xs.find? λx=>decide (x.1=k)).isSome=(PL.find? λkv=>OD.eqv kv.1 k.1).isSome:=by
 intro _ _ a
 induction a with
 |nil=>exact rfl
 | @cons x kv xs PL h t ih=>
  rw[P6,P6,kG h.1];cases OD.eqv kv.1 k.1 with
  |true=>rfl
  |false=>exact ih
theorem KK(b:L3.DV O K H v d):∀{xs:cc (KD×OL×V)} {PL:cc (D×D)},PrD O K H xs PL->PrD O K H (xs.map λx=>if x.1=k then(x.1,x.2.1,v)else x) (PL.map λkv=>if OD.eqv kv.1 k.1=OG then(kv.1,d)else kv):=by
 intro _ _ a
 induction a with
 |nil=>exact .nil
 | @cons x kv xs PL h t ih=>
  rw[OM,OM];refine .cons ?_ (ih);have e:=kG (k:=k) h.1;by_cases z:x.1=k
  .rw[ai z,ai (by rw[<-e];exact a6 z)];exact⟨h.1,h.2.1,b⟩
  .rw[ak z,ak (by rw[<-e,a7 z];simp)];exact h
theorem zR(r:x.1.1=kv.1/\L3.DV O K H (.ref x.2.1) kv.1/\L3.DV O K H x.2.2 kv.2):∀{xs:cc (KD×OL×V)} {PL:cc (D×D)},PrD O K H xs PL->PrD O K H (xs++[x]) (PL++[kv]):=by
 intro _ _ a
 induction a with
 |nil=>exact .cons r .nil
 | @cons _ _ _ _ g t ih=>exact .cons g (ih)
theorem qN(hb:L3.DV O K H (.ref b) k.1)(a:L3.DV O K H v d)(h:PrD O K H xs PL):PrD O K H (jw xs k b v) (fC PL k.1 d):=by
 unfold jw fC;rw[Ji h];split
 .exact KK a h
 .exact zR ⟨rfl,hb,a⟩ h
theorem xY:∀{xs:cc (KD×OL×V)} {PL:cc (D×D)},PrD O K H xs PL->PrD O K H (kg xs k) (iY PL k.1):=by
 intro _ _ a
 induction a with
 |nil=>exact .nil
 | @cons x kv xs PL h t ih=>
  unfold kg iY;rw[Qm,Qm];have e:=kG (k:=k) h.1;by_cases z:x.1=k
  .rw[a6 z]at e;rw[ak (by simpa using z),ak (by rw[<-e];simp)];exact ih
  .rw[a7 z]at e;rw[ai (by simpa using z),ai (by rw[<-e];rfl)];exact .cons h (ih)
theorem sQ(e:Ev O H O' H')(h:PrD O K H xs PL):PrD O' K H' xs PL:=Paired.SE h λ_ _ q=>⟨q.1,q.2.1.ev e,q.2.2.ev e⟩
theorem ye:∀{xs:cc (KD×OL×V)} {PL:cc (D×D)},PrD O K H xs PL->L3.QC O K H (xs.map (·.2.2)) (PL.map (·.2)):=by
 intro _ _ a
 induction a with
 |nil=>exact .nil
 | @cons _ _ _ _ h t ih=>exact .cons h.2.2 (ih)
def gL(neg:Bool)(fk fd:cI):cI:=λρ ω=>(fk ρ ω).bind λx ω1=>(fd ρ ω1).bind λo Z=>(RS.Qf Z (fE x)).bind λk Z=>(RS.Qf Z (fX Z o)).bind λp Z=>.ok (.fz (.bool ((aV p.2 k).isSome !=neg))) Z
theorem qW(r:c7 K E tk fk)(hd:c7 K E td fd):c7 K E (BQ K neg tk td) (gL neg fk fd):=by intro B U H T ω ρ Q s f w;refine r B U H T ω ρ _ s f (w.bind.imp λx Y ω1 S e1 l j v p=>?_);refine hd B U S Y ω1 ρ _ l (f.R9 e1) (j.bind.imp λo X Z P e2 g e u q=>?_);obtain⟨d,n,e⟩:=WS.Qf e;obtain⟨⟨i,PL⟩,m,e⟩:=WS.Qf e;obtain⟨_,a,xs,ha,rfl,z,h⟩:=iE g q m;obtain⟨k,b,rfl,rfl,t⟩:=gK n (p.R9 e2);refine⟨a,b,xs,k,rfl,rfl,z,mJ h,t.plain,?_⟩;rw[sM h];exact WS.now g e _ (.bl _)
def lC(fd fk:cI):cI:=λρ ω=>(fd ρ ω).bind λo ω1=>(fk ρ ω1).bind λx Z=>(RS.Qf Z (fE x)).bind λk Z=>(RS.Qf Z (fX Z o)).bind λp Z=>(RS.Qf Z (aV p.2 k)).bind λd Z=>.ok (.fz d) Z
theorem xC(hd:c7 K E td fd)(C:c7 K E tk fk):c7 K E (AL K td tk) (lC fd fk):=by intro B U H T ω ρ Q s f w;refine hd B U H T ω ρ _ s f (w.bind.imp λo Y ω1 S e1 m j u A=>?_);refine C B U S Y ω1 ρ _ m (f.R9 e1) (j.bind.imp λx X Z P e2 g e v t=>?_);obtain⟨d,q,e⟩:=WS.Qf e;obtain⟨⟨i,PL⟩,p,e⟩:=WS.Qf e;obtain⟨_,a,xs,ha,rfl,G,h⟩:=iE g (A.R9 e2) p;obtain⟨k,b,rfl,rfl,F⟩:=gK q t;obtain⟨y,n,e⟩:=WS.Qf e;obtain⟨z,r,l⟩:=(g8 h).1 y n;exact⟨a,b,xs,k,z,rfl,rfl,G,mJ h,F.plain,r,WS.now g e z l⟩
def j3(fd fk b:cI):fR:=λρ ω=>(b ρ ω).bind λy ω1=>(fd ρ ω1).bind λo Z=>(fk ρ Z).bind λx a=>(RS.Qf a (fE x)).bind λk a=>(RS.Qf a (fX a o)).bind λp a=>(RS.Qf a (Cw y)).bind λd a=>if p.2.length<1000000 then .ok (.nx ρ) (a.set p.1 (.dd (fC p.2 k d)))else .bad
theorem BG(e:Cw x=cL d)(h:Sl O K H T v x):L3.DV O K H v d:=by
 cases x with
 |fz z=>cases e;exact h
 |rf i=>cases e
 |tp l=>cases e
theorem wT(hd:c7 K E td fd)(hk:c7 K E tk fk)(N:c7 K E tv fv):l6 K E (BU K td tk tv) (j3 fd fk fv):=by
 intro B U H T ω ρ D s h w;refine N B U H T ω ρ _ s h (WS.imp (WS.bind w) λy Y ω1 S e1 F A p m=>?_);refine hd B U S Y ω1 ρ _ F (h.R9 e1) (WS.imp (WS.bind A) λo X Z P e2 C t u Q=>?_);refine hk B U P X Z ρ _ C (h.R9 (e1.trans e2)) (WS.imp (WS.bind t) λx e g j e3 q f z L=>?_);obtain⟨kd,J,f⟩:=WS.Qf f;obtain⟨⟨i,PL⟩,I,f⟩:=WS.Qf f;obtain⟨d,G,f⟩:=WS.Qf f;obtain⟨l,a,xs,ha,rfl,g1,n⟩:=iE q (Q.R9 e3) I;obtain⟨k,b,rfl,rfl,r⟩:=gK J L;have M:=BG G (m.R9 (e2.trans e3));dsimp only at f;by_cases hn:PL.length<1000000
 .rw[ai hn]at f;have ev:Ev (ow B e g) j (ow B e g) (upd j a (DkO a (jw xs k b p))):=tV ha l (by nofun);have e4:QN e g j e (g.set i (.dd (fC PL k.1 d))) (upd j a (DkO a (jw xs k b p))):=QN.put ha l (by nofun) (by nofun);have hl:=Paired.length n;refine⟨a,b,xs,k,rfl,rfl,g1,mJ n,r.plain,ri (by ext),?_⟩;exact f e _ e4 (q.put ha l (by nofun) (by nofun) ⟨_,ay,qN (r.ev ev) (M.ev ev) (sQ ev n)⟩) U ((h.R9 (e1.trans (e2.trans e3))).R9 e4)
 .rw[ak hn]at f;exact f.elim
def jd(fd fk fx:cI):cI:=λρ ω=>(fd ρ ω).bind λo ω1=>(RS.Qf ω1 (fX ω1 o)).bind λ_ ω1=>(fk ρ ω1).bind λx Z=>(fx ρ Z).bind λz a=>(RS.Qf a (fE x)).bind λk a=>(RS.Qf a (fX a o)).bind λp a=>.ok (match aV p.2 k with|some d=>.fz d|none=>z) a
theorem tq(hd:c7 K E td fd)(N:c7 K E tk fk)(L:c7 K E tx fx):c7 K E (uV K td tk tx) (jd fd fk fx):=by
 intro B U H T ω ρ Q s j w;refine hd B U H T ω ρ _ s j (w.bind.imp λo Y ω1 S e1 m g u n=>?_);obtain⟨⟨i0,WU⟩,I,g⟩:=WS.Qf g;obtain⟨_,a,Xk,_,rfl,g0,_⟩:=iE m n I;refine⟨a,Xk,rfl,g0,?_⟩;refine N B U S Y ω1 ρ _ m (j.R9 e1) (g.bind.imp λx X Z P e2 C A v M=>?_);refine L B U P X Z ρ _ C (j.R9 (e1.trans e2)) (A.bind.imp λz t r H3 e3 l f vz J=>?_);obtain⟨d,G,f⟩:=WS.Qf f;obtain⟨⟨i,PL⟩,F,f⟩:=WS.Qf f;obtain⟨_,a',xs,ha,ea,g1,p⟩:=iE l (n.R9 (e2.trans e3)) F;cases ea;obtain⟨k,b,rfl,rfl,hb⟩:=gK G (M.R9 e3);refine⟨b,xs,k,rfl,g1,mJ p,hb.plain,WS.now l f _ ?_⟩;obtain⟨h1,h2⟩:=g8 p;dsimp only;cases q:aV PL k.1 with
 |none=>rw[h2 q];exact J
 |some y=>obtain⟨u,e,h⟩:=h1 y q;rw[e];exact h
def lQ(fd fk:cI):cI:=λρ ω=>(fd ρ ω).bind λo ω1=>(RS.Qf ω1 (fX ω1 o)).bind λ_ ω1=>(fk ρ ω1).bind λx Z=>(RS.Qf Z (fE x)).bind λk Z=>(RS.Qf Z (fX Z o)).bind λp Z=>(RS.Qf Z (aV p.2 k)).bind λd Z=>.ok (.fz d) (Z.set p.1 (.dd (iY p.2 k)))
theorem xL(hd:c7 K E td fd)(G:c7 K E tk fk):c7 K E (y6 K td tk) (lQ fd fk):=by intro B U H T ω ρ Q s j w;refine hd B U H T ω ρ _ s j (w.bind.imp λo Y ω1 S e1 m f u n=>?_);obtain⟨⟨N,WU⟩,A,f⟩:=WS.Qf f;obtain⟨_,a,M,_,rfl,g0,_⟩:=iE m n A;refine⟨a,M,rfl,g0,?_⟩;refine G B U S Y ω1 ρ _ m (j.R9 e1) (f.bind.imp λx X Z P e2 l e v F=>?_);obtain⟨d,t,e⟩:=WS.Qf e;obtain⟨⟨i,PL⟩,r,e⟩:=WS.Qf e;obtain⟨g,a',xs,ha,L,J,h⟩:=iE l (n.R9 e2) r;cases L;obtain⟨k,b,rfl,rfl,I⟩:=gK t F;obtain⟨y,q,e⟩:=WS.Qf e;obtain⟨z,C,p⟩:=(g8 h).1 y q;have ev:Ev (ow B X Z) P (ow B X Z) (upd P a (DkO a (kg xs k))):=tV ha g (by nofun);have e4:QN X Z P X (Z.set i (.dd (iY PL k.1))) (upd P a (DkO a (kg xs k))):=QN.put ha g (by nofun) (by nofun);refine⟨b,xs,k,z,rfl,J,mJ h,I.plain,C,?_⟩;exact e X _ e4 (l.put ha g (by nofun) (by nofun) ⟨_,ay,xY (sQ ev h)⟩) z (Sl.R9 e4 p)
def lG:cI:=λ_ ω=>.ok (.rf ω.length) (ω++[.dd []])
theorem xz:c7 K E zq lG:=by intro B U H T ω ρ Q s b w;exact λp a=>rY s a w λ_=>⟨[],ay,.nil⟩
def mF(fd:cI):cI:=λρ ω=>(fd ρ ω).bind λo ω1=>(RS.Qf ω1 (fX ω1 o)).bind λp ω1=>.ok (.fz (.bool (!p.2.isEmpty))) ω1
theorem A1(hd:c7 K E td fd):c7 K E (E7 td) (mF fd):=by
 intro B U H T ω ρ Q s f w;refine hd B U H T ω ρ _ s f (w.bind.imp λo Y ω1 S e1 e b u h=>?_);obtain⟨⟨i,PL⟩,g,b⟩:=WS.Qf b;obtain⟨_,a,xs,ha,rfl,m,l⟩:=iE e h g;refine⟨a,xs,rfl,m,λp j=>?_⟩;have d:QL S (upd S p (DkO p [])):=bE j _;have n:xs.isEmpty=PL.isEmpty:=by cases l<;>rfl
 rw[n];exact b Y _ (QN.same d) (e.grow d) _ (.bl _)
def lR(fd:cI):cI:=λρ ω=>(fd ρ ω).bind λo ω1=>(RS.Qf ω1 (fX ω1 o)).bind λp ω1=>if okO (p.2.map (·.2))=OG then(RS.Qf ω1 (p.2.map (·.2))[minI (p.2.map (·.2))]?).bind λd ω1=>.ok (.fz d) ω1 else .bad
theorem wF(hd:c7 K E td fd):c7 K E (B8 (Fi K) (c8 (vH td) iI)) (lR fd):=by
 intro B U H T ω ρ Q s n w;refine hd B U H T ω ρ _ s n (w.bind.imp λo Y ω1 S e1 h b u z=>?_);obtain⟨⟨i,PL⟩,t,b⟩:=WS.Qf b;obtain⟨_,a,xs,ha,rfl,m,G⟩:=iE h z t;refine⟨a,xs,rfl,rfl,m,λp A=>?_⟩;have e:QL S (upd S p (JU p a)):=bE A _;have q:=h.grow e;dsimp only at b;by_cases f:okO (PL.map (·.2))=OG
 .rw[ai f]at b
  obtain⟨d,j,b⟩:=WS.Qf b;have l:=(ye G).ev (Ev.grow e);have C:0<(PL.map (·.2)).length:=by
   cases PL with
   |nil=>cases j
   |cons x r=>rw[OM,OQ];ext
  refine⟨p,a,xs,PL.map (·.2),rfl,ay,e _ _ m,l.plain,C,f,λv J ev g _=>?_⟩;obtain⟨I,h1,F⟩:=l.get g;rw[ev]at h1;cases h1;rw[j]at g;cases g;exact b Y _ (QN.same e) q _ F
 .rw[ak f]at b;exact b.elim
end
end L10
namespace PySem
open Sem (wp)
namespace F
theorem lk_list_keys:typeLookup (.type "list") "keys"=pure CL:=by rw[aal,Xb];kernel_rfl
theorem lk_list_hook:typeLookup (.type "list") "__getattr__"=pure CL:=by rw[aal,Xb];kernel_rfl
end F
section
variable{prog:Pa}{w:Pz}{A:Pp}{E:OC->OK->Prop}{h:Heap}{g:Array Ux}{d:YL}{t:Nat}{Z:YQ}{a:OL}{o:Obj}
theorem kj{f:Tok}{Q:Fin->OK->Prop}{E:OC->OK->Prop}{m:Array OC}{n:Nat}{i:Array (cj OC)}(j:h.get? a=cL ⟨.type "list",CL,.seq m n,i⟩)(l:A.handled=CL)(k:∀e h' t',(∀b o,h.get? b=cL o->h'.get? b=cL o)->(⟨h',g,d,t',Z⟩:OK).TypeIs e "AttributeError"->E e ⟨h',g,d,t',Z⟩):
  wpAny (model prog w) A (Pb.«object.__getattribute__» ⟨[.ref a,.str "keys" f],[]⟩) Q E ⟨h,g,d,t,Z⟩:=by
 have p:(⟨h,g,d,t,Z⟩:OK).TypeIs (.ref a) "list":=⟨_,j,rfl⟩;have q:=F.lk_list_keys
 repeat (any_goals (first|assumption|wp_step))
 exact tL (by decide+kernel) l k
theorem pE{f:Tok}{Q:OC->OK->Prop}{E:OC->OK->Prop}{r:Array OC}{n:Nat}{k:Array (cj OC)}(i:h.get? a=cL ⟨.type "list",CL,.seq r n,k⟩)(p:A.handled=CL)(l:∀e h' t',(∀b o,h.get? b=cL o->h'.get? b=cL o)->(⟨h',g,d,t',Z⟩:OK).TypeIs e "AttributeError"->E e ⟨h',g,d,t',Z⟩):
  wpAny (model prog w) A (getAttrBy (.ref a) (.str "keys" f) OP) Q E ⟨h,g,d,t,Z⟩:=by
 have q:(⟨h,g,d,t,Z⟩:OK).TypeIs (.ref a) "list":=⟨_,i,rfl⟩;have z:=F.slot_list_getattribute.lookup;have v:=F.slot_list_getattribute.bind (.ref a);have u:=F.lk_list_hook
 repeat (any_goals (first|assumption|wp_step))
 refine codeAny_call_builtin F.slot_list_getattribute.plain F.entry_list_ga (F.slot_list_getattribute.check _ _ _ _ _ _ _ _ q (F.args_list_getattribute_2 _ _) (kj i p λe h' t' m j=>?_));have fs:=F.sub_ae;show wpAny (model prog w) A (getattributeRaised (OC.ref a) (OC.str (Str.ofString "keys") f) (OC.type "list") e CL OP OP) Q E _;unfold getattributeRaised;refine lD (Rb j fs ?_)
 repeat (any_goals (first|assumption|wp_step))
 exact l e h' t' m j
theorem kY{Q:cj OC->OK->Prop}{m:Array OC}{n:Nat}{f:Array (cj OC)}(i:h.get? a=cL ⟨.type "list",CL,.seq m n,f⟩)(l:A.handled=CL)(j:∀h' t',(∀b o,h.get? b=cL o->h'.get? b=cL o)->Q CL ⟨h',g,d,t',Z⟩):
  wpAny (model prog w) A (getAttr? (.ref a) "keys") Q E ⟨h,g,d,t,Z⟩:=by
 unfold getAttr? getAttrBy?;have fs:=F.sub_ae;refine lD ?_
 repeat (any_goals (first|assumption|(with_reducible refine pE i l λe h' t' k p=>?_)|wp_step))
 exact j h' t' k
end
end PySem
namespace L10
open PySem PySem.Spec PyProof.Rows L2 L3 LD
def se:cc D->cj RV
 |[d,e]=>if okO [d,e]=OG then cL (.fz (if ltd e d=cL OG then e else d))else CL
 |_=>CL
theorem yp{a b:D}{l:cc D}(h:a=.list l\/b=.list l):ltd a b=CL:=by rcases h with h|h<;>subst h<;>cases ‹D›<;>simp[ltd]
theorem EY{O:aN}{K:Bn}{H:Hp}{v:V}{d:D}(h:DX O K H v d)(n:∀l,d≠.list l):L3.DV O K H v d:=by
 cases d with
 |list l=>exact cb rfl (n l)
 |_=>exact h
theorem yQ{K:Bn}:B5 K (Fp K) se:=by
 intro O H xs ds rv Q n o e q;unfold se at e;split at e
 .rename_i d e1
  split at e
  .rename_i a
   cases e;have l1:=pA a (i:=0) (j:=0) rfl rfl;have m:=pA a (i:=1) (j:=1) rfl rfl;have h:∀z:D,(∃r,ltd z z=cL r)->∀l,z≠.list l:=λz ⟨r,k⟩ l e=>by rw[yp (.inl e)]at k;cases k
   cases o with
   |cons h1 b=>cases b with
    |cons b p=>
     cases p;have g:=EY h1 (h _ ⟨_,l1⟩);have f:=EY b (h _ ⟨_,m⟩);refine⟨_,_,d,e1,rfl,g.plain,f.plain,a,?_⟩;split
     .rename_i z;rw[ai z]at q;exact q.at f
     .rename_i z;rw[ak z]at q;exact q.at g
  .cases e
 .cases e
end L10
namespace L10
open PySem PyProof.Rows L2 L3 LD
section
variable{B O O':aN}{K:Bn}{E:XK}{H H' H1 H2:Hp}{α α' α1 α2:cc OL}{ω ω' ω1 ω2:aG}{σ:L2.St}{ρ:aE}{v:V}
theorem vq:∀{vs:cc V} {xs:cc SV} {ds:cc D},Rv O K H α vs xs->aq Cw xs=cL ds->L3.QC O K H vs ds
 |_,_,_,.nil,e=>by cases e;exact .nil
 |_,_,_,.cons (a:=v) (b:=x) (l₂:=xs) h t,e=>by
  unfold aq at e;cases q:Cw x with
  |none=>rw[q]at e;cases e
  |some d=>
   rw[q]at e;dsimp only at e;cases q2:aq Cw xs with
   |none=>rw[q2]at e;cases e
   |some ds=>rw[q2]at e;cases e;exact .cons (BG q h) (vq t q2)
end
end L10
namespace L3
open PySem PyProof.Rows L2
structure abQ(K:Bn)(x qual:Str)(st:Rk)(f:OL)(fd:Qx)(T:OL)(Qe:Array OC):Prop where
 ex:∃(oc:OC) (od:cj OL) (kV doc pm:OC) (an:cj OL) (RD ct:OC) (WG:Array (cj OC)),
  fd=Rq x qual (ir st) (cF st) (aw st) (.ref T) kV doc pm an RD ct/\K.lookup f=cL ⟨oc,od,.func fd,WG⟩/\Tf K RD qual=OG
 kp:Q0 K (.ref f)=OG
 tp:∃o n,K.lookup T=cL o/\o.data=.seq Qe n
end L3
namespace L10
open PySem L2 L3
def MZ(T:A->aG->Prop)(X:Xc->Prop):RS A->Prop
 |.ok a ω=>T a ω
 |.er x _=>X x
 |.bad=>False
structure Out{A:Type}(r:RS A)(T:A->aG->Prop)(X:Xc->Prop):Prop where
 out:MZ T X r
end L10
namespace L3
open PySem PyProof.Rows L2
section
variable{P:Pa}{w:Pz}{K:Bn}{mg:Str->cj OC}{base h:Heap}{f T:OL}{n:Str}{t:Rk}{ps:cc Str}{lv:Nat}{sp:Sp}{CX:pY}{Qe:Array OC}
structure DI(K:Bn)(f T:OL)(n:Str)(t:Rk)(Qe:Array OC):Prop where
 a:Qr K PK n=cL (cL (.ref f))
 F:∃fd,abQ K n n t f fd T Qe
end
structure Tp(P:Pa)(w:Pz)(K:Bn)(mg:Str->cj OC)(base h:Heap):Prop where
 X:K.In h
 G:h.Ns PK mg
section
variable{P:Pa}{w:Pz}{K:Bn}{mg:Str->cj OC}{base h:Heap}{f C T:OL}{n m q:Str}{t:Rk}{Z fs:cc Str}{lv:Nat}{sp:Sp}{CX:pY}{Qe:Array OC}
theorem NI.c(i:NI K f n t)(W:Tp P w K mg base h)(ok:∀fd,Vk K n n t f fd->FnOk P w K mg base jC lv f fd Z sp)(hb:BA n n t Z:=by walk_at "ba"):rA P w K mg base lv n Z sp:=i.cal W.X W.G hb ok
end
end L3
namespace LD
open PySem PyProof.Rows L2 L3 L10
section
variable{prog:Pa}{w:Pz}{A:Pp}{E:OC->OK->Prop}{s:OK}
theorem En{d:OL}{o:Obj}{es:Array QB}{a:Nat}{Q:OC->OK->Prop}(nd:(d==Q6)=OP)(g:s.heap.get? d=cL o)(c:o.ExactDict)(e:o.data=.dict es a)
  (q:Q (.ref s.heap.objs.size) {s with heap:=s.heap.push {cls:=.type "dict_keyiterator",data:=.fields #[.ref d,.int 0 0,.int es.size 0,.int a 0]}}):wpAny (model prog w) A (pyIter (.ref d)) Q E s:=by
 have ty:s.TypeIs (.ref d) "dict":=⟨o,g,c.1⟩;refine YT ty F.slot_dict_iter (Qk F.slot_dict_iter ty F.entry_dict_iter ?_ (F.args_dict_iter_1 _));unfold Pb.«dict.__iter__» Pb.Dict.dictSlotNone;refine lD (lD (RA ty (OE ?_)));show wpAny _ _ (Pb.Dict.showsAll d>>=_) _ _ s;unfold Pb.Dict.showsAll;rw[ak (by rw[nd];exact OX)];refine lD (OE (lD (Qv g e (lD (Rr g e ?_)))));refine lD (Pw (OE ⟨_,rfl,"dict_keyiterator",_,⟨_,c4 _ rfl,rfl⟩,F.slot_dict_keyiterator_next.lookup,?_⟩))
 simpa [rawInt]using q
theorem Ek{a d:OL}{o:Obj}{es:Array QB}{i h:Nat}{x:QB}{Q:cj OC->OK->Prop}(b:s.heap.IsKeyIter a d i es.size h)(g:s.heap.get? d=cL o)(e:o.data=.dict es h)(k:es[i]?=cL x)
  (q:∀h',h'.IsKeyIter a d (i+1) es.size h->Heap.SameBut a s.heap h'->Q (cL x.key) {s with heap:=h'}):wpAny (model prog w) A (pyNext (.ref a)) Q E s:=by
 obtain⟨t,h1,l,f⟩:=id b;unfold pyNext;refine lD (Ti (QA (name:=Str.ofString "__next__") b.typeIs F.slot_dict_keyiterator_next (Qk F.slot_dict_keyiterator_next b.typeIs F.entry_dict_keyiterator_next ?_ (F.args_dict_keyiterator_next_1 _))));refine lD (OE (lD (lD ?_)));refine lD (Rj b.typeIs (OE (lD (T7 h1 f ?_))));have j:Pb.Dict_items.ownsTuple "dict_keyiterator"=OP:=by decide
 simp only[j,OS,if_false];show wpAny _ _ (if(OC.ref d==OC.none)=OG then _ else _) _ _ s;rw[ak (show¬((OC.ref d==OC.none)=OG)from OX)];refine lD (OE (lD (Qv g e ?_)));rw[ak (by simp)];refine lD (OE (lD (Rr g e ?_)));rw[ak (by simp)];refine OE ?_;simp only[show¬((i:Int)<0)from by ext,if_false,Qp,k];refine lD (lD (Rj b.typeIs (OE ?_)));refine lD (Xd b.typeIs ?_);show wpAny _ _ (setField (.ref a) 1 (rawInt ((i:Int)+1))>>=_) _ _ s;refine lD (RG h1 f (by simp) ?_)
 have k2:(s.heap.update a (Obj.mapFields (·.setIfInBounds 1 (rawInt ((i:Int)+1))))).IsKeyIter a d (i+1) es.size h:=
  ⟨_,c6 _ h1 (dN (dt f _)),(Obj.cls_mapFields ..).trans l,by rw[dt f];simp[rawInt]⟩
 refine lD (QE (lD (Xd (s:={s with heap:=s.heap.update a (Obj.mapFields (·.setIfInBounds 1 (rawInt ((i:Int)+1))))}) k2.typeIs ?_)));show wpAny _ _ (pure x.key) _ _ _;exact OE (OE ⟨_,rfl,OE (q _ k2 (Heap.SameBut.update ..))⟩)
theorem Je{h d:OL}{o:Obj}{es:Array QB}{i k:Nat}{Q:cj OC->OK->Prop}(p:A.handled=CL)(f:s.heap.IsKeyIter h d i es.size k)(g:s.heap.get? d=cL o)(e:o.data=.dict es k)(n:es.size<=i)
  (q:∀h',Heap.ExtBut h s.heap h'->Q CL {s with heap:=h'}):wpAny (model prog w) A (pyNext (.ref h)) Q E s:=by
 obtain⟨t,h1,r,j⟩:=id f;unfold pyNext;refine lD (Ti (QA (name:=Str.ofString "__next__") f.typeIs F.slot_dict_keyiterator_next (Qk F.slot_dict_keyiterator_next f.typeIs F.entry_dict_keyiterator_next ?_ (F.args_dict_keyiterator_next_1 _))));refine lD (OE (lD (lD ?_)));refine lD (Rj f.typeIs (OE (lD (T7 h1 j ?_))));have l:Pb.Dict_items.ownsTuple "dict_keyiterator"=OP:=by decide
 simp only[l,OS,if_false];show wpAny _ _ (if(OC.ref d==OC.none)=OG then _ else _) _ _ s;rw[ak (show¬((OC.ref d==OC.none)=OG)from OX)];refine lD (OE (lD (Qv g e ?_)));rw[ak (by simp)];refine lD (OE (lD (Rr g e ?_)));rw[ak (by simp)];refine OE ?_;simp only[show¬((i:Int)<0)from by ext,if_false,Qp,Vd n];refine lD (lD (Rj f.typeIs (OE ?_)));show wpAny _ _ (setField (.ref h) 0 .none>>=_) _ _ s;refine lD (RG h1 j (by simp) ?_);show wpAny _ _ (newExc (.type "StopIteration") []>>=_) _ _ _;simp only[newExc,newTuple];refine lD (lD (Pw ?_ (by size_fits)));refine lD (m:=firstArgMember _ _) (Te (a:=OC.none) (by first|rfl|(simp only[firstArgMember];rfl)) ?_);refine Pw ?_ (by size_fits);simp only[raiseNew];refine lD (acK ?_);rw[show A.in1.handled=CL from p];refine lD (OE (wpAny_throw ?_));refine lD (Rb (T:= "StopIteration") (b:=OG) ⟨_,c4 _ rfl,rfl⟩ aba ?_);exact OE (q _ (((Heap.SameBut.update ..).extBut.push _).push _))
end
def vV(b:Obj)(a:OL)(xs:cc (KD×OL×V)):HO:=.Y0 λw h=>NO a xs w h/\h.get? a=cL b
theorem LN{P:Pa}{w:Pz}{H H':Hp}{h:Heap}{a:OL}{b:Obj}{xs:cc (KD×OL×V)}(g:h.get? a=cL b)(o:Qt P w H' h a (DkO a xs)):Qt P w H h a (vV b a xs):=by obtain⟨p,_,_⟩:=o;refine⟨⟨p,g⟩,⟨b,g⟩,?_⟩;rintro f e ⟨⟨q,o,es,d,e1,e2⟩,e3⟩ st;exact⟨⟨q,o,es,d,st o e1,e2⟩,st _ e3⟩
theorem Fb{P:Pa}{w:Pz}{H H':Hp}{h:Heap}{a:OL}{b:Obj}{xs:cc (KD×OL×V)}(o:Qt P w H h a (vV b a xs)):Qt P w H' h a (DkO a xs):=by obtain⟨⟨p,g⟩,_,_⟩:=o;refine⟨p,⟨b,g⟩,?_⟩;rintro f e ⟨q,o,es,d,e1,e2⟩ st;exact⟨q,o,es,d,st o e1,e2⟩
theorem vW{P:Pa}{w:Pz}{H:Hp}{h:Heap}{a:OL}{b:Obj}{xs:cc (KD×OL×V)}(o:Qt P w H h a (vV b a xs)):(a==Q6)=OP/\b.ExactDict/\h.get? a=cL b/\∃es ep,b.data=.dict es ep/\Paired (λ(x:KD×OL×V) (e:QB)=>e.hash=j5 w x.1.1/\e.key=.ref x.2.1/\RelV x.2.2 e.val) xs es.toList:=by obtain⟨⟨⟨⟨_,n,_⟩,o,es,ep,e1,e2,e3,e4⟩,g⟩,_,_⟩:=o;rw[g]at e1;cases e1;exact⟨n,e2,g,es,ep,e3,e4⟩
theorem eU{α a:Type}{R:α->a->Prop}:∀{xs:cc α} {ys:cc a} {i:Nat} {x:α},Paired R xs ys->xs[i]?=cL x->∃y,ys[i]?=cL y/\R x y
 |_,_,_,_,.nil,e=>by simp at e
 |_,_,0,_,.cons h _,e=>by simp at e;subst e;exact⟨_,rfl,h⟩
 |_,_,i+1,_,.cons _ t,e=>by obtain⟨y,h1,b⟩:=eU (i:=i) t (by simpa using e);exact⟨y,by simpa using h1,b⟩
def Nr(d:Obj)(a:OL)(xs:cc (KD×OL×V)):It:=
 ⟨λi H=>H a=cL (vV d a xs)/\i<xs.length,λi H x e=>e=H/\∃k b v,xs[i]?=cL (k,b,v)/\x=.ref b,λi H=>H a=cL (vV d a xs)/\xs.length<=i⟩
theorem wU{P:Pa}{w:Pz}{K:Bn}{tg:Po}(a l:OL)(n:Obj)(es:Array QB)(T:Nat)(f:n.data=.dict es T)(xs:cc (KD×OL×V))(hl:es.size=xs.length):Turn P w K tg (Nr n a xs) [l] l (λi h=>h.IsKeyIter l a i es.size T) where
 mem:=by simp
 obj:=λi h st b m=>by
  have e:b=l:=by simpa using m
  subst e;obtain⟨o,e,c,d⟩:=st;exact⟨o,e,λv z=>by rw[d]at z;cases z⟩
 keep:=λi h r st k=>st.at λo e=>k l (by simp) o e
 item:=by intro X B t C S i j s N H E I q st u;subst B t C;obtain⟨A,hi⟩:=u;obtain⟨_,_,g,X1,ZI,e,O⟩:=vW (show Qt X.prog X.w H s.heap a (vV n a xs)from I.QX a _ A);rw[f]at e;cases e;obtain⟨⟨k,b,v⟩,Q⟩:∃p,xs[i]?=cL p:=⟨xs[i],OY hi⟩;obtain⟨y,Z,_,ky,_⟩:=eU O Q;obtain⟨M,L,f2,J,G,F⟩:=q l (by simp);refine Ek st g f (by rw[<-Qg];exact Z) λr U Y=>?_;have I1:Inv X j N H {s with heap:=r}:=I.turned (t':=s.toks) (λb o m e=>(Y.2 b m).trans e) M L J G F;obtain⟨o',e',c',d'⟩:=id U;exact⟨_,rfl,qH (s:={s with heap:=r}) e' c' d' (by decide) ⟨.ref b,H,I1,ky,⟨rfl,k,b,v,Q,rfl⟩,U,λb m=>(q b m).1⟩⟩
 done:=by intro X B t C S i j s N H E I q st u;subst B t C;obtain⟨A,hi⟩:=u;obtain⟨_,_,g,X1,ZI,e,O⟩:=vW (show Qt X.prog X.w H s.heap a (vV n a xs)from I.QX a _ A);rw[f]at e;cases e;obtain⟨M,L,f2,J,G,F⟩:=q l (by simp);exact Je (I.ok.hd S) st g f (by ext) λr eb=>⟨rfl,I.turned (t':=s.toks) (λb o m e=>eb b o m e) M L J G F⟩
 self:=λ_ _ _ _ _ st h=>wpAny_pyIter_keyiter st h
def BX(e:TE):TI:=λd H R=>e d H λx b=>∃a xs,x=.ref a/\b a=cL (DkO a xs)/\∀ob,R (Nr ob a xs) (upd b a (vV ob a xs))
def Fk(t:TE):TE:=λd H Q=>t d H λx b=>∃a ob xs,b a=cL (vV ob a xs)/\Q x (upd b a (DkO a xs))
def tPDGet(K:Bn)(f ty:TE):TE:=λe H Q=>f e H λx g=>ty e g λy d=>∃a b ob xs k v,x=.ref a/\y=.ref b/\d a=cL (vV ob a xs)/\i8 K (upd d a (DkO a xs)) xs/\L2.DV K (upd d a (DkO a xs)) (.ref b) k.1/\g7 xs k=cL v/\Q v d
section
variable{X:Cx}{tg:Po}
theorem pi_keysD{l:Po}{p:TE}(G:PE X l p):PI X tg l (BX p):=by
 intro f s B H R I h;refine bK (G f s B H _ I h) λv d ⟨x,A,j,C,E⟩=>?_;obtain⟨a,xs,e,i,q⟩:=E;subst e;cases C;have F:Qt X.prog X.w A d.heap a (DkO a xs):=j.QX a _ i;obtain⟨⟨⟨z,y,nd⟩,g,es,n,e,L,r,K⟩,_⟩:=id F;have m:es.size=xs.length:=by rw[Paired.length K,Pt]
 refine En y e L r ?_;have k:∀b o,d.heap.get? b=cL o->(d.heap.push {cls:=.type "dict_keyiterator",data:=.fields #[.ref a,.int 0 0,.int es.size 0,.int n 0]}).get? b=cL o:=λb o e=>c0 _ e;have t:=j.kept (t':=d.toks) k;have M:=t.write (x:=a) (e:=a) (o:=vV g a xs) (t':=d.toks) (h':=d.heap.push {cls:=.type "dict_keyiterator",data:=.fields #[.ref a,.int 0 0,.int es.size 0,.int n 0]}) (by rw[i];trivial) (.inl rfl) (λb u _ e=>e) ⟨g,k _ _ e⟩ (LN (k _ _ e) (show Qt X.prog X.w A _ a (DkO a xs)from t.QX a _ i));refine⟨d.heap.objs.size,[d.heap.objs.size],_,_,_,rfl,M,wU a _ g es n r xs m,⟨_,c4 _ rfl,rfl,rfl⟩,λb J=>?_,q g⟩;have e:b=d.heap.objs.size:=by simpa using J
 subst e;have hn:=j.QX.fresh (OJ d.heap.objs.size);refine j.VY (OJ _) ?_;rw[au (λz=>by rw[z,i]at hn;cases hn)];exact hn
theorem pe_unpD{l:Po}{g:TE}(p:PE X l g):PE X l (Fk g):=by intro d s m H Q I h;refine bK (p d s m H _ I h) λv f ⟨x,r,k,n,a,i,xs,j,q⟩=>?_;have o:=(show Qt X.prog X.w r f.heap a (vV i a xs)from k.QX a _ j);exact⟨x,_,k.write (x:=a) (e:=a) (o:=DkO a xs) (t':=f.toks) (h':=f.heap) (by rw[j];trivial) (.inl rfl) (λb u _ e=>e) ⟨i,(vW o).2.2.1⟩ (Fb o),n,q⟩
theorem pe_pdget{o i:Po}{pos:Pos}{q ty:TE}(O:X.A.units+64<cLine)(T:PE X o q)(hi:PE X i ty)(P:JL i):PE X (.Subscript o i pos) (tPDGet X.K q ty):=by intro d s n H Q I h;refine uJ Uv.lookup P (bK (T d s n H _ I h) λu B ⟨x,H1,I1,E,G⟩=>bK (hi d B n H1 _ I1 G) λM f ⟨y,t,m,C,a,b,r,xs,k,v,Y,U,e,J,L,g,F⟩=>?_);subst Y U;obtain rfl:u=OC.ref a:=E;obtain rfl:M=OC.ref b:=C;have oo:=(show Qt X.prog X.w t f.heap a (vV r a xs)from m.QX a _ e);have l:=m.write (x:=a) (e:=a) (o:=DkO a xs) (t':=f.toks) (h':=f.heap) (by rw[e];trivial) (.inl rfl) (λb u _ e=>e) ⟨r,(vW oo).2.2.1⟩ (Fb oo);refine⟨(ig l ay).1,?_⟩;obtain⟨z,hd,ys,j,dd⟩:=kT l ay J;obtain⟨w',N,VC⟩:=Ug.some_of (v:=v) (o:=(atKey ys k).map (·.2)) (by rw[<-g];exact jI j);obtain⟨p,S,Z⟩:=PM.mp N;refine Yh (gg O) (gI l L) dd S ?_;rw[Z];exact⟨v,t,m.tok _,VC,F⟩
end
def restOf(PL:cc (D×D))(k:D):cj D:=match aV PL k with
 |some (.tuple (x::_))=>cL (.tuple [k,x])
 |_=>CL
def restsL(PL:cc (D×D)):cj (cc D):=if PL.length<1000000 then aq (restOf PL) (PL.map (·.1))else CL
def restK(j:Nat):cI:=λρ ω=>(bA j ρ ω).bind λo a=>(RS.Qf a (fX a o)).bind λp a=>(RS.Qf a (restsL p.2)).bind λds a=>.ok (.rf a.length) (a++[.lst (ds.map SV.fz)])
theorem kW{α b:Type}{f:α->cj b}:∀{l:cc α} {m:cc b} {i:Nat} {x:α},aq f l=cL m->l[i]?=cL x->∃y,m[i]?=cL y/\f x=cL y
 |[],_,_,_,_,e=>by simp at e
 |a::l,m,i,x,h,e=>by
  unfold aq at h;cases q:f a with
  |none=>rw[q]at h;cases h
  |some y=>
   rw[q]at h;dsimp only at h;cases q2:aq f l with
   |none=>rw[q2]at h;cases h
   |some ys=>
    rw[q2]at h;cases h;cases i with
    |zero=>simp at e;subst e;exact⟨y,rfl,q⟩
    |succ i=>obtain⟨z,h1,d⟩:=kW q2 (by simpa using e);exact⟨z,by simpa using h1,d⟩
theorem lw{α b:Type}{f:α->cj b}:∀{l:cc α} {m:cc b},aq f l=cL m->m.length=l.length
 |[],_,h=>by cases h;rfl
 |a::l,m,h=>by
  unfold aq at h;cases q:f a with
  |none=>rw[q]at h;cases h
  |some y=>
   rw[q]at h;dsimp only at h;cases q2:aq f l with
   |none=>rw[q2]at h;cases h
   |some ys=>rw[q2]at h;cases h;rw[OQ,OQ,lw q2]
theorem qX{O:aN}{K:Bn}{H:Hp}{v:V}{d:D}(h:L3.DV O K H v d):∀{vs:cc V} {ds:cc D},L3.QC O K H vs ds->L3.QC O K H (vs++[v]) (ds++[d])
 |_,_,.nil=>.cons h .nil
 |_,_,.cons a t=>.cons a (qX h t)
theorem sE{O:aN}{K:Bn}{H:Hp}{α:cc OL}:∀{vs:cc V} {ds:cc D},L3.QC O K H vs ds->Rv O K H α vs (ds.map SV.fz)
 |_,_,.nil=>.nil
 |_,_,.cons a t=>.cons a (sE t)
section
variable{K:Bn}{E:XK}
theorem eos_restK{x y:Str}{j:Nat}:c7 K E (Fk (mX [x] [(y,j)] (BX (fY j)) (jp 0) sk (wH (c8 (fY 0) (c8 (wA (wM K) (tPDGet K (fY 1) (fY 0)) (tC (.int 0))) iI))))) (restK j):=by
 intro B σ H α ω ρ Q s sl w;unfold restK bA at w;cases q:ρ[j]? with
 |none=>rw[q]at w;exact w.elim
 |some o=>
  cases o with
  |none=>rw[q]at w;exact w.elim
  |some z=>
   rw[q]at w;obtain⟨v,h1,h2⟩:=sl.2 j z q;obtain⟨⟨i0,PL⟩,q2,w⟩:=WS.Qf w;obtain⟨ds,m,w⟩:=WS.Qf w;obtain⟨qi,a,xs,ha,rfl,Z,M⟩:=iE s h2 q2;unfold restsL at m;dsimp only at m;by_cases hm:PL.length<1000000
   case neg=>rw[ak hm]at m;cases m
   rw[ai hm]at m;have hl:xs.length=PL.length:=Paired.length M;have hdl:ds.length=xs.length:=by rw[lw m,OH,hl]
   have X:ow B α ω a:=.inr ⟨i0,_,ha,qi,by intro z;cases z⟩;refine⟨_,h1,a,xs,rfl,Z,λS D L=>?_⟩;have N:D≠a:=λe=>by rw[e,ay]at L;cases L
   have G:H D=CL:=by rw[au N]at L;exact L
   have big:(1000000:Nat)<=Pd:=by decide
   have ev:∀{H':Hp},(∀b o,b≠a->H b=cL o->H' b=cL o)->Ev (ow B α ω) H (ow (aY B D) α ω) H':=λk b o h n=>
    ⟨k b o (λe=>n (by rw[e];exact X)) h,λz=>by
     rcases z with(z|z)|z
     .exact n (.inl z)
     .rw[z,G]at h;cases h
     .exact n (.inr z)⟩
   have fresh:∀{H':Hp} {p:OL},(∀b o,b≠a->H b=cL o->H' b=cL o)->H' a≠CL->H' D≠CL->H' p=CL->¬ow (aY B D) α ω p:=λ{H' p} k ka kD hp z=>by
    have Y:p≠a:=λe=>ka (by rw[<-e];exact hp);have hn:∀{b:OL},H b≠CL->b≠a->H' b≠CL:=λ{b} h n e=>by
     cases q:H b with
     |none=>exact h q
     |some o=>rw[k b o n q]at e;cases e
    rcases z with(z|z)|⟨i,c,z,_⟩
    .exact hn (s.bn p z) Y hp
    .exact kD (by rw[<-z];exact hp)
    .exact hn (s.al i p z) Y hp
   refine DQ xs.length (λn f H'=>(∃u,f=[u,cL (.ref a)])/\H' a=cL (vV S a xs)/\(∀b o,b≠a->H b=cL o->H' b=cL o)/\∃ys,H' D=cL (.lst ys)/\ys.length=n/\L3.QC (ow (aY B D) α ω) K H' ys (ds.take n)) ?_ ?_ ?_ ?_ ?_
   .refine⟨⟨CL,?_⟩,by rw[au N.symm,ay],λb o nb h=>?_,[],ay,rfl,.nil⟩
    .show dP [x] [(y,j)] σ=_;unfold dP;simp[h1]
    .rw[au (λe=>by rw[e,G]at h;cases h),au nb];exact h
   .rintro i f H' hi ⟨_,h,_⟩;exact⟨h,hi⟩
   .rintro f H' ⟨_,h,_⟩;exact⟨h,OJ _⟩
   .rintro i f H' x' I hi ⟨⟨u,rfl⟩,e1,e2,ys,e3,e4,e5⟩ ⟨rfl,k,b,v,hx,rfl⟩
    unfold jp sk;dsimp only;rw[ai rfl];obtain⟨⟨kd,vd⟩,T,J,P,p3⟩:=eU M hx;dsimp only at J P p3;obtain⟨r,hr,g⟩:=kW m (by rw[OT,T];rfl);dsimp only at g;have O:PrD (ow (aY B D) α ω) K (upd I a (DkO a xs)) xs PL:=Paired.SE M λ_ _ t=>⟨t.1,t.2.1.ev (ev λb o nb h=>by rw[au nb];exact e2 b o nb h),t.2.2.ev (ev λb o nb h=>by rw[au nb];exact e2 b o nb h)⟩;unfold restOf at g;rw[<-J]at g;cases gd:aV PL k.1 with
    |none=>rw[gd]at g;cases g
    |some d=>
     rw[gd]at g;obtain⟨vv,gx,F⟩:=(g8 (k:=k) M).1 d gd;cases d with
     |tuple l=>
      cases l with
      |nil=>cases g
      |cons x0 l=>
       cases g;have F:=F.ev (ev e2);cases F with
       | @tup p us _ sq hs=>
        cases hs with
        | @cons u0 _ X5 _ d0 ht=>
         have db:L3.DV (ow (aY B D) α ω) K I (.ref b) k.1:=by rw[J];exact P.ev (ev e2)
         refine⟨.ref b,rfl,.ref a,rfl,.ref b,rfl,a,b,S,xs,k,_,rfl,rfl,e1,mJ O,?_,gx,p,_,0,u0,rfl,rfl,sq.1,zG (aam 0) rfl,?_⟩
         .have:=(P.ev (ev (H':=upd I a (DkO a xs)) λb o nb h=>by rw[au nb];exact e2 b o nb h)).plain;rw[<-J]at this;exact this
         .refine⟨by show 2<=_;ext,λt C=>?_⟩
          have ta:t≠a:=λe=>by rw[e,e1]at C;cases C
          have tD:t≠D:=λe=>by rw[e,e3]at C;cases C
          have nt:=fresh e2 (by rw[e1];simp) (by rw[e3];simp) C;refine⟨ys,by rw[au tD.symm];exact e3,by ext,⟨_,rfl⟩,by rw[au N.symm,au ta.symm];exact e1,λc o nc h=>?_,ys++[.ref t],ay,by simp[e4],?_⟩
          .have:=e2 c o nc h;rw[au (λe=>by rw[e,G]at h;cases h),au (λe=>by rw[e,C]at this;cases this)];exact this
          .have A:Ev (ow (aY B D) α ω) I (ow (aY B D) α ω) (upd (upd I t (.tup [.ref b,u0])) D (.lst (ys++[.ref t]))):=λc o h n=>
            ⟨by rw[au (λe=>n (.inl (.inr e))),au (λe=>by rw[e,C]at h;cases h)];exact h,n⟩
           have et:ds.take (i+1)=ds.take i++[.tuple [k.1,x0]]:=by rw[Ua,hr];rfl
           rw[et];refine qX (.tup ⟨.inl (.inl ?_),λz=>cb z nt⟩ (.cons (db.ev A) (.cons (d0.ev A) .nil))) (e5.ev A);rw[au tD,ay]
     |_=>cases g
   .rintro f H' ⟨_,e1,e2,ys,e3,e4,e5⟩
    refine⟨a,S,xs,e1,?_⟩;have U:QL H (upd H' a (DkO a xs)):=λb o h=>by
     by_cases nb:b=a
     .subst nb;rw[ay];rw[Z]at h;exact h
     .rw[au nb];exact e2 b o nb h
    have eD:(upd H' a (DkO a xs)) D=cL (.lst ys):=by rw[au N];exact e3
    have eo:ow (aY B D) α ω=ow B (α++[D]) (ω++[.lst (ds.map SV.fz)]):=p9 s.len (by nofun);have F:L3.QC (ow B (α++[D]) (ω++[.lst (ds.map SV.fz)])) K (upd H' a (DkO a xs)) ys ds:=by rw[<-eo];have t:ds.take xs.length=ds:=Qs (by ext);rw[t]at e5;exact e5.ev λb o h n=>⟨by rw[au (λe=>n (by rw[e];rcases X with z|z;exact .inl (.inl z);exact .inr z))];exact h,n⟩
    exact w (α++[D]) _ (QN.UJ s.len U G) (s.UJ U G (by rw[eD];simp) ⟨ys,eD,sE F⟩) (.ref D) ⟨D,by rw[<-s.len];exact aH,rfl⟩
end
end LD
namespace TS
open PySem PyProof.Rows
set_option autoImplicit true
def fF(M:YM)(A:Pp)(E:OC->OK->Prop)(J:OK->Prop){a α:Type}(m:StateT a Sem α)(Q:α->a->Prop)(st:a):Prop:=
 ∀s,J s->wpAny M A (m.run st) (λr z=>J z/\Q r.1 r.2) E s
section
variable{M:YM}{A:Pp}{E:OC->OK->Prop}{J:OK->Prop}{Z:Type}
theorem ah{α:Type}{a:α}{Q:α->Z->Prop}{st:Z}(h:Q a st):fF M A E J (pure a:StateT Z Sem α) Q st:=by intro s j;rw[StateT.run_pure];exact OE ⟨j,h⟩
theorem ag{α b:Type}{m:StateT Z Sem α}{f:α->StateT Z Sem b}{Q:b->Z->Prop}{st:Z}
  (h:fF M A E J m (λa UT=>fF M A E J (f a) Q UT) st):fF M A E J (m>>=f) Q st:=by
 intro s j;rw[StateT.run_bind];exact lD (wpAny_mono (h s j) (λr z q=>q.2 z q.1) λ_ _ e=>e)
theorem aX{α:Type}{m:StateT Z Sem α}{Q R:α->Z->Prop}{st:Z}(h:fF M A E J m Q st)(q:∀a UT,Q a UT->R a UT):fF M A E J m R st:=
 λs j=>wpAny_mono (h s j) (λr _ z=>⟨z.1,q _ _ z.2⟩) λ_ _ e=>e
theorem eu{Q:Z->Z->Prop}{st:Z}(h:Q st st):fF M A E J (get:StateT Z Sem Z) Q st:=by intro s j;rw[StateT.run_get];exact OE ⟨j,h⟩
theorem Jz{Q:PUnit->Z->Prop}{st x:Z}(h:Q ⟨⟩ x):fF M A E J (set x:StateT Z Sem PUnit) Q st:=by intro s j;rw[StateT.run_set];exact OE ⟨j,h⟩
theorem fJ{f:Z->Z}{Q:PUnit->Z->Prop}{st:Z}(h:Q ⟨⟩ (f st)):fF M A E J (modify f:StateT Z Sem PUnit) Q st:=by intro s j;rw[StateT.run_modify];exact OE ⟨j,h⟩
theorem ie{n:String}{Q:PUnit->Z->Prop}{st:Z}(h:Q ⟨⟩ st):fF M A E J (liftM (rule n):StateT Z Sem PUnit) Q st:=by intro s j;show wpAny M A ((StateT.lift (rule n):StateT Z Sem PUnit).run st) _ E s;rw[StateT.run_lift];exact lD (TJ (OE ⟨j,h⟩))
theorem bW{g:Type}{a b:Nat}{f:Nat->g->StateT Z Sem (ForInStep g)}(I:Nat->g->Z->Prop){Q:g->Z->Prop}
  (k:∀i c st,a<=i->i<b->I i c st->fF M A E J (f i c) (λr z=>match r with|.done d=>Q d z|.yield d=>I (i+1) d z) st)
  (l:∀c st,I (max a b) c st->Q c st) {c:g} {st:Z} (h:I a c st):fF M A E J (forIn [a:b] c f) Q st:=by
 rw[Std.Legacy.Range.forIn_eq_forIn_range'];have sz:([a:b]:Std.Legacy.Range).size=b - a:=by simp[Std.Legacy.Range.size]
 show fF M A E J (forIn (Zn a ([a:b]:Std.Legacy.Range).size 1) c f) Q st;rw[sz];have go:∀(n i:Nat) (c:g) (st:Z),a<=i->i+n=max a b->I i c st->fF M A E J (forIn (Zn i n 1) c f) Q st:=by
  intro n
  induction n with
  |zero=>intro i c st _ e h;rw[List.range'_zero,XX];exact ah (l _ _ (by rw[<-e];exact h))
  |succ n j=>
   intro i c st m e h;rw[List.range'_succ,Uu];refine ag (aX (k i c st m (by ext) h) λr z q=>?_);cases r with
   |done d=>exact ah q
   |yield d=>exact j (i+1) d z (by ext) (by ext) q
 exact go _ a c st (OJ _) (by ext) h
end
structure Ask(prog:Pa)(w:Pz)(A:Pp)(E:OC->OK->Prop)(J:OK->Prop)(κ:SortKind)(S:Keyed->Prop)(f:Keyed->Nat):Prop where
 ask:∀x y s,S x->S y->J s->wpAny (model prog w) A (keyLt' κ x.1 y.1) (λb z=>b=decide (f x<f y)/\J z) (λ_ _=>False) s
def R(f:Keyed->Nat)(xs:Array Keyed)(i:Nat):Nat:=match xs[i]? with
 |some p=>f p
 |none=>0
theorem cJ{f:Keyed->Nat}{xs ys:Array Keyed}{i j:Nat}(h:xs[i]?=ys[j]?):R f xs i=R f ys j:=by unfold R;rw[h]
theorem R_at{f:Keyed->Nat}{xs:Array Keyed}{i:Nat}(h:i<xs.size):R f xs i=f xs[i]:=by unfold R;rw[getElem?_pos xs i h]
structure Gd(κ:SortKind)(a₀:Array Keyed)(st:SortSt):Prop where
 kind:kindOf st=κ
 failed:failedOf st=CL
 perm:(arrOf st).Perm a₀
theorem Gd.size{κ:SortKind}{a:Array Keyed}{st:SortSt}(g:Gd κ a st):(arrOf st).size=a.size:=g.perm.size_eq
theorem Gd.mem{κ:SortKind}{a:Array Keyed}{st:SortSt}(g:Gd κ a st){i:Nat}(h:i<(arrOf st).size):(arrOf st)[i]∈a.toList:=
 (Rt.mp g.perm).mem_iff.mp (by simp)
theorem Gd.arr{κ:SortKind}{a:Array Keyed}{st:SortSt}(g:Gd κ a st){xs:Array Keyed}(h:xs.Perm (arrOf st)):Gd κ a (setArr st xs):=
 ⟨g.kind,g.failed,h.trans g.perm⟩
def So(f:Keyed->Nat)(xs:Array Keyed)(a b:Nat):Prop:=∀i j,a<=i->i<=j->j<b->R f xs i<=R f xs j
section
variable{prog:Pa}{w:Pz}{A:Pp}{E:OC->OK->Prop}{J:OK->Prop}{κ:SortKind}{Z:Array Keyed}{f:Keyed->Nat}
theorem rj(C:Ask prog w A E J κ (·∈Z.toList) f){x y:Keyed}(d:x∈Z.toList)(a:y∈Z.toList){st:SortSt}(k:kindOf st=κ){Q:cj Bool->SortSt->Prop}
  (h:Q (cL (decide (f x<f y))) st):fF (model prog w) A E J (lt' x y) Q st:=by
 rw[lt'_eq];refine ag (eu (ag ?_));intro s j;rw[k];show wpAny _ A ((StateT.lift ((keyLt' κ x.1 y.1).attempt):StateT SortSt Sem _).run st) _ E s;rw[StateT.run_lift];refine lD (Ti (wpAny_mono (C.ask x y s d a j) ?_ λ_ _ e=>e.elim));rintro b z ⟨rfl,j'⟩;exact OE ⟨j',ah h⟩
theorem aQ{xs:Array Keyed}{i:Nat}{x:Keyed}(e:xs[i]?=cL x){st:SortSt}{Q:Keyed->SortSt->Prop}(h:Q x st):fF (model prog w) A E J (elem' xs i) Q st:=by rw[elem'_eq,e];exact ah h
theorem i7(C:Ask prog w A E J κ (·∈Z.toList) f){st:SortSt}(g:Gd κ Z st){i j:Nat}(hi:i<Z.size)(a:j<Z.size){Q:cj Bool->SortSt->Prop}
  (h:Q (cL (decide (R f (arrOf st) i<R f (arrOf st) j))) st):fF (model prog w) A E J (ltAt' i j) Q st:=by
 rw[ltAt'_eq];rw[<-g.size]at hi a;rw[R_at hi,R_at a]at h;refine ag (eu ?_);dsimp only;refine ag (aQ (getElem?_pos (arrOf st) i hi) (ag (aQ (getElem?_pos (arrOf st) j a) ?_)));exact rj C (g.mem hi) (g.mem a) g.kind h
theorem pV{st:SortSt}{i j:Nat}{Q:Unit->SortSt->Prop}(h:Q () (setArr st (mirror (arrOf st) i j ((j - i)/2)))):
  fF (model prog w) A E J (reverseSlice' i j) Q st:=by
 rw[reverseSlice'_eq];exact fJ h
theorem lu{xs:Array Keyed}{i j:Nat}(a:j<=xs.size)(k:Nat):
  R f (mirror xs i j ((j - i)/2)) k=if i<=k/\k<j then R f xs (i+j - 1 - k)else R f xs k:=by
 have e:=getElem?_mirror_all (i:=i) a k;split<;>rename_i h<;>simp only[h,if_true,if_false,not_false_eq_true]at e<;>exact cJ (by simpa [h]using e)
theorem qV{xs:Array Keyed}{a d:Nat}(b:a<xs.size)(hd:d<=a)(k:Nat):
  R f (bubble xs a d) k=if k=a - d then R f xs a else if a - d<k/\k<=a then R f xs (k - 1)else R f xs k:=by
 have e:=getElem?_bubble b d hd k;split
 .rw[ai (by assumption)]at e;exact cJ e
 .rw[ak (by assumption)]at e
  split
  .rw[ai (by assumption)]at e;exact cJ e
  .rw[ak (by assumption)]at e;exact cJ e
end
end TS
namespace TS
open PySem PyProof.Rows
set_option autoImplicit true
section
variable{prog:Pa}{w:Pz}{A:Pp}{E:OC->OK->Prop}{J:OK->Prop}{κ:SortKind}{Z:Array Keyed}{f:Keyed->Nat}
structure Up(κ:SortKind)(Z:Array Keyed)(f:Keyed->Nat)(lo:Nat)(st z:SortSt):Prop where
 gd:Gd κ Z z
 pend:pendingOf z=pendingOf st
 low:∀k,k<lo->(arrOf z)[k]?=(arrOf st)[k]?
theorem Up.rfl{lo:Nat}{st:SortSt}(g:Gd κ Z st):Up κ Z f lo st st:=⟨g,Eq.refl _,λ_ _=>Eq.refl _⟩
theorem Up.mir{lo i j:Nat}{st z:SortSt}(u:Up κ Z f lo st z)(hi:lo<=i)(b:j<=Z.size):Up κ Z f lo st (setArr z (mirror (arrOf z) i j ((j - i)/2))):=
 ⟨u.gd.arr (mirror_perm _ _ _ _),u.pend,λk a=>by show(mirror (arrOf z) i j ((j - i)/2))[k]?=_;rw[getElem?_mirror_all (by rw[u.gd.size];exact b),ak (by ext)];exact u.low k a⟩
theorem CZ(C:Ask prog w A E J κ (·∈Z.toList) f){st:SortSt}{lo n ok:Nat}{Q:Bool->SortSt->Prop}(hn:lo+n<=Z.size)(QX:ok<=n)(g:Gd κ Z st)(t:So f (arrOf st) lo (lo+ok))
  (h:∀z,Up κ Z f lo st z->So f (arrOf z) lo (lo+n)->Q OG z):fF (model prog w) A E J (binarySort' lo n ok) Q st:=by
 rw[binarySort'_eq];refine ag (aX (bW (I:=λk c z=>c=(CL,())/\Up κ Z f lo st z/\So f (arrOf z) lo (lo+min k n))
  (Q:=λc z=>c=(CL,())/\Up κ Z f lo st z/\So f (arrOf z) lo (lo+n)) ?step ?fin ?init) ?post)
 case post=>rintro c z ⟨rfl,u,k⟩;exact ah (h z u k)
 case init=>
  refine⟨rfl,.rfl g,λi j h1 b K=>?_⟩;by_cases o:ok=0
  .have:i=j:=by ext
   subst this;exact OJ _
  .exact t i j h1 b (by ext)
 case fin=>
  rintro c z ⟨v,u,k⟩;refine⟨v,u,?_⟩;rwa [show min (max (max ok 1) n) n=n by ext]at k
 case step=>
  rintro k c z B p ⟨rfl,u,q⟩;rw[show min k n=k by ext]at q;have k1:k<n:=by ext
  clear B p;refine ag (aX (bW (I:=λx c y=>y=z/\∃l r,c=(CL,l,r)/\l<=r/\r<=k/\r - l<=k - x/\
    (∀i,i<l->R f (arrOf z) (lo+i)<=R f (arrOf z) (lo+k))/\(∀i,r<=i->i<k->R f (arrOf z) (lo+k)<R f (arrOf z) (lo+i)))
   (Q:=λc y=>y=z/\∃l r,c=(CL,l,r)/\l<=k/\
    (∀i,i<l->R f (arrOf z) (lo+i)<=R f (arrOf z) (lo+k))/\(∀i,l<=i->i<k->R f (arrOf z) (lo+k)<R f (arrOf z) (lo+i))) ?is ?ifn ?ii) ?ip)
  case ii=>exact⟨rfl,0,k,rfl,by ext,by ext,by ext,λi hi=>by ext,λi h1 b=>by ext⟩
  case ifn=>
   rintro c y ⟨rfl,l,r,rfl,lr,rk,m,p1,p2⟩;have:l=r:=by ext
   subst this;exact⟨rfl,l,l,rfl,rk,p1,p2⟩
  case is=>
   rintro x c y _ H ⟨rfl,l,r,rfl,lr,rk,m,p1,p2⟩;dsimp only;by_cases e:l≥r
   .rw[ai e]
    have:l=r:=by ext
    subst this;exact ah ⟨rfl,l,l,rfl,rk,p1,p2⟩
   .rw[ak e]
    refine ag (i7 C u.gd (by ext) (by ext) ?_);by_cases a:R f (arrOf y) (lo+k)<R f (arrOf y) (lo+(l+r)/2)
    .simp only[a,decide_true,if_true];refine ah ⟨rfl,l,(l+r)/2,rfl,by ext,by ext,by ext,p1,λi h1 b=>?_⟩;exact Pk a (q _ _ (by ext) (by ext) (by ext))
    .simp only[a,decide_false,OS,if_false];refine ah ⟨rfl,(l+r)/2+1,r,rfl,by ext,by ext,by ext,λi h1=>?_,p2⟩;exact OZ (q (lo+i) (lo+(l+r)/2) (by ext) (by ext) (by ext)) (Q7 a)
  case ip=>
   rintro c y ⟨rfl,l,r,rfl,lk,p1,p2⟩;show fF _ _ _ _ (do moveDown' (lo+k) (lo+l);pure (ForInStep.yield (CL,()))) _ _;rw[moveDown'_eq];have d:lo+k<(arrOf y).size:=by rw[u.gd.size];ext
   refine ag (fJ (ah ⟨rfl,⟨u.gd.arr (bubble_perm _ _ _),u.pend,λi hi=>?_⟩,?_⟩))
   .show(bubble (arrOf y) (lo+k) (lo+k - (lo+l)))[i]?=_;rw[getElem?_bubble d _ (by ext),ak (by ext),ak (by ext)];exact u.low i hi
   rw[show min (k+1) n=k+1 by ext];intro i j N M L;show R f (bubble (arrOf y) (lo+k) (lo+k - (lo+l))) i<=R f (bubble (arrOf y) (lo+k) (lo+k - (lo+l))) j;rw[qV d (by ext),qV d (by ext),show lo+k - (lo+k - (lo+l))=lo+l by ext];have G:∀i,lo<=i->i<lo+l->R f (arrOf y) i<=R f (arrOf y) (lo+k):=λi h1 b=>by have:=p1 (i - lo) (by ext);rwa [show lo+(i - lo)=i by ext]at this
   have F:∀i,lo+l<=i->i<lo+k->R f (arrOf y) (lo+k)<=R f (arrOf y) i:=λi h1 b=>by have:=p2 (i - lo) (by ext) (by ext);rw[show lo+(i - lo)=i by ext]at this;ext
   repeat' split
   all_goals first
    |(exfalso;ext)
    |exact OJ _
    |exact G _ (by ext) (by ext)
    |exact F _ (by ext) (by ext)
    |exact q _ _ (by ext) (by ext) (by ext)
end
end TS
namespace TS
open PySem PyProof.Rows
set_option autoImplicit true
def FL:Bool->Keyed->Array Keyed->Nat->Nat->Nat->StateT SortSt Sem (cj Nat):=sortPriv% PySem.Builtin.gallop
def MV(left:Bool)(a:Keyed)(arr:Array Keyed)(base i:Nat):StateT SortSt Sem (cj Bool):=do
 let x<-elem' arr (base+i)
 if left then lt' x a else return(<-lt' a x).map (!·)
section
variable{prog:Pa}{w:Pz}{A:Pp}{E:OC->OK->Prop}{J:OK->Prop}{κ:SortKind}{Z:Array Keyed}{f:Keyed->Nat}
def Bt(f:Keyed->Nat)(left:Bool)(a:Keyed)(x:Keyed):Bool:=if left then decide (f x<f a)else decide (f x<=f a)
theorem Hg(C:Ask prog w A E J κ (·∈Z.toList) f){left:Bool}{a x:Keyed}{arr:Array Keyed}{base i:Nat}{st:SortSt}(k:kindOf st=κ)(d:a∈Z.toList)(b:x∈Z.toList)(e:arr[base+i]?=cL x){Q:cj Bool->SortSt->Prop}
  (h:Q (cL (Bt f left a x)) st):fF (model prog w) A E J (MV left a arr base i) Q st:=by
 unfold MV;refine ag (aQ e ?_);cases left with
 |true=>simp only[if_true];exact rj C b d k h
 |false=>
  simp only[OS,if_false];refine ag (rj C d b k (ah ?_));have:VI (λx=> !x) (cL (decide (f a<f x)))=cL (Bt f OP a x):=by
   unfold Bt;simp only[OS,if_false,VI];congr 1;by_cases q:f a<f x
   .rw[a6 q,a7 (by ext)];rfl
   .rw[a7 q,a6 (by ext)];rfl
  rw[this];exact h
theorem jE(C:Ask prog w A E J κ (·∈Z.toList) f){left:Bool}{d:Keyed}{arr:Array Keyed}{base n a:Nat}{st:SortSt}(k:kindOf st=κ)(K:d∈Z.toList)
  (B:Nat->Bool) (hb:∀i,i<n->∃x,x∈Z.toList/\arr[base+i]?=cL x/\B i=Bt f left d x) (hm:∀i j,i<=j->j<n->B j=OG->B i=OG) (L:a<n)
  {Q:cj Nat->SortSt->Prop} (h:∀m,m<=n->(∀i,i<m->B i=OG)->(∀i,m<=i->i<n->B i=OP)->Q (cL m) st):
  fF (model prog w) A E J (FL left d arr base n a) Q st:=by
 have g:∀{i:Nat} {Q:cj Bool->SortSt->Prop},i<n->Q (cL (B i)) st->fF (model prog w) A E J (MV left d arr base i) Q st:=by intro i Q hi q;obtain⟨x,G,F,v⟩:=hb i hi;rw[v]at q;exact Hg C k K G F q
 have l:∀i j,i<=j->j<n->B i=OP->B j=OP:=λi j h1 e u=>by
  cases q:B j with
  |false=>rfl
  |true=>rw[hm i j h1 e q]at u;cases u
 show fF _ _ _ _ (bind _ _:StateT SortSt Sem (cj Nat)) _ _;refine ag (g L ?_);cases q:B a with
 |true=>
  dsimp only;simp only[if_true];refine ag (aX (bW (I:=λx c z=>z=st/\∃la o,c=(CL,la,o)/\la<o/\x+1<=o/\a+la<n/\B (a+la)=OG)
   (Q:=λc z=>z=st/\∃la o,c=(CL,la,o)/\la<o/\a+la<n/\B (a+la)=OG/\(a+o<n->B (a+o)=OP)) ?s2 ?f2 ⟨rfl,0,1,rfl,by ext,by ext,by ext,q⟩) ?p2)
  case p2=>
   rintro c z ⟨rfl,la,o,rfl,a1,a2,a3,a4⟩;dsimp only;have t:(a+la+1)<=(a+min o (n - a)):=by ext
   have hn:(a+min o (n - a))<=n:=by ext
   have r:∀i,i<(a+la+1)->B i=OG:=λi hi=>by exact hm i _ (by ext) a2 a3
   have p2:∀i,(a+min o (n - a))<=i->i<n->B i=OP:=λi h1 e=>by exact l (a+o) i (by ext) e (a4 (by ext))
   refine ag (aX (bW (I:=λx c y=>y=z/\∃lo hi,c=(CL,lo,hi)/\lo<=hi/\hi<=n/\hi - lo<=n - x/\(∀i,i<lo->B i=OG)/\(∀i,hi<=i->i<n->B i=OP))
    (Q:=λc y=>y=z/\∃m,c=(CL,m,m)/\m<=n/\(∀i,i<m->B i=OG)/\(∀i,m<=i->i<n->B i=OP)) ?s11 ?f11 ⟨rfl,(a+la+1),(a+min o (n - a)),rfl,t,hn,by ext,r,p2⟩) ?p11)
   case p11=>
    rintro c z ⟨rfl,m,rfl,a1,a2,a3⟩;exact ah (h m a1 a2 a3)
   case f11=>
    rintro c z ⟨rfl,lo,hi,rfl,a0,a1,a2,a3,a4⟩;have:lo=hi:=by ext
    subst this;exact⟨rfl,lo,rfl,a1,a3,a4⟩
   case s11=>
    rintro x c z _ p ⟨rfl,lo,hi,rfl,a0,a1,a2,a3,a4⟩;dsimp only;by_cases b:lo≥hi
    .rw[ai b]
     have:lo=hi:=by ext
     subst this;exact ah ⟨rfl,lo,rfl,a1,a3,a4⟩
    .rw[ak b]
     refine ag (g (by ext) ?_);cases q:B (lo+(hi - lo)/2)with
     |true=>simp only[if_true];refine ah ⟨rfl,_,_,rfl,by ext,by ext,by ext,λi hi=>?_,a4⟩;exact hm i _ (by ext) (by ext) q
     |false=>simp only[OS,if_false];refine ah ⟨rfl,_,_,rfl,by ext,by ext,by ext,a3,λi h1 e=>?_⟩;exact l _ i h1 e q
  case f2=>
   rintro c z ⟨rfl,la,o,rfl,a1,a2,a3,a4⟩;exact⟨rfl,la,o,rfl,a1,a3,a4,λh=>by ext⟩
  case s2=>
   rintro x c z _ p ⟨rfl,la,o,rfl,a1,a2,a3,a4⟩;dsimp only;by_cases b:o≥n - a
   .rw[ai b];exact ah ⟨rfl,la,o,rfl,a1,a3,a4,λh=>by ext⟩
   .rw[ak b]
    refine ag (g (by ext) ?_);cases q2:B (a+o)with
    |true=>simp only[Qu,OS,if_false];exact ah ⟨rfl,_,_,rfl,by ext,by ext,by ext,q2⟩
    |false=>simp only[Tx,if_true];exact ah ⟨rfl,la,o,rfl,a1,a3,a4,λ_=>q2⟩
 |false=>
  dsimp only;simp only[OS,if_false];refine ag (aX (bW (I:=λx c z=>z=st/\∃la o,c=(CL,la,o)/\la<o/\x+1<=o/\la<=a/\B (a - la)=OP)
   (Q:=λc z=>z=st/\∃la o,c=(CL,la,o)/\la<o/\la<=a/\B (a - la)=OP/\(o<a+1->B (a - o)=OG)) ?s3 ?f3 ⟨rfl,0,1,rfl,by ext,by ext,by ext,q⟩) ?p3)
  case p3=>
   rintro c z ⟨rfl,la,o,rfl,a1,a2,a3,a4⟩;dsimp only;have t:(a+1 - min o (a+1))<=(a - la):=by ext
   have hn:(a - la)<=n:=by ext
   have r:∀i,i<(a+1 - min o (a+1))->B i=OG:=λi hi=>by
    have H:o<a+1:=by ext
    exact hm i (a - o) (by ext) (by ext) (a4 H)
   have p2:∀i,(a - la)<=i->i<n->B i=OP:=λi h1 e=>by exact l (a - la) i (by ext) e a3
   refine ag (aX (bW (I:=λx c y=>y=z/\∃lo hi,c=(CL,lo,hi)/\lo<=hi/\hi<=n/\hi - lo<=n - x/\(∀i,i<lo->B i=OG)/\(∀i,hi<=i->i<n->B i=OP))
    (Q:=λc y=>y=z/\∃m,c=(CL,m,m)/\m<=n/\(∀i,i<m->B i=OG)/\(∀i,m<=i->i<n->B i=OP)) ?s12 ?f12 ⟨rfl,(a+1 - min o (a+1)),(a - la),rfl,t,hn,by ext,r,p2⟩) ?p12)
   case p12=>
    rintro c z ⟨rfl,m,rfl,a1,a2,a3⟩;exact ah (h m a1 a2 a3)
   case f12=>
    rintro c z ⟨rfl,lo,hi,rfl,a0,a1,a2,a3,a4⟩;have:lo=hi:=by ext
    subst this;exact⟨rfl,lo,rfl,a1,a3,a4⟩
   case s12=>
    rintro x c z _ p ⟨rfl,lo,hi,rfl,a0,a1,a2,a3,a4⟩;dsimp only;by_cases b:lo≥hi
    .rw[ai b]
     have:lo=hi:=by ext
     subst this;exact ah ⟨rfl,lo,rfl,a1,a3,a4⟩
    .rw[ak b]
     refine ag (g (by ext) ?_);cases q:B (lo+(hi - lo)/2)with
     |true=>simp only[if_true];refine ah ⟨rfl,_,_,rfl,by ext,by ext,by ext,λi hi=>?_,a4⟩;exact hm i _ (by ext) (by ext) q
     |false=>simp only[OS,if_false];refine ah ⟨rfl,_,_,rfl,by ext,by ext,by ext,a3,λi h1 e=>?_⟩;exact l _ i h1 e q
  case f3=>
   rintro c z ⟨rfl,la,o,rfl,a1,a2,a3,a4⟩;exact⟨rfl,la,o,rfl,a1,a3,a4,λh=>by ext⟩
  case s3=>
   rintro x c z _ p ⟨rfl,la,o,rfl,a1,a2,a3,a4⟩;dsimp only;by_cases b:o≥a+1
   .rw[ai b];exact ah ⟨rfl,la,o,rfl,a1,a3,a4,λh=>by ext⟩
   .rw[ak b]
    refine ag (g (by ext) ?_);cases q2:B (a - o)with
    |true=>simp only[if_true];exact ah ⟨rfl,la,o,rfl,a1,a3,a4,λ_=>q2⟩
    |false=>simp only[OS,if_false];exact ah ⟨rfl,_,_,rfl,by ext,by ext,by ext,q2⟩
end
end TS
namespace TS
open PySem PyProof.Rows
set_option autoImplicit true
abbrev KL:=Array Keyed
abbrev SM:=StateT SortSt Sem
def M5:KL->KL->SM KL:=sortPriv% PySem.Builtin.mergeLo
def xR(g:Nat):SM Unit:=(sortPriv% PySem.Builtin.setMinGallop) g
abbrev LS:=cj KL×KL×Nat×Nat×Nat
abbrev Mn:=cj KL×KL×Nat×Nat×Nat×Nat
abbrev Jy:=cj KL×KL×Nat×Nat×Nat×Nat×Nat
def dn(a b d:KL)(f e:Nat):KL:=d++a.extract f a.size++b.extract e b.size
def la(a b d:KL)(f e:Nat):KL:=d++b.extract e b.size++a.extract f a.size
def Mq(a b d:KL)(e f g ac bc:Nat):SM (ForInStep Jy):=do
 let x<-elem' a e
 if e+1+1==a.size then pure (.done (cL (la a b (d.push x) (e+1) f),d.push x,e+1,f,g,ac,bc))
 else if ac<7&&bc<7 then pure (.done (CL,d.push x,e+1,f,g,ac,bc))else pure (.yield (CL,d.push x,e+1,f,g,ac,bc))
def B6(a b e:KL)(f d g ac bc:Nat):SM (ForInStep Jy):=do
 let y<-elem' b d
 if d+1==b.size then pure (.done (cL (dn a b (e.push y) f (d+1)),e.push y,f,d+1,g,ac,bc))
 else do
  let x<-elem' a f
  match<-FL OG x b (d+1) (b.size - (d+1)) 0 with
  |some k=>
   if k>0 then
    if d+1+k==b.size then pure (.done (cL (dn a b (e.push y++b.extract (d+1) (d+1+k)) f (d+1+k)),e.push y++b.extract (d+1) (d+1+k),f,d+1+k,g,ac,k))
    else Mq a b (e.push y++b.extract (d+1) (d+1+k)) f (d+1+k) g ac k
   else Mq a b (e.push y) f (d+1) g ac k
  |none=>pure (.done (cL (dn a b (e.push y) f (d+1)),e.push y,f,d+1,g,ac,bc))
def L6(a b e:KL)(d f g ac bc:Nat):SM (ForInStep Jy):=do
 xR g
 let y<-elem' b f
 match<-FL OP y a d (a.size - d) 0 with
 |some k=>
  if k>0 then
   if d+k+1==a.size then pure (.done (cL (la a b (e++a.extract d (d+k)) (d+k) f),e++a.extract d (d+k),d+k,f,g,k,bc))
   else if d+k==a.size then pure (.done (cL (dn a b (e++a.extract d (d+k)) (d+k) f),e++a.extract d (d+k),d+k,f,g,k,bc))
   else B6 a b (e++a.extract d (d+k)) (d+k) f g k bc
  else B6 a b e d f g k bc
 |none=>pure (.done (cL (dn a b e d f),e,d,f,g,ac,bc))
def l1(a b:KL)(g:Nat)(c:Mn):SM (ForInStep Mn):=do
 let y<-elem' b c.2.2.2.1
 let x<-elem' a c.2.2.1
 match<-lt' y x with
 |some w=>
  if w=OG then do
   let y<-elem' b c.2.2.2.1
   if c.2.2.2.1+1==b.size then pure (.done (cL (dn a b (c.2.1.push y) c.2.2.1 (c.2.2.2.1+1)),c.2.1.push y,c.2.2.1,c.2.2.2.1+1,0,c.2.2.2.2.2+1))
   else if c.2.2.2.2.2+1≥g then pure (.done (CL,c.2.1.push y,c.2.2.1,c.2.2.2.1+1,0,c.2.2.2.2.2+1))else pure (.yield (CL,c.2.1.push y,c.2.2.1,c.2.2.2.1+1,0,c.2.2.2.2.2+1))
  else do
   let x<-elem' a c.2.2.1
   if c.2.2.1+1+1==a.size then pure (.done (cL (la a b (c.2.1.push x) (c.2.2.1+1) c.2.2.2.1),c.2.1.push x,c.2.2.1+1,c.2.2.2.1,c.2.2.2.2.1+1,0))
   else if c.2.2.2.2.1+1≥g then pure (.done (CL,c.2.1.push x,c.2.2.1+1,c.2.2.2.1,c.2.2.2.2.1+1,0))else pure (.yield (CL,c.2.1.push x,c.2.2.1+1,c.2.2.2.1,c.2.2.2.2.1+1,0))
 |none=>pure (.done (cL (dn a b c.2.1 c.2.2.1 c.2.2.2.1),c.2.1,c.2.2.1,c.2.2.2.1,c.2.2.2.2.1,c.2.2.2.2.2))
def l0(a b:KL)(s:LS):SM (ForInStep LS):=do
 let c<-forIn [0:a.size+b.size] ((CL,s.2.1,s.2.2.1,s.2.2.2.1,0,0):Mn) λ_ c=>l1 a b s.2.2.2.2 c
 match c.1 with
 |some r=>pure (.done (cL r,c.2.1,c.2.2.1,c.2.2.2.1,s.2.2.2.2))
 |none=>do
  rule "list.sort.gallop"
  let d<-forIn [0:a.size+b.size] ((CL,c.2.1,c.2.2.1,c.2.2.2.1,s.2.2.2.2+1,c.2.2.2.2.1,c.2.2.2.2.2):Jy) λ_ d=>
   if d.2.2.2.2.1>1 then L6 a b d.2.1 d.2.2.1 d.2.2.2.1 (d.2.2.2.2.1 - 1) d.2.2.2.2.2.1 d.2.2.2.2.2.2 else L6 a b d.2.1 d.2.2.1 d.2.2.2.1 d.2.2.2.2.1 d.2.2.2.2.2.1 d.2.2.2.2.2.2
  match d.1 with
  |some r=>pure (.done (cL r,d.2.1,d.2.2.1,d.2.2.2.1,d.2.2.2.2.1))
  |none=>do
   xR (d.2.2.2.2.1+1)
   pure (.yield (CL,d.2.1,d.2.2.1,d.2.2.2.1,d.2.2.2.2.1+1))
theorem Ha(a b:KL):M5 a b=(do
 rule "list.sort.merge-lo"
 let y<-elem' b 0
 if(1==b.size)=OG then pure (dn a b #[y] 0 1)
 else if(0+1==a.size)=OG then pure (la a b #[y] 0 1)
 else do
  let g<-get
  let s<-forIn [0:a.size+b.size] ((CL,#[y],0,1,gallopOf g):LS) λ_ s=>l0 a b s
  match s.1 with
  |some r=>pure r
  |none=>unsupported "internal:list.sort.merge-bound"):=by
 show(bind _ _:SM KL)=bind _ _;dsimp only;congr 1;funext _u;congr 1;funext y;refine ite_congr rfl (λ_=>rfl) λ_=>?_;refine ite_congr rfl (λ_=>rfl) λ_=>?_;congr 1;funext g;congr 1
 .congr 1;funext _x s
  unfold l0;congr 1
  .congr 1;funext _x c
   unfold l1;congr 1;funext y;congr 1;funext x;congr 1;funext v;cases v with
   |none=>rfl
   |some v=>rfl
  .funext c
   obtain⟨r,c⟩:=c;cases r with
   |some r=>rfl
   |none=>
    dsimp only;congr 1;funext _v;congr 1
    .congr 1;funext _x d
     have e:∀g',(do
       xR g'
       let y<-elem' b d.2.2.2.1
       match<-FL OP y a d.2.2.1 (a.size - d.2.2.1) 0 with
       |some k=>
        if k>0 then
         if d.2.2.1+k+1==a.size then pure (.done (cL (la a b (d.2.1++a.extract d.2.2.1 (d.2.2.1+k)) (d.2.2.1+k) d.2.2.2.1),d.2.1++a.extract d.2.2.1 (d.2.2.1+k),d.2.2.1+k,d.2.2.2.1,g',k,d.2.2.2.2.2.2))
         else if d.2.2.1+k==a.size then pure (.done (cL (dn a b (d.2.1++a.extract d.2.2.1 (d.2.2.1+k)) (d.2.2.1+k) d.2.2.2.1),d.2.1++a.extract d.2.2.1 (d.2.2.1+k),d.2.2.1+k,d.2.2.2.1,g',k,d.2.2.2.2.2.2))
         else B6 a b (d.2.1++a.extract d.2.2.1 (d.2.2.1+k)) (d.2.2.1+k) d.2.2.2.1 g' k d.2.2.2.2.2.2
        else B6 a b d.2.1 d.2.2.1 d.2.2.2.1 g' k d.2.2.2.2.2.2
       |none=>pure (.done (cL (dn a b d.2.1 d.2.2.1 d.2.2.2.1),d.2.1,d.2.2.1,d.2.2.2.1,g',d.2.2.2.2.2.1,d.2.2.2.2.2.2)):SM (ForInStep Jy))=L6 a b d.2.1 d.2.2.1 d.2.2.2.1 g' d.2.2.2.2.2.1 d.2.2.2.2.2.2:=λ_=>rfl
     refine ite_congr rfl (λ_=>?_) λ_=>?_
     .rw[<-e]
      congr 1;funext _z;congr 1;funext y;congr 1;funext k;cases k with
      |none=>rfl
      |some k=>
       dsimp only;refine ite_congr rfl (λ_=>?_) λ_=>?_
       .refine ite_congr rfl (λ_=>rfl) λ_=>?_
        refine ite_congr rfl (λ_=>rfl) λ_=>?_;unfold B6;congr 1;funext y;refine ite_congr rfl (λ_=>rfl) λ_=>?_;congr 1;funext x;congr 1;funext k1;cases k1 with
        |none=>rfl
        |some k1=>rfl
       .unfold B6;congr 1;funext y
        refine ite_congr rfl (λ_=>rfl) λ_=>?_;congr 1;funext x;congr 1;funext k1;cases k1 with
        |none=>rfl
        |some k1=>rfl
     .rw[<-e]
      congr 1;funext _z;congr 1;funext y;congr 1;funext k;cases k with
      |none=>rfl
      |some k=>
       dsimp only;refine ite_congr rfl (λ_=>?_) λ_=>?_
       .refine ite_congr rfl (λ_=>rfl) λ_=>?_
        refine ite_congr rfl (λ_=>rfl) λ_=>?_;unfold B6;congr 1;funext y;refine ite_congr rfl (λ_=>rfl) λ_=>?_;congr 1;funext x;congr 1;funext k1;cases k1 with
        |none=>rfl
        |some k1=>rfl
       .unfold B6;congr 1;funext y
        refine ite_congr rfl (λ_=>rfl) λ_=>?_;congr 1;funext x;congr 1;funext k1;cases k1 with
        |none=>rfl
        |some k1=>rfl
    .funext d
     obtain⟨r,d⟩:=d;cases r with
     |some r=>rfl
     |none=>rfl
 .funext s
  obtain⟨r,s⟩:=s;cases r with
  |some r=>rfl
  |none=>rfl
end TS
namespace TS
open PySem PyProof.Rows
set_option autoImplicit true
abbrev Le(f:Keyed->Nat)(x y:Keyed):Prop:=f x<=f y
structure Ok(f:Keyed->Nat)(T o:cc Keyed):Prop where
 perm:o.Perm T
 so:o.Pairwise (Le f)
structure Mi(f:Keyed->Nat)(T o X Y:cc Keyed):Prop where
 perm:(o++(X++Y)).Perm T
 so:o.Pairwise (Le f)
 bd:∀p∈o,∀z,z∈X\/z∈Y->f p<=f z
 sx:X.Pairwise (Le f)
 sy:Y.Pairwise (Le f)
section
variable{f:Keyed->Nat}{T o X Y P:cc Keyed}
theorem Mi.x(m:Mi f T o (P++X) Y)(h:∀p∈P,∀y∈Y,f p<=f y):Mi f T (o++P) X Y where
 perm:=by have:=m.perm;rwa [Pj]at this⊢
 so:=PU.mpr ⟨m.so,(PU.mp m.sx).1,λp b z a=>m.bd p b z (.inl (PR _ a))⟩
 bd:=λp b z a=>by
  rcases Pf.mp b with q|q
  .exact m.bd p q z (a.imp (Ph _) id)
  .rcases a with a|a
   .exact(PU.mp m.sx).2.2 p q z a
   .exact h p q z a
 sx:=(PU.mp m.sx).2.1
 sy:=m.sy
theorem Mi.swap(m:Mi f T o X Y):Mi f T o Y X where
 perm:=(adU o Tt).trans m.perm
 so:=m.so
 bd:=λp b z a=>m.bd p b z a.symm
 sx:=m.sy
 sy:=m.sx
theorem Mi.y(m:Mi f T o X (P++Y))(h:∀p∈P,∀x∈X,f p<=f x):Mi f T (o++P) X Y:=(m.swap.x h).swap
theorem Mi.dn(m:Mi f T o X Y)(h:∀x∈X,∀y∈Y,f x<=f y):Ok f T (o++X++Y) where
 perm:=by rw[Pj];exact m.perm
 so:=by rw[Pj];refine PU.mpr ⟨m.so,PU.mpr ⟨m.sx,m.sy,h⟩,λp b z a=>m.bd p b z (Pf.mp a)⟩
theorem Mi.la(m:Mi f T o X Y)(h:∀y∈Y,∀x∈X,f y<=f x):Ok f T (o++Y++X):=m.swap.dn h
end
section
variable{prog:Pa}{w:Pz}{A:Pp}{E:OC->OK->Prop}{J:OK->Prop}{κ:SortKind}{Z:Array Keyed}{f:Keyed->Nat}
structure Ge(st z:SortSt):Prop where
 kind:kindOf z=kindOf st
 failed:failedOf z=failedOf st
 arr:arrOf z=arrOf st
 pend:pendingOf z=pendingOf st
theorem Ge.rfl{st:SortSt}:Ge st st:=⟨Eq.refl _,Eq.refl _,Eq.refl _,Eq.refl _⟩
theorem ku{st z:SortSt}(e:Ge st z){g:Nat}{Q:Unit->SortSt->Prop}(h:∀y,Ge st y->Q () y):fF (model prog w) A E J (xR g) Q z:=
 fJ (h _ ⟨e.kind,e.failed,e.arr,e.pend⟩)
variable{a b:KL}
theorem mj(i j:Nat):(a.extract i j).toList=(a.toList.drop i).take (j - i):=by rw[Array.toList_extract]
theorem Ck(i:Nat):(a.extract i a.size).toList=a.toList.drop i:=by rw[mj,Qs];simp
theorem M6(d:KL)(g e:Nat):(dn a b d g e).toList=d.toList++a.toList.drop g++b.toList.drop e:=by unfold dn;rw[P9,P9,Ck,Ck]
theorem MW(d:KL)(g e:Nat):(la a b d g e).toList=d.toList++b.toList.drop e++a.toList.drop g:=by unfold la;rw[P9,P9,Ck,Ck]
theorem BC{i:Nat}(h:i<a.size):a.toList.drop i=[a[i]]++a.toList.drop (i+1):=by rw[Ql (by simpa using h)];simp
theorem Aa(i k:Nat):a.toList.drop i=(a.toList.drop i).take k++a.toList.drop (i+k):=by rw[<-List.drop_drop];exact(Sd k _).symm
structure Two(f:Keyed->Nat)(Z:Array Keyed)(a b:KL):Prop where
 sa:a.toList.Pairwise (Le f)
 sb:b.toList.Pairwise (Le f)
 ma:∀x∈a.toList,x∈Z.toList
 mb:∀x∈b.toList,x∈Z.toList
 na:0<a.size
 nb:0<b.size
 last:∀y∈b.toList,f y<=f a[a.size - 1]
 first:∀x∈a.toList,f b[0]<=f x
theorem Two.xs(t:Two f Z a b){i j:Nat}(h:i<=j)(d:j<a.size):f a[i]<=f a[j]:=by
 by_cases e:i=j
 .subst e;exact OJ _
 .have:=QF.mp t.sa i j (by simp;ext) (by simp;ext) (by ext)
  simpa using this
theorem Two.ys(t:Two f Z a b){i j:Nat}(h:i<=j)(d:j<b.size):f b[i]<=f b[j]:=by
 by_cases e:i=j
 .subst e;exact OJ _
 .have:=QF.mp t.sb i j (by simp;ext) (by simp;ext) (by ext)
  simpa using this
theorem gr{i:Nat}{x:Keyed}(h:x∈a.toList.drop i):∃j,∃hj:j<a.size,i<=j/\x=a[j]:=by obtain⟨j,hj,e⟩:=Q4 h;rw[Wv]at e;exact⟨i+j,by simp at hj;ext,by ext,by simpa using e.symm⟩
theorem gf{i:Nat}{x:Keyed}(h:x∈a.toList.take i):∃j,∃hj:j<a.size,j<i/\x=a[j]:=by obtain⟨j,hj,e⟩:=Q4 h;rw[Ww]at e;simp at hj;exact⟨j,by ext,by ext,by simpa using e.symm⟩
theorem mI{i k:Nat}{x:Keyed}(h:x∈(a.toList.drop i).take k):∃j,∃hj:j<a.size,i<=j/\j<i+k/\x=a[j]:=by obtain⟨j,hj,e⟩:=Q4 h;rw[Ww,Wv]at e;simp at hj;exact⟨i+j,by ext,by ext,by ext,by simpa using e.symm⟩
structure Hd(f:Keyed->Nat)(a b out:KL)(ia ib:Nat):Prop where
 mi:Mi f (a.toList++b.toList) out.toList (a.toList.drop ia) (b.toList.drop ib)
 ia:ia<a.size
 ib:ib<b.size
theorem Mi.px{d:KL}{e g:Nat}(m:Mi f (a.toList++b.toList) d.toList (a.toList.drop e) (b.toList.drop g))(h:e<a.size)(q:∀j (i:j<b.size),g<=j->f a[e]<=f b[j]):
  Mi f (a.toList++b.toList) (d.push a[e]).toList (a.toList.drop (e+1)) (b.toList.drop g):=by
 rw[BC h]at m;rw[RN];refine m.x λp l y k=>?_;rw[OU.mp l];obtain⟨j,i,h1,rfl⟩:=gr k;exact q j i h1
theorem Mi.py{d:KL}{g e:Nat}(m:Mi f (a.toList++b.toList) d.toList (a.toList.drop g) (b.toList.drop e))(h:e<b.size)(q:∀j (i:j<a.size),g<=j->f b[e]<=f a[j]):
  Mi f (a.toList++b.toList) (d.push b[e]).toList (a.toList.drop g) (b.toList.drop (e+1)):=by
 rw[BC h]at m;rw[RN];refine m.y λp l y k=>?_;rw[OU.mp l];obtain⟨j,i,h1,rfl⟩:=gr k;exact q j i h1
theorem Mi.kx{e:KL}{d g k:Nat}(m:Mi f (a.toList++b.toList) e.toList (a.toList.drop d) (b.toList.drop g))(q:∀i (hi:i<a.size),d<=i->i<d+k->∀j (h:j<b.size),g<=j->f a[i]<=f b[j]):
  Mi f (a.toList++b.toList) (e++a.extract d (d+k)).toList (a.toList.drop (d+k)) (b.toList.drop g):=by
 rw[Aa d k]at m;rw[P9,mj,Ta];refine m.x λp n y l=>?_;obtain⟨i,hi,h1,r,rfl⟩:=mI n;obtain⟨j,h,o,rfl⟩:=gr l;exact q i hi h1 r j h o
theorem Mi.ky{e:KL}{g d k:Nat}(m:Mi f (a.toList++b.toList) e.toList (a.toList.drop g) (b.toList.drop d))(q:∀i (hi:i<b.size),d<=i->i<d+k->∀j (h:j<a.size),g<=j->f b[i]<=f a[j]):
  Mi f (a.toList++b.toList) (e++b.extract d (d+k)).toList (a.toList.drop g) (b.toList.drop (d+k)):=by
 rw[Aa d k]at m;rw[P9,mj,Ta];refine m.y λp n y l=>?_;obtain⟨i,hi,h1,r,rfl⟩:=mI n;obtain⟨j,h,o,rfl⟩:=gr l;exact q i hi h1 r j h o
theorem Mi.nb{d:KL}{g e:Nat}(m:Mi f (a.toList++b.toList) d.toList (a.toList.drop g) (b.toList.drop e))(h:b.size<=e\/a.size<=g):Ok f (a.toList++b.toList) (TS.dn a b d g e).toList:=by rw[M6];refine m.dn λx k y i=>?_;obtain⟨j,l,h1,rfl⟩:=gr k;obtain⟨j,l,h1,rfl⟩:=gr i;ext
theorem Mi.l1(t:Two f Z a b){d:KL}{e g:Nat}(m:Mi f (a.toList++b.toList) d.toList (a.toList.drop e) (b.toList.drop g))(h:e+1=a.size):Ok f (a.toList++b.toList) (TS.la a b d e g).toList:=by
 rw[MW];refine m.la λy i x k=>?_;obtain⟨j,l,h1,rfl⟩:=gr k;have:j=a.size - 1:=by ext
 subst this;exact t.last y (Tz i)
end
end TS
namespace TS
open PySem PyProof.Rows
set_option autoImplicit true
section
variable{prog:Pa}{w:Pz}{A:Pp}{E:OC->OK->Prop}{J:OK->Prop}{κ:SortKind}{Z:Array Keyed}{f:Keyed->Nat}{a b:KL}
theorem Two.ina(t:Two f Z a b){i:Nat}(h:i<a.size):a[i]∈Z.toList:=t.ma _ (by simp)
theorem Two.inb(t:Two f Z a b){i:Nat}(h:i<b.size):b[i]∈Z.toList:=t.mb _ (by simp)
def T2(f:Keyed->Nat)(a b:KL)(st:SortSt)(n:Nat)(d:Jy)(z:SortSt):Prop:=Ge st z/\((∃r,d.1=cL r/\Ok f (a.toList++b.toList) r.toList)\/(d.1=CL/\Hd f a b d.2.1 d.2.2.1 d.2.2.2.1/\d.2.2.1+1<a.size/\n<=d.2.2.1+d.2.2.2.1))
abbrev F2(f:Keyed->Nat)(a b:KL)(st:SortSt)(n:Nat)(r:ForInStep Jy)(z:SortSt):Prop:=match r with
 |.done d=>T2 f a b st n d z
 |.yield d=>d.1=CL/\T2 f a b st n d z
theorem Ab(t:Two f Z a b){k:KL}{h i g ac bc n:Nat}{st z:SortSt}(e:Ge st z)(m:Mi f (a.toList++b.toList) k.toList (a.toList.drop h) (b.toList.drop i))(h1:h+1<a.size)(l:i<b.size)(hn:n<=h+i)
  (q:∀j (o:j<b.size),i<=j->f a[h]<=f b[j]):fF (model prog w) A E J (Mq a b k h i g ac bc) (F2 f a b st n) z:=by
 unfold Mq;refine ag (aQ (getElem?_pos a h (by ext)) ?_);have m:=m.px (by ext) q;by_cases c:h+1+1=a.size
 .rw[ai (by simpa using c)];exact ah ⟨e,.inl ⟨_,rfl,m.l1 t c⟩⟩
 .rw[ak (by simpa using c)]
  by_cases d:(decide (ac<7)&&decide (bc<7))=OG
  .rw[ai d];exact ah ⟨e,.inr ⟨rfl,⟨m,by ext,l⟩,by show h+1+1<_;ext,by show n<=h+1+i;ext⟩⟩
  .rw[ak d];exact ah ⟨rfl,e,.inr ⟨rfl,⟨m,by ext,l⟩,by show h+1+1<_;ext,by show n<=h+1+i;ext⟩⟩
theorem Bx(C:Ask prog w A E J κ (·∈Z.toList) f)(t:Two f Z a b){o:KL}{l d g ac bc n:Nat}{st z:SortSt}(k:kindOf st=κ)(e:Ge st z)(m:Mi f (a.toList++b.toList) o.toList (a.toList.drop l) (b.toList.drop d))(h1:l+1<a.size)(v:d<b.size)(hn:n<=l+d)
  (q:∀j (p:j<a.size),l<=j->f b[d]<=f a[j]):fF (model prog w) A E J (B6 a b o l d g ac bc) (F2 f a b st n) z:=by
 unfold B6;refine ag (aQ (getElem?_pos b d v) ?_);have m:=m.py v q;by_cases c:d+1=b.size
 .rw[ai (by simpa using c)];exact ah ⟨e,.inl ⟨_,rfl,m.nb (.inl (by ext))⟩⟩
 .rw[ak (by simpa using c)]
  refine ag (aQ (getElem?_pos a l (by ext)) ?_);refine ag (jE C (e.kind.trans k) (t.ina (by ext)) (λi=>decide (if h:d+1+i<b.size then f b[d+1+i]<f a[l]else False)) (λi hi=>⟨b[d+1+i],t.inb _,getElem?_pos b _ (by ext),?_⟩) (λi j I p q=>?_) (by ext) λk1 k2 k3 k4=>?_)
  .unfold Bt;simp only[if_true];exact decide_eq_decide.mpr (by rw[dif_pos (by ext)])
  .have q:=b9 q;rw[dif_pos (by ext)]at q;refine a6 ?_;rw[dif_pos (by ext)];exact SA (t.ys (by ext) (by ext)) q
  have H:∀i (hi:i<b.size),d+1<=i->i<d+1+k1->f b[i]<f a[l]:=λi hi r u=>by
   have:=b9 (k3 (i - (d+1)) (by ext));rw[dif_pos (by ext)]at this;have e:d+1+(i - (d+1))=i:=by ext
   simp only[e]at this;exact this
  have F:∀i (hi:i<b.size),d+1+k1<=i->f a[l]<=f b[i]:=λi hi r=>by
   have:=of_decide_eq_false (k4 (i - (d+1)) (by ext) (by ext));rw[dif_pos (by ext)]at this;have e:d+1+(i - (d+1))=i:=by ext
   simp only[e]at this;exact Q7 this
  dsimp only;by_cases k0:k1>0
  .rw[ai k0]
   have m:=m.ky (k:=k1) λi hi r u j p G=>OZ (Qo (H i hi r u)) (t.xs G p);by_cases B:d+1+k1=b.size
   .rw[ai (by simpa using B)];exact ah ⟨e,.inl ⟨_,rfl,m.nb (.inl (by ext))⟩⟩
   .rw[ak (by simpa using B)];exact Ab t e m h1 (by ext) (by ext) F
  .rw[ak k0]
   have:k1=0:=by ext
   subst this;exact Ab t e m h1 (by ext) (by ext) F
theorem GH(C:Ask prog w A E J κ (·∈Z.toList) f)(t:Two f Z a b){o:KL}{d l g ac bc n:Nat}{st z:SortSt}(k:kindOf st=κ)(e:Ge st z)(m:Mi f (a.toList++b.toList) o.toList (a.toList.drop d) (b.toList.drop l))(h1:d+1<a.size)(p:l<b.size)(hn:n<=d+l):
  fF (model prog w) A E J (L6 a b o d l g ac bc) (F2 f a b st n) z:=by
 unfold L6;refine ag (ku e λy e=>?_);refine ag (aQ (getElem?_pos b l p) ?_);refine ag (jE C (e.kind.trans k) (t.inb p) (λi=>decide (if h:d+i<a.size then f a[d+i]<=f b[l]else False)) (λi hi=>⟨a[d+i],t.ina _,getElem?_pos a _ (by ext),?_⟩) (λi j I u q=>?_) (by ext) λk1 k2 k3 k4=>?_)
 .unfold Bt;simp only[OS,if_false];exact decide_eq_decide.mpr (by rw[dif_pos (by ext)])
 .have q:=b9 q;rw[dif_pos (by ext)]at q;refine a6 ?_;rw[dif_pos (by ext)];exact OZ (t.xs (by ext) (by ext)) q
 have H:∀i (hi:i<a.size),d<=i->i<d+k1->f a[i]<=f b[l]:=λi hi r v=>by
  have:=b9 (k3 (i - d) (by ext));rw[dif_pos (by ext)]at this;have e:d+(i - d)=i:=by ext
  simp only[e]at this;exact this
 have F:∀i (hi:i<a.size),d+k1<=i->f b[l]<=f a[i]:=λi hi r=>by
  have:=of_decide_eq_false (k4 (i - d) (by ext) (by ext));rw[dif_pos (by ext)]at this;have e:d+(i - d)=i:=by ext
  simp only[e]at this;ext
 dsimp only;by_cases k0:k1>0
 .rw[ai k0]
  have m:=m.kx (k:=k1) λi hi r v j u G=>OZ (H i hi r v) (t.ys G u);by_cases c:d+k1+1=a.size
  .rw[ai (by simpa using c)];exact ah ⟨e,.inl ⟨_,rfl,m.l1 t c⟩⟩
  .rw[ak (by simpa using c)]
   by_cases B:d+k1=a.size
   .rw[ai (by simpa using B)];exact ah ⟨e,.inl ⟨_,rfl,m.nb (.inr (by ext))⟩⟩
   .rw[ak (by simpa using B)];exact Bx C t k e m (by ext) p (by ext) F
 .rw[ak k0]
  have:k1=0:=by ext
  subst this;exact Bx C t k e m h1 p hn F
theorem LM(C:Ask prog w A E J κ (·∈Z.toList) f)(t:Two f Z a b){p:KL}{d n g ac bc:Nat}{st z:SortSt}(k:kindOf st=κ)(e:Ge st z)(m:Mi f (a.toList++b.toList) p.toList (a.toList.drop d) (b.toList.drop n))(h1:d+1<a.size)(q:n<b.size)
  {Q:ForInStep Mn->SortSt->Prop} (F:∀r c,Ok f (a.toList++b.toList) r.toList->Q (.done (cL r,c)) z)
  (h:∀o i j x y,Hd f a b o i j->i+1<a.size->i+j=d+n+1->Q (.done (CL,o,i,j,x,y)) z/\Q (.yield (CL,o,i,j,x,y)) z):
  fF (model prog w) A E J (l1 a b g (CL,p,d,n,ac,bc)) Q z:=by
 unfold l1;dsimp only;have u:d<a.size:=by ext
 refine ag (aQ (getElem?_pos b n q) ?_);refine ag (aQ (getElem?_pos a d u) ?_);refine ag (rj C (t.inb q) (t.ina u) (e.kind.trans k) ?_);dsimp only;by_cases l:f b[n]<f a[d]
 .rw[ai (a6 l)]
  refine ag (aQ (getElem?_pos b n q) ?_);have m:=m.py q λj v B=>OZ (Qo l) (t.xs B v);by_cases c:n+1=b.size
  .rw[ai (by simpa using c)];exact ah (F _ _ (m.nb (.inl (by ext))))
  .rw[ak (by simpa using c)]
   have h:=λx y=>h _ _ _ x y ⟨m,u,by ext⟩ h1 (by ext);split
   .exact ah (h _ _).1
   .exact ah (h _ _).2
 .rw[ak (by simpa using l)]
  refine ag (aQ (getElem?_pos a d u) ?_);have m:=m.px u λj v B=>OZ (Q7 l) (t.ys B v);by_cases c:d+1+1=a.size
  .rw[ai (by simpa using c)];exact ah (F _ _ (m.l1 t c))
  .rw[ak (by simpa using c)]
   have h:=λx y=>h _ _ _ x y ⟨m,by ext,q⟩ (by ext) (by ext);split
   .exact ah (h _ _).1
   .exact ah (h _ _).2
theorem IA(C:Ask prog w A E J κ (·∈Z.toList) f)(t:Two f Z a b){st:SortSt}(k:kindOf st=κ){Q:KL->SortSt->Prop}(h:∀r z,Ge st z->Ok f (a.toList++b.toList) r.toList->Q r z):
  fF (model prog w) A E J (M5 a b) Q st:=by
 rw[Ha];refine ag (ie ?_);refine ag (aQ (getElem?_pos b 0 t.nb) ?_);have G:Mi f (a.toList++b.toList) (#[]:KL).toList (a.toList.drop 0) (b.toList.drop 0):=⟨by simp,.nil,λp H=>by simp at H,t.sa,t.sb⟩;have m:=G.py t.nb λj M _=>t.first _ (by simp);have nb:=t.nb;have e1:(#[]:KL).push (b[0])= #[b[0]]:=rfl;rw[e1]at m;by_cases c:1=b.size
 .rw[ai (by simpa using c)];exact ah (h _ _ .rfl (m.nb (.inl (by ext))))
 rw[ak (by simpa using c)];by_cases c:0+1=a.size
 .rw[ai (by simpa using c)];exact ah (h _ _ .rfl (m.l1 t c))
 rw[ak (by simpa using c)];have nb:=t.nb;have K:=t.na;refine ag (eu (ag (aX (bW (I:=λx c z=>Ge st z/\c.1=CL/\Hd f a b c.2.1 c.2.2.1 c.2.2.2.1/\c.2.2.1+1<a.size/\x+1<=c.2.2.1+c.2.2.2.1)
  (Q:=λc z=>Ge st z/\∃r,c.1=cL r/\Ok f (a.toList++b.toList) r.toList) ?zs ?zf ⟨.rfl,rfl,⟨m,by show 0<_;ext,by show 1<_;ext⟩,by show 0+1<_;ext,OJ _⟩) ?zp)))
 case zp=>
  rintro⟨_,c⟩ z ⟨e,r,rfl,o⟩;exact ah (h r z e o)
 case zf=>
  rintro c z ⟨e,_,d,h1,l⟩;have:=d.ib;ext
 case zs=>
  rintro x ⟨_,n,v,u,g⟩ z _ B ⟨e,rfl,d,h1,l⟩;dsimp only at d h1 l⊢;unfold l0;dsimp only;refine ag (aX (bW (I:=λy c z=>Ge st z/\c.1=CL/\Hd f a b c.2.1 c.2.2.1 c.2.2.2.1/\c.2.2.1+1<a.size/\y+(x+1)<=c.2.2.1+c.2.2.2.1)
   (Q:=λc z=>Ge st z/\((∃r,c.1=cL r/\Ok f (a.toList++b.toList) r.toList)\/(c.1=CL/\Hd f a b c.2.1 c.2.2.1 c.2.2.2.1/\c.2.2.1+1<a.size/\x+1+1<=c.2.2.1+c.2.2.2.1))) ?s1 ?f1 ⟨e,rfl,d,h1,by show 0+(x+1)<=v+u;ext⟩) ?p1)
  case f1=>
   rintro c z ⟨e,_,d,h1,l⟩;have:=d.ib;ext
  case s1=>
   rintro y ⟨_,n,v,u,ac,bc⟩ z _ B ⟨e,rfl,d,h1,l⟩;dsimp only at d h1 l;exact LM C t k e d.mi h1 d.ib (λr c o=>⟨e,.inl ⟨r,rfl,o⟩⟩) λo i j x y d F N=>⟨⟨e,.inr ⟨rfl,d,F,by dsimp only;ext⟩⟩,⟨e,rfl,d,F,by dsimp only;ext⟩⟩
  case p1=>
   rintro⟨_,n,v,u,ac,bc⟩ z ⟨e,⟨r,rfl,o⟩|⟨rfl,d,h1,l⟩⟩
   .exact ah ⟨e,r,rfl,o⟩
   dsimp only at d h1 l⊢;refine ag (ie ?_);refine ag (aX (bW (I:=λy c z=>c.1=CL/\T2 f a b st (x+1+1) c z) (Q:=λc z=>T2 f a b st (x+1+1) c z) ?s2 (λc z q=>q.2) ⟨rfl,e,.inr ⟨rfl,d,h1,l⟩⟩) ?p2)
   case s2=>
    rintro y ⟨_,n,v,u,g,ac,bc⟩ z _ B ⟨rfl,e,⟨r,c,_⟩|⟨_,d,h1,l⟩⟩
    .cases c
    dsimp only at d h1 l⊢;have L:=λg=>GH C t (g:=g) (ac:=ac) (bc:=bc) k e d.mi h1 d.ib l;split
    .refine aX (L _) λr z q=>?_;cases r<;>exact q
    .refine aX (L _) λr z q=>?_;cases r<;>exact q
   case p2=>
    rintro⟨_,n,v,u,g,ac,bc⟩ z ⟨e,⟨r,rfl,o⟩|⟨rfl,d,h1,l⟩⟩
    .exact ah ⟨e,r,rfl,o⟩
    refine ag (ku e λy e=>ah ⟨e,rfl,d,h1,l⟩)
end
end TS
namespace TS
open PySem PyProof.Rows
set_option autoImplicit true
def Nj:KL->KL->SM KL:=sortPriv% PySem.Builtin.mergeHi
abbrev HS:=cj KL×Nat×Nat×KL×Nat
abbrev L8:=cj KL×Nat×Nat×KL×Nat×Nat
abbrev JS:=cj KL×Nat×Nat×KL×Nat×Nat×Nat
def dh(a b d:KL)(na nb:Nat):KL:=a.extract 0 na++b.extract 0 nb++d.reverse
def fb(a b d:KL)(na nb:Nat):KL:=b.extract 0 nb++a.extract 0 na++d.reverse
def Me(a b d:KL)(na nb g ac bc:Nat):SM (ForInStep JS):=do
 let x<-elem' a (na - 1)
 if na - 1==0 then pure (.done (cL (dh a b (d.push x) (na - 1) nb),na - 1,nb,d.push x,g,ac,bc))
 else if ac<7&&bc<7 then pure (.done (CL,na - 1,nb,d.push x,g,ac,bc))else pure (.yield (CL,na - 1,nb,d.push x,g,ac,bc))
def JY(a b d:KL)(na nb g ac bc:Nat):SM (ForInStep JS):=do
 let y<-elem' b (nb - 1)
 if nb - 1==1 then pure (.done (cL (fb a b (d.push y) na (nb - 1)),na,nb - 1,d.push y,g,ac,bc))
 else do
  let x<-elem' a (na - 1)
  match<-FL OG x b 0 (nb - 1) (nb - 1 - 1)with
  |some k=>
   if nb - 1 - k>0 then
    if k==1 then pure (.done (cL (fb a b (d.push y++(b.extract k (nb - 1)).reverse) na k),na,k,d.push y++(b.extract k (nb - 1)).reverse,g,ac,nb - 1 - k))
    else if k==0 then pure (.done (cL (dh a b (d.push y++(b.extract k (nb - 1)).reverse) na k),na,k,d.push y++(b.extract k (nb - 1)).reverse,g,ac,nb - 1 - k))
    else Me a b (d.push y++(b.extract k (nb - 1)).reverse) na k g ac (nb - 1 - k)
   else Me a b (d.push y) na (nb - 1) g ac (nb - 1 - k)
  |none=>pure (.done (cL (dh a b (d.push y) na (nb - 1)),na,nb - 1,d.push y,g,ac,bc))
def K5(a b d:KL)(na nb g ac bc:Nat):SM (ForInStep JS):=do
 xR g
 let y<-elem' b (nb - 1)
 match<-FL OP y a 0 na (na - 1)with
 |some k=>
  if na - k>0 then
   if k==0 then pure (.done (cL (dh a b (d++(a.extract k na).reverse) k nb),k,nb,d++(a.extract k na).reverse,g,na - k,bc))
   else JY a b (d++(a.extract k na).reverse) k nb g (na - k) bc
  else JY a b d na nb g (na - k) bc
 |none=>pure (.done (cL (dh a b d na nb),na,nb,d,g,ac,bc))
def h1(a b:KL)(g:Nat)(c:L8):SM (ForInStep L8):=do
 let y<-elem' b (c.2.2.1 - 1)
 let x<-elem' a (c.2.1 - 1)
 match<-lt' y x with
 |some w=>
  if w=OG then do
   let x<-elem' a (c.2.1 - 1)
   if c.2.1 - 1==0 then pure (.done (cL (dh a b (c.2.2.2.1.push x) (c.2.1 - 1) c.2.2.1),c.2.1 - 1,c.2.2.1,c.2.2.2.1.push x,c.2.2.2.2.1+1,0))
   else if c.2.2.2.2.1+1≥g then pure (.done (CL,c.2.1 - 1,c.2.2.1,c.2.2.2.1.push x,c.2.2.2.2.1+1,0))else pure (.yield (CL,c.2.1 - 1,c.2.2.1,c.2.2.2.1.push x,c.2.2.2.2.1+1,0))
  else do
   let y<-elem' b (c.2.2.1 - 1)
   if c.2.2.1 - 1==1 then pure (.done (cL (fb a b (c.2.2.2.1.push y) c.2.1 (c.2.2.1 - 1)),c.2.1,c.2.2.1 - 1,c.2.2.2.1.push y,0,c.2.2.2.2.2+1))
   else if c.2.2.2.2.2+1≥g then pure (.done (CL,c.2.1,c.2.2.1 - 1,c.2.2.2.1.push y,0,c.2.2.2.2.2+1))else pure (.yield (CL,c.2.1,c.2.2.1 - 1,c.2.2.2.1.push y,0,c.2.2.2.2.2+1))
 |none=>pure (.done (cL (dh a b c.2.2.2.1 c.2.1 c.2.2.1),c.2.1,c.2.2.1,c.2.2.2.1,c.2.2.2.2.1,c.2.2.2.2.2))
def h0(a b:KL)(s:HS):SM (ForInStep HS):=do
 let c<-forIn [0:a.size+b.size] ((CL,s.2.1,s.2.2.1,s.2.2.2.1,0,0):L8) λ_ c=>h1 a b s.2.2.2.2 c
 match c.1 with
 |some r=>pure (.done (cL r,c.2.1,c.2.2.1,c.2.2.2.1,s.2.2.2.2))
 |none=>do
  rule "list.sort.gallop"
  let d<-forIn [0:a.size+b.size] ((CL,c.2.1,c.2.2.1,c.2.2.2.1,s.2.2.2.2+1,c.2.2.2.2.1,c.2.2.2.2.2):JS) λ_ d=>
   if d.2.2.2.2.1>1 then K5 a b d.2.2.2.1 d.2.1 d.2.2.1 (d.2.2.2.2.1 - 1) d.2.2.2.2.2.1 d.2.2.2.2.2.2 else K5 a b d.2.2.2.1 d.2.1 d.2.2.1 d.2.2.2.2.1 d.2.2.2.2.2.1 d.2.2.2.2.2.2
  match d.1 with
  |some r=>pure (.done (cL r,d.2.1,d.2.2.1,d.2.2.2.1,d.2.2.2.2.1))
  |none=>do
   xR (d.2.2.2.2.1+1)
   pure (.yield (CL,d.2.1,d.2.2.1,d.2.2.2.1,d.2.2.2.2.1+1))
theorem GX(a b:KL):Nj a b=(do
 rule "list.sort.merge-hi"
 let x<-elem' a (a.size - 1)
 if(a.size - 1==0)=OG then pure (dh a b #[x] (a.size - 1) b.size)
 else if(b.size==1)=OG then pure (fb a b #[x] (a.size - 1) b.size)
 else do
  let g<-get
  let s<-forIn [0:a.size+b.size] ((CL,a.size - 1,b.size,#[x],gallopOf g):HS) λ_ s=>h0 a b s
  match s.1 with
  |some r=>pure r
  |none=>unsupported "internal:list.sort.merge-bound"):=by
 show(bind _ _:SM KL)=bind _ _;dsimp only;congr 1;funext _u;congr 1;funext y;refine ite_congr rfl (λ_=>rfl) λ_=>?_;refine ite_congr rfl (λ_=>rfl) λ_=>?_;congr 1;funext g;congr 1
 .congr 1;funext _x s
  unfold h0;congr 1
  .congr 1;funext _x c
   unfold h1;congr 1;funext y;congr 1;funext x;congr 1;funext v;cases v with
   |none=>rfl
   |some v=>rfl
  .funext c
   obtain⟨r,c⟩:=c;cases r with
   |some r=>rfl
   |none=>
    dsimp only;congr 1;funext _v;congr 1
    .congr 1;funext _x d
     refine ite_congr rfl (λ_=>?_) λ_=>?_
     all_goals
      unfold K5;congr 1;funext _z;congr 1;funext y;congr 1;funext k;cases k with
      |none=>rfl
      |some k=>
       dsimp only;refine ite_congr rfl (λ_=>?_) λ_=>?_
       .refine ite_congr rfl (λ_=>rfl) λ_=>?_
        unfold JY;congr 1;funext y;refine ite_congr rfl (λ_=>rfl) λ_=>?_;congr 1;funext x;congr 1;funext k1;cases k1 with
        |none=>rfl
        |some k1=>rfl
       .unfold JY;congr 1;funext y
        refine ite_congr rfl (λ_=>rfl) λ_=>?_;congr 1;funext x;congr 1;funext k1;cases k1 with
        |none=>rfl
        |some k1=>rfl
    .funext d
     obtain⟨r,d⟩:=d;cases r with
     |some r=>rfl
     |none=>rfl
 .funext s
  obtain⟨r,s⟩:=s;cases r with
  |some r=>rfl
  |none=>rfl
end TS
namespace TS
open PySem PyProof.Rows
set_option autoImplicit true
structure Mh(f:Keyed->Nat)(T o X Y:cc Keyed):Prop where
 perm:(X++Y++o).Perm T
 so:o.Pairwise (Le f)
 bd:∀z,z∈X\/z∈Y->∀p∈o,f z<=f p
 sx:X.Pairwise (Le f)
 sy:Y.Pairwise (Le f)
section
variable{f:Keyed->Nat}{T o X Y P:cc Keyed}
theorem Mh.swap(m:Mh f T o X Y):Mh f T o Y X where
 perm:=(adV o Tt).trans m.perm
 so:=m.so
 bd:=λz a=>m.bd z a.symm
 sx:=m.sy
 sy:=m.sx
theorem Mh.y(m:Mh f T o X (Y++P))(h:∀x∈X,∀p∈P,f x<=f p):Mh f T (P++o) X Y where
 perm:=by have:=m.perm;simpa only[Pj]using this
 so:=PU.mpr ⟨(PU.mp m.sy).2.1,m.so,λp b z a=>m.bd p (.inr (Ph _ b)) z a⟩
 bd:=λz a p b=>by
  rcases Pf.mp b with q|q
  .rcases a with a|a
   .exact h z a p q
   .exact(PU.mp m.sy).2.2 z a p q
  .exact m.bd z (a.imp id (PR _)) p q
 sx:=m.sx
 sy:=(PU.mp m.sy).1
theorem Mh.x(m:Mh f T o (X++P) Y)(h:∀y∈Y,∀p∈P,f y<=f p):Mh f T (P++o) X Y:=(m.swap.y h).swap
theorem Mh.dn(m:Mh f T o X Y)(h:∀x∈X,∀y∈Y,f x<=f y):Ok f T (X++Y++o) where
 perm:=m.perm
 so:=PU.mpr ⟨PU.mpr ⟨m.sx,m.sy,h⟩,m.so,λp b z a=>m.bd p (Pf.mp b) z a⟩
end
section
variable{prog:Pa}{w:Pz}{A:Pp}{E:OC->OK->Prop}{J:OK->Prop}{κ:SortKind}{Z:Array Keyed}{f:Keyed->Nat}{a b:KL}
abbrev MH(f:Keyed->Nat)(a b d:KL)(na nb:Nat):Prop:=Mh f (a.toList++b.toList) d.toList.reverse (a.toList.take na) (b.toList.take nb)
theorem DM(i:Nat):(a.extract 0 i).toList=a.toList.take i:=by rw[mj];simp
theorem MY(d:KL)(na nb:Nat):(dh a b d na nb).toList=a.toList.take na++b.toList.take nb++d.toList.reverse:=by unfold dh;rw[P9,P9,DM,DM,Sg]
theorem MM(d:KL)(na nb:Nat):(fb a b d na nb).toList=b.toList.take nb++a.toList.take na++d.toList.reverse:=by unfold fb;rw[P9,P9,DM,DM,Sg]
theorem Bs{i:Nat}(h0:0<i)(h:i<=a.size):a.toList.take i=a.toList.take (i - 1)++[a[i - 1]]:=by have:=List.take_succ_eq_append_getElem (l:=a.toList) (i:=i - 1) (by simp;ext);rw[show i - 1+1=i by ext]at this;rw[this];simp
theorem yL{i k:Nat}(h:k<=i):a.toList.take i=a.toList.take k++(a.toList.drop k).take (i - k):=by
 have:i=k+(i - k):=by ext
 conv=>lhs;rw[this]
 exact List.take_add
theorem Mh.px{d:KL}{na nb:Nat}(m:MH f a b d na nb)(h0:0<na)(h:na<=a.size)(q:∀j (e:j<b.size),j<nb->f b[j]<=f a[na - 1]):MH f a b (d.push a[na - 1]) (na - 1) nb:=by unfold MH at m⊢;rw[Bs h0 h]at m;rw[RN,Si];refine Mh.x m λy g p i=>?_;rw[OU.mp i];obtain⟨j,e,h1,rfl⟩:=gf g;exact q j e h1
theorem Mh.py{d:KL}{na nb:Nat}(m:MH f a b d na nb)(h0:0<nb)(h:nb<=b.size)(q:∀j (e:j<a.size),j<na->f a[j]<=f b[nb - 1]):MH f a b (d.push b[nb - 1]) na (nb - 1):=by unfold MH at m⊢;rw[Bs h0 h]at m;rw[RN,Si];refine Mh.y m λy g p i=>?_;rw[OU.mp i];obtain⟨j,e,h1,rfl⟩:=gf g;exact q j e h1
theorem Mh.kx{d:KL}{na nb k:Nat}(m:MH f a b d na nb)(h:k<=na)(q:∀i (hi:i<a.size),k<=i->i<na->∀j (e:j<b.size),j<nb->f b[j]<=f a[i]):MH f a b (d++(a.extract k na).reverse) k nb:=by unfold MH at m⊢;rw[yL h]at m;rw[P9,Sg,Si,VJ,mj];refine Mh.x m λy g p l=>?_;obtain⟨i,hi,h1,o,rfl⟩:=mI l;obtain⟨j,e,n,rfl⟩:=gf g;exact q i hi h1 (by ext) j e n
theorem Mh.ky{d:KL}{na nb k:Nat}(m:MH f a b d na nb)(h:k<=nb)(q:∀i (hi:i<b.size),k<=i->i<nb->∀j (e:j<a.size),j<na->f a[j]<=f b[i]):MH f a b (d++(b.extract k nb).reverse) na k:=by unfold MH at m⊢;rw[yL h]at m;rw[P9,Sg,Si,VJ,mj];refine Mh.y m λy g p l=>?_;obtain⟨i,hi,h1,o,rfl⟩:=mI l;obtain⟨j,e,n,rfl⟩:=gf g;exact q i hi h1 (by ext) j e n
theorem Mh.nb{d:KL}{na nb:Nat}(m:MH f a b d na nb)(h:na=0\/nb=0):Ok f (a.toList++b.toList) (dh a b d na nb).toList:=by rw[MY];refine Mh.dn m λx g y e=>?_;obtain⟨j,k,h1,rfl⟩:=gf g;obtain⟨i,hi,l,rfl⟩:=gf e;ext
theorem Mh.l1(t:Two f Z a b){d:KL}{na nb:Nat}(m:MH f a b d na nb)(h:nb=1):Ok f (a.toList++b.toList) (fb a b d na nb).toList:=by
 rw[MM];refine m.swap.dn λy e x g=>?_;obtain⟨j,i,h1,rfl⟩:=gf e;have:j=0:=by ext
 subst this;exact t.first x (TB g)
structure Hh(f:Keyed->Nat)(a b out:KL)(na nb:Nat):Prop where
 mi:MH f a b out na nb
 a0:0<na
 a1:na<=a.size
 b0:1<nb
 b1:nb<=b.size
def U2(f:Keyed->Nat)(a b:KL)(st:SortSt)(n:Nat)(d:JS)(z:SortSt):Prop:=Ge st z/\((∃r,d.1=cL r/\Ok f (a.toList++b.toList) r.toList)\/(d.1=CL/\Hh f a b d.2.2.2.1 d.2.1 d.2.2.1/\d.2.1+d.2.2.1<=n))
abbrev G2(f:Keyed->Nat)(a b:KL)(st:SortSt)(n:Nat)(r:ForInStep JS)(z:SortSt):Prop:=match r with
 |.done d=>U2 f a b st n d z
 |.yield d=>d.1=CL/\U2 f a b st n d z
theorem Af(t:Two f Z a b){h:KL}{na nb g ac bc n:Nat}{st z:SortSt}(e:Ge st z)(m:Hh f a b h na nb)(hn:na+nb<=n)(p:na - 1<a.size)
  (q:∀j (r:j<b.size),j<nb->f b[j]<=f a[na - 1]):fF (model prog w) A E J (Me a b h na nb g ac bc) (G2 f a b st n) z:=by
 obtain⟨m,o,l,k,i⟩:=m;unfold Me;refine ag (aQ (getElem?_pos a (na - 1) (by ext)) ?_);have m:=m.px o l q;by_cases c:na - 1=0
 .rw[ai (by simpa using c)];exact ah ⟨e,.inl ⟨_,rfl,m.nb (.inl c)⟩⟩
 .rw[ak (by simpa using c)]
  by_cases d:(decide (ac<7)&&decide (bc<7))=OG
  .rw[ai d];exact ah ⟨e,.inr ⟨rfl,⟨m,by dsimp only;ext,by dsimp only;ext,k,i⟩,by dsimp only;ext⟩⟩
  .rw[ak d];exact ah ⟨rfl,e,.inr ⟨rfl,⟨m,by dsimp only;ext,by dsimp only;ext,k,i⟩,by dsimp only;ext⟩⟩
theorem BJ(C:Ask prog w A E J κ (·∈Z.toList) f)(t:Two f Z a b){d:KL}{na nb g ac bc n:Nat}{st z:SortSt}(k:kindOf st=κ)(e:Ge st z)(m:Hh f a b d na nb)(hn:na+nb<=n)(K:nb - 1<b.size)
  (q:∀j (u:j<a.size),j<na->f a[j]<=f b[nb - 1]):fF (model prog w) A E J (JY a b d na nb g ac bc) (G2 f a b st n) z:=by
 obtain⟨m,B,v,M,G⟩:=m;unfold JY;refine ag (aQ (getElem?_pos b (nb - 1) (by ext)) ?_);have m:=m.py (by ext) G q;by_cases c:nb - 1=1
 .rw[ai (by simpa using c)];exact ah ⟨e,.inl ⟨_,rfl,m.l1 t c⟩⟩
 .rw[ak (by simpa using c)]
  refine ag (aQ (getElem?_pos a (na - 1) (by ext)) ?_);refine ag (jE C (e.kind.trans k) (t.ina (by ext)) (λi=>decide (if h:i<b.size then f b[i]<f a[na - 1]else False)) (λi hi=>⟨b[i],t.inb _,by rw[Sq];exact getElem?_pos b _ (by ext),?_⟩) (λi j I u q=>?_) (by ext) λk1 k2 k3 k4=>?_)
  .unfold Bt;simp only[if_true];exact decide_eq_decide.mpr (by rw[dif_pos (by ext)])
  .have q:=b9 q;rw[dif_pos (by ext)]at q;refine a6 ?_;rw[dif_pos (by ext)];exact SA (t.ys (by ext) (by ext)) q
  have F:∀i (hi:i<b.size),i<k1->f b[i]<=f a[na - 1]:=λi hi l=>by have:=b9 (k3 i l);rw[dif_pos (by ext)]at this;exact Qo this
  have H:∀i (hi:i<b.size),k1<=i->i<nb - 1->f a[na - 1]<=f b[i]:=λi hi o l=>by have:=of_decide_eq_false (k4 i o l);rw[dif_pos (by ext)]at this;exact Q7 this
  dsimp only;by_cases k0:nb - 1 - k1>0
  .rw[ai k0]
   have m:=m.ky (k:=k1) k2 λi hi o l j u L=>OZ (t.xs (j:=na - 1) (by ext) (by ext)) (H i hi o l);by_cases r:k1=1
   .rw[ai (by simpa using r)];exact ah ⟨e,.inl ⟨_,rfl,m.l1 t r⟩⟩
   .rw[ak (by simpa using r)]
    by_cases p:k1=0
    .rw[ai (by simpa using p)];exact ah ⟨e,.inl ⟨_,rfl,m.nb (.inr p)⟩⟩
    .rw[ak (by simpa using p)];exact Af t e ⟨m,B,v,by ext,by ext⟩ (by ext) (by ext) F
  .rw[ak k0]
   have:k1=nb - 1:=by ext
   subst this;exact Af t e ⟨m,B,v,by ext,by ext⟩ (by ext) (by ext) F
theorem G8(C:Ask prog w A E J κ (·∈Z.toList) f)(t:Two f Z a b){d:KL}{na nb g ac bc n:Nat}{st z:SortSt}(k:kindOf st=κ)(e:Ge st z)(m:Hh f a b d na nb)(hn:na+nb<=n):
  fF (model prog w) A E J (K5 a b d na nb g ac bc) (G2 f a b st n) z:=by
 obtain⟨m,F,B,r,p⟩:=m;unfold K5;refine ag (ku e λy e=>?_);refine ag (aQ (getElem?_pos b (nb - 1) (by ext)) ?_);refine ag (jE C (e.kind.trans k) (t.inb (by ext)) (λi=>decide (if h:i<a.size then f a[i]<=f b[nb - 1]else False)) (λi hi=>⟨a[i],t.ina _,by rw[Sq];exact getElem?_pos a _ (by ext),?_⟩) (λi j H v q=>?_) (by ext) λk1 k2 k3 k4=>?_)
 .unfold Bt;simp only[OS,if_false];exact decide_eq_decide.mpr (by rw[dif_pos (by ext)])
 .have q:=b9 q;rw[dif_pos (by ext)]at q;refine a6 ?_;rw[dif_pos (by ext)];exact OZ (t.xs (by ext) (by ext)) q
 have u:∀i (hi:i<a.size),i<k1->f a[i]<=f b[nb - 1]:=λi hi l=>by have:=b9 (k3 i l);rw[dif_pos (by ext)]at this;exact this
 have G:∀i (hi:i<a.size),k1<=i->i<na->f b[nb - 1]<=f a[i]:=λi hi o l=>by have:=of_decide_eq_false (k4 i o l);rw[dif_pos (by ext)]at this;ext
 dsimp only;by_cases k0:na - k1>0
 .rw[ai k0]
  have m:=m.kx (k:=k1) k2 λi hi o l j v I=>OZ (t.ys (j:=nb - 1) (by ext) (by ext)) (G i hi o l);by_cases c:k1=0
  .rw[ai (by simpa using c)];exact ah ⟨e,.inl ⟨_,rfl,m.nb (.inl c)⟩⟩
  .rw[ak (by simpa using c)];exact BJ C t k e ⟨m,by ext,by ext,r,p⟩ (by ext) (by ext) u
 .rw[ak k0]
  have:k1=na:=by ext
  subst this;exact BJ C t k e ⟨m,F,B,r,p⟩ hn (by ext) u
theorem KW(C:Ask prog w A E J κ (·∈Z.toList) f)(t:Two f Z a b){n:KL}{na nb g ac bc:Nat}{st z:SortSt}(k:kindOf st=κ)(e:Ge st z)(m:Hh f a b n na nb)
  {Q:ForInStep L8->SortSt->Prop} (q:∀r c,Ok f (a.toList++b.toList) r.toList->Q (.done (cL r,c)) z)
  (h:∀o i j x y,Hh f a b o i j->i+j+1=na+nb->Q (.done (CL,i,j,o,x,y)) z/\Q (.yield (CL,i,j,o,x,y)) z):
  fF (model prog w) A E J (h1 a b g (CL,na,nb,n,ac,bc)) Q z:=by
 obtain⟨m,B,v,H,u⟩:=m;unfold h1;dsimp only;have p:na - 1<a.size:=by ext
 have d:nb - 1<b.size:=by ext
 refine ag (aQ (getElem?_pos b (nb - 1) d) ?_);refine ag (aQ (getElem?_pos a (na - 1) p) ?_);refine ag (rj C (t.inb d) (t.ina p) (e.kind.trans k) ?_);dsimp only;by_cases l:f b[nb - 1]<f a[na - 1]
 .rw[ai (a6 l)]
  refine ag (aQ (getElem?_pos a (na - 1) p) ?_);have m:=m.px B v λj F G=>OZ (t.ys (by ext) d) (Qo l);by_cases c:na - 1=0
  .rw[ai (by simpa using c)];exact ah (q _ _ (m.nb (.inl c)))
  .rw[ak (by simpa using c)]
   have h:=λx y=>h _ _ _ x y ⟨m,by ext,by ext,H,u⟩ (by ext);split
   .exact ah (h _ _).1
   .exact ah (h _ _).2
 .rw[ak (by simpa using l)]
  refine ag (aQ (getElem?_pos b (nb - 1) d) ?_);have m:=m.py (by ext) u λj F G=>OZ (t.xs (by ext) p) (Q7 l);by_cases c:nb - 1=1
  .rw[ai (by simpa using c)];exact ah (q _ _ (m.l1 t c))
  .rw[ak (by simpa using c)]
   have h:=λx y=>h _ _ _ x y ⟨m,B,v,by ext,by ext⟩ (by ext);split
   .exact ah (h _ _).1
   .exact ah (h _ _).2
theorem HC(C:Ask prog w A E J κ (·∈Z.toList) f)(t:Two f Z a b){st:SortSt}(k:kindOf st=κ){Q:KL->SortSt->Prop}(h:∀r z,Ge st z->Ok f (a.toList++b.toList) r.toList->Q r z):
  fF (model prog w) A E J (Nj a b) Q st:=by
 rw[GX];have nb:=t.nb;have u:=t.na;refine ag (ie ?_);refine ag (aQ (getElem?_pos a (a.size - 1) (by ext)) ?_);have ta:a.toList.take a.size=a.toList:=Qs (by simp);have tb:b.toList.take b.size=b.toList:=Qs (by simp);have B:MH f a b (#[]:KL) a.size b.size:=⟨by rw[ta,tb];simp,.nil,λz _ p F=>by simp at F,by rw[ta];exact t.sa,by rw[tb];exact t.sb⟩;have m:=B.px u (OJ _) λj G _=>t.last _ (by simp);have e1:(#[]:KL).push (a[a.size - 1])= #[a[a.size - 1]]:=rfl;rw[e1]at m;by_cases c:a.size - 1=0
 .rw[ai (by simpa using c)];exact ah (h _ _ .rfl (m.nb (.inl c)))
 rw[ak (by simpa using c)];by_cases c:b.size=1
 .rw[ai (by simpa using c)];exact ah (h _ _ .rfl (m.l1 t c))
 rw[ak (by simpa using c)];refine ag (eu (ag (aX (bW (I:=λx c z=>Ge st z/\c.1=CL/\Hh f a b c.2.2.2.1 c.2.1 c.2.2.1/\c.2.1+c.2.2.1+x+1<=a.size+b.size)
  (Q:=λc z=>Ge st z/\∃r,c.1=cL r/\Ok f (a.toList++b.toList) r.toList) ?zs ?zf ⟨.rfl,rfl,⟨m,by dsimp only;ext,by dsimp only;ext,by dsimp only;ext,OJ _⟩,by dsimp only;ext⟩) ?zp)))
 case zp=>
  rintro⟨_,c⟩ z ⟨e,r,rfl,o⟩;exact ah (h r z e o)
 case zf=>
  rintro c z ⟨e,_,d,l⟩;have:=d.b0;ext
 case zs=>
  rintro x ⟨_,u,nb,n,g⟩ z _ v ⟨e,rfl,d,l⟩;dsimp only at d l⊢;unfold h0;dsimp only;refine ag (aX (bW (I:=λy c z=>Ge st z/\c.1=CL/\Hh f a b c.2.2.2.1 c.2.1 c.2.2.1/\c.2.1+c.2.2.1+y+(x+1)<=a.size+b.size)
   (Q:=λc z=>Ge st z/\((∃r,c.1=cL r/\Ok f (a.toList++b.toList) r.toList)\/(c.1=CL/\Hh f a b c.2.2.2.1 c.2.1 c.2.2.1/\c.2.1+c.2.2.1<=a.size+b.size - (x+1+1)))) ?s1 ?f1 ⟨e,rfl,d,by dsimp only;ext⟩) ?p1)
  case f1=>
   rintro c z ⟨e,_,d,l⟩;have:=d.b0;ext
  case s1=>
   rintro y ⟨_,u,nb,n,ac,bc⟩ z _ v ⟨e,rfl,d,l⟩;dsimp only at d l;exact KW C t k e d (λr c o=>⟨e,.inl ⟨r,rfl,o⟩⟩) λo i j x y d H=>⟨⟨e,.inr ⟨rfl,d,by dsimp only;ext⟩⟩,⟨e,rfl,d,by dsimp only;ext⟩⟩
  case p1=>
   rintro⟨_,u,nb,n,ac,bc⟩ z ⟨e,⟨r,rfl,o⟩|⟨rfl,d,l⟩⟩
   .exact ah ⟨e,r,rfl,o⟩
   dsimp only at d l⊢;refine ag (ie ?_);refine ag (aX (bW (I:=λy c z=>c.1=CL/\U2 f a b st (a.size+b.size - (x+1+1)) c z) (Q:=λc z=>U2 f a b st (a.size+b.size - (x+1+1)) c z) ?s2 (λc z q=>q.2) ⟨rfl,e,.inr ⟨rfl,d,l⟩⟩) ?p2)
   case s2=>
    rintro y ⟨_,u,nb,n,g,ac,bc⟩ z _ v ⟨rfl,e,⟨r,c,_⟩|⟨_,d,l⟩⟩
    .cases c
    dsimp only at d l⊢;have L:=λg=>G8 C t (g:=g) (ac:=ac) (bc:=bc) k e d l;split
    .refine aX (L _) λr z q=>?_;cases r<;>exact q
    .refine aX (L _) λr z q=>?_;cases r<;>exact q
   case p2=>
    rintro⟨_,u,nb,n,g,ac,bc⟩ z ⟨e,⟨r,rfl,o⟩|⟨rfl,d,l⟩⟩
    .exact ah ⟨e,r,rfl,o⟩
    dsimp only at d l;have:=d.b0;refine ag (ku e λy e=>ah ⟨e,rfl,d,by dsimp only;ext⟩)
end
end TS
namespace TS
open PySem PyProof.Rows
set_option autoImplicit true
def cA(lo a n:Nat):SM (cj (cj Nat)×Nat):=
 forIn [a:n] ((CL,a):cj (cj Nat)×Nat) λ_ c=>do
  match<-ltAt' (lo+c.2) (lo+c.2 - 1)with
  |some s=>if s=OG then pure (.done (CL,c.2))else pure (.yield (CL,c.2+1))
  |none=>pure (.done (cL CL,c.2))
def cC(lo a n:Nat):SM (cj Nat):=do
 reverseSlice' lo (lo+a)
 let c<-cA lo a n
 match c.1 with
 |some r=>pure r
 |none=>pure (cL c.2)
def cD(lo a n:Nat):SM (cj (cj Nat)×Nat×Nat):=
 forIn [a:n] ((CL,a,0):cj (cj Nat)×Nat×Nat) λ_ c=>do
  match<-ltAt' (lo+c.2.1) (lo+c.2.1 - 1)with
  |some s=>
   if s=OG then
    if c.2.2>0 then do
     reverseSlice' (lo+c.2.1 - (c.2.2+1)) (lo+c.2.1)
     pure (.yield (CL,c.2.1+1,0))
    else pure (.yield (CL,c.2.1+1,0))
   else do
    match<-ltAt' (lo+c.2.1 - 1) (lo+c.2.1)with
    |some g=>if g=OG then pure (.done (CL,c.2.1,c.2.2))else pure (.yield (CL,c.2.1+1,c.2.2+1))
    |none=>pure (.done (cL CL,c.2.1,c.2.2))
  |none=>pure (.done (cL CL,c.2.1,c.2.2))
def cB(lo a n:Nat):SM (cj Nat):=do
 rule "list.sort.descending-run"
 let c<-cD lo (a+1) n
 match c.1 with
 |some r=>pure r
 |none=>
  if c.2.2>0 then do
   reverseSlice' (lo+c.2.1 - (c.2.2+1)) (lo+c.2.1)
   cC lo c.2.1 n
  else cC lo c.2.1 n
theorem bc{α d:Type}{m a:SM α}{k b:α->SM d}(h:m=a)(q:∀x,k x=b x):m>>=k=a>>=b:=by subst h;congr 1;funext x;exact q x
theorem LU(lo n:Nat):countRun' lo n=(do
  let c<-cA lo 1 n
  match c.1 with
  |some r=>pure r
  |none=>
   if(c.2==n)=OG then pure (cL c.2)
   else if c.2>1 then do
    match<-ltAt' lo (lo+c.2 - 1)with
    |some s=>if s=OG then pure (cL c.2)else do
      reverseSlice' lo (lo+c.2)
      cB lo c.2 n
    |none=>pure CL
   else cB lo c.2 n):=by
 rw[countRun'_eq];dsimp only;refine bc (by unfold cA;congr 1;funext _x c;refine bc rfl λv=>?_;cases v<;>rfl) λc=>?_;obtain⟨r,a⟩:=c;cases r with
 |some r=>rfl
 |none=>
  dsimp only;refine ite_congr rfl (λ_=>rfl) λ_=>?_;refine ite_congr rfl (λ_=>bc rfl λv=>?_) λ_=>?_
  .cases v with
   |none=>rfl
   |some v=>
    refine ite_congr rfl (λ_=>rfl) λ_=>bc rfl λ_=>?_;unfold cB cC;refine bc rfl λ_=>bc (by unfold cD;congr 1;funext _x c;refine bc rfl λv=>?_;cases v with|none=>rfl|some v=>exact ite_congr rfl (λ_=>rfl) λ_=>bc rfl λv=>by cases v<;>rfl) λd=>?_;obtain⟨r,d,q⟩:=d;cases r with
    |some r=>rfl
    |none=>
     dsimp only;refine ite_congr rfl (λ_=>bc rfl λ_=>bc rfl λ_=>bc (by unfold cA;congr 1;funext _x c;refine bc rfl λv=>?_;cases v<;>rfl) λe=>?_) λ_=>bc rfl λ_=>bc (by unfold cA;congr 1;funext _x c;refine bc rfl λv=>?_;cases v<;>rfl) λe=>?_
     .obtain⟨r,e⟩:=e;cases r<;>rfl
     .obtain⟨r,e⟩:=e;cases r<;>rfl
  .unfold cB cC
   refine bc rfl λ_=>bc (by unfold cD;congr 1;funext _x c;refine bc rfl λv=>?_;cases v with|none=>rfl|some v=>exact ite_congr rfl (λ_=>rfl) λ_=>bc rfl λv=>by cases v<;>rfl) λd=>?_;obtain⟨r,d,q⟩:=d;cases r with
   |some r=>rfl
   |none=>
    dsimp only;refine ite_congr rfl (λ_=>bc rfl λ_=>bc rfl λ_=>bc (by unfold cA;congr 1;funext _x c;refine bc rfl λv=>?_;cases v<;>rfl) λe=>?_) λ_=>bc rfl λ_=>bc (by unfold cA;congr 1;funext _x c;refine bc rfl λv=>?_;cases v<;>rfl) λe=>?_
    .obtain⟨r,e⟩:=e;cases r<;>rfl
    .obtain⟨r,e⟩:=e;cases r<;>rfl
section
variable{prog:Pa}{w:Pz}{A:Pp}{E:OC->OK->Prop}{J:OK->Prop}{κ:SortKind}{Z:Array Keyed}{f:Keyed->Nat}
def Fa(f:Keyed->Nat)(xs:Array Keyed)(a b:Nat):Prop:=∀i j,a<=i->i<=j->j<b->R f xs j<=R f xs i
theorem i4{xs:Array Keyed}{i j:Nat}(a:j<=xs.size)(h:∀k,i<=k->k<j->R f xs k=R f xs (j - 1))(k:Nat):
  R f (mirror xs i j ((j - i)/2)) k=R f xs k:=by
 rw[lu a];split
 .rw[h _ (by ext) (by ext),h k (by ext) (by ext)]
 .rfl
theorem Fe(C:Ask prog w A E J κ (·∈Z.toList) f){st:SortSt}{lo a n:Nat}{Q:cj (cj Nat)×Nat->SortSt->Prop}(hn:lo+n<=Z.size)(h1:1<=a)(t:a<=n)(g:Gd κ Z st)(p:So f (arrOf st) lo (lo+a))
  (h:∀m,a<=m->m<=n->So f (arrOf st) lo (lo+m)->(m=n\/R f (arrOf st) (lo+m)<R f (arrOf st) (lo+m - 1))->Q (CL,m) st):
  fF (model prog w) A E J (cA lo a n) Q st:=by
 unfold cA;refine bW (I:=λx c z=>z=st/\c=(CL,x)/\So f (arrOf st) lo (lo+x)) ?s ?f ⟨rfl,rfl,p⟩
 case f=>
  rintro c z ⟨rfl,rfl,k⟩;rw[show max a n=n by ext]at k⊢;exact h n t (OJ _) k (.inl rfl)
 case s=>
  rintro x c z r u ⟨rfl,rfl,k⟩;dsimp only;refine ag (i7 C g (by ext) (by ext) ?_);by_cases l:R f (arrOf z) (lo+x)<R f (arrOf z) (lo+x - 1)
  .simp only[l,decide_true,if_true];exact ah (h x r (by ext) k (.inr l))
  .simp only[l,decide_false,OS,if_false]
   refine ah ⟨rfl,rfl,λi j b o v=>?_⟩;by_cases q:j<lo+x
   .exact k i j b o q
   .have e:j=lo+x:=by ext
    subst e;by_cases d:i=lo+x
    .rw[d];exact OJ _
    .exact OZ (k i (lo+x - 1) b (by ext) (by ext)) (Q7 l)
theorem Fo(C:Ask prog w A E J κ (·∈Z.toList) f){st z:SortSt}{lo a n:Nat}{Q:cj Nat->SortSt->Prop}(hn:lo+n<=Z.size)(h1:1<=a)(g:a<=n)(u:Up κ Z f lo st z)(e:Fa f (arrOf z) lo (lo+a))
  (h:∀m y,Up κ Z f lo st y->1<=m->m<=n->So f (arrOf y) lo (lo+m)->Q (cL m) y):fF (model prog w) A E J (cC lo a n) Q z:=by
 unfold cC;refine ag (pV ?_);have b:=u.mir (i:=lo) (j:=lo+a) (OJ _) (by ext);refine ag (Fe C hn h1 g b.gd (λi j p o l=>?_) λm q d k _=>ah (h m _ b (by ext) d k));show R f (mirror (arrOf z) lo (lo+a) _) i<=R f (mirror (arrOf z) lo (lo+a) _) j;have sz:lo+a<=(arrOf z).size:=by rw[u.gd.size];ext
 rw[lu sz,lu sz,ai (by ext),ai (by ext)];exact e _ _ (by ext) (by ext) (by ext)
theorem Ky(C:Ask prog w A E J κ (·∈Z.toList) f){st z:SortSt}{lo a n:Nat}{Q:cj (cj Nat)×Nat×Nat->SortSt->Prop}(hn:lo+n<=Z.size)(h1:1<=a)(B:a<=n)(u:Up κ Z f lo st z)(t:Fa f (arrOf z) lo (lo+a))
  (h:∀m q y,Up κ Z f lo st y->a<=m->m<=n->Fa f (arrOf y) lo (lo+m)->q+1<=m->(∀i,lo+m - (q+1)<=i->i<lo+m->R f (arrOf y) i=R f (arrOf y) (lo+m - 1))->Q (CL,m,q) y):
  fF (model prog w) A E J (cD lo a n) Q z:=by
 unfold cD;refine bW (I:=λx c y=>∃q,c=(CL,x,q)/\Up κ Z f lo st y/\Fa f (arrOf y) lo (lo+x)/\q+1<=x/\
   (∀i,lo+x - (q+1)<=i->i<lo+x->R f (arrOf y) i=R f (arrOf y) (lo+x - 1))) ?s ?f ⟨0,rfl,u,t,by ext,λi b d=>by congr 1;ext⟩
 case f=>
  rintro c y ⟨q,rfl,u,k,q1,q2⟩;rw[show max a n=n by ext]at k q1 q2⊢;exact h n q y u B (OJ _) k q1 q2
 case s=>
  rintro x c y v F ⟨q,rfl,u,k,q1,q2⟩;dsimp only;have sz:lo+x<=(arrOf y).size:=by rw[u.gd.size];ext
  refine ag (i7 C u.gd (by ext) (by ext) ?_);by_cases l:R f (arrOf y) (lo+x)<R f (arrOf y) (lo+x - 1)
  .simp only[l,decide_true,if_true]
   have one:∀xs:Array Keyed,(∀k,R f xs k=R f (arrOf y) k)->Fa f xs lo (lo+(x+1)):=by
    intro xs e i j b d r;rw[e,e];by_cases c:j<lo+x
    .exact k i j b d c
    .have e:j=lo+x:=by ext
     subst e;by_cases g:i=lo+x
     .rw[g];exact OJ _
     .exact OZ (Qo l) (k i (lo+x - 1) b (by ext) (by ext))
   by_cases c:q>0
   .rw[ai c];refine ag (pV (ah ⟨0,rfl,u.mir (by ext) (by ext),one _ (i4 sz q2),by ext,λi b d=>by congr 1;ext⟩))
   .rw[ak c];exact ah ⟨0,rfl,u,one _ (λ_=>rfl),by ext,λi b d=>by congr 1;ext⟩
  .simp only[l,decide_false,OS,if_false]
   refine ag (i7 C u.gd (by ext) (by ext) ?_);by_cases o:R f (arrOf y) (lo+x - 1)<R f (arrOf y) (lo+x)
   .simp only[o,decide_true,if_true];exact ah (h x q y u v (by ext) k q1 q2)
   .simp only[o,decide_false,OS,if_false]
    have p:R f (arrOf y) (lo+x)=R f (arrOf y) (lo+x - 1):=by ext
    refine ah ⟨q+1,rfl,u,λi j b d r=>?_,by ext,λi b d=>?_⟩
    .by_cases c:j<lo+x
     .exact k i j b d c
     .have e:j=lo+x:=by ext
      subst e;by_cases g:i=lo+x
      .rw[g];exact OJ _
      .rw[p];exact k i _ b (by ext) (by ext)
    .rw[show lo+(x+1) - 1=lo+x by ext]
     by_cases c:i=lo+x
     .rw[c]
     .rw[p];exact q2 i (by ext) (by ext)
theorem Fj(C:Ask prog w A E J κ (·∈Z.toList) f){st z:SortSt}{lo a n:Nat}{Q:cj Nat->SortSt->Prop}(hn:lo+n<=Z.size)(p:a+1<=n)(u:Up κ Z f lo st z)(o:Fa f (arrOf z) lo (lo+(a+1)))
  (h:∀m y,Up κ Z f lo st y->1<=m->m<=n->So f (arrOf y) lo (lo+m)->Q (cL m) y):fF (model prog w) A E J (cB lo a n) Q z:=by
 unfold cB;refine ag (ie ?_);refine ag (Ky C hn (by ext) p u o λm q y u t d k r b=>?_);dsimp only;have sz:lo+m<=(arrOf y).size:=by rw[u.gd.size];ext
 by_cases c:q>0
 .rw[ai c];refine ag (pV (Fo C hn (by ext) d (u.mir (by ext) (by ext)) (λi j l g e=>?_) h));show R f (mirror (arrOf y) _ _ _) j<=R f (mirror (arrOf y) _ _ _) i;rw[i4 sz b,i4 sz b];exact k i j l g e
 .rw[ak c];exact Fo C hn (by ext) d u k h
theorem Lx(C:Ask prog w A E J κ (·∈Z.toList) f){st:SortSt}{lo n:Nat}{Q:cj Nat->SortSt->Prop}(hn:lo+n<=Z.size)(h1:1<=n)(g:Gd κ Z st)
  (h:∀m y,Up κ Z f lo st y->1<=m->m<=n->So f (arrOf y) lo (lo+m)->Q (cL m) y):fF (model prog w) A E J (countRun' lo n) Q st:=by
 rw[LU];have u:Up κ Z f lo st st:=.rfl g;refine ag (Fe C hn (OJ 1) h1 g (λi j a d q=>by rw[show i=j by ext];exact OJ _) λm v t k o=>?_);dsimp only;by_cases c:m=n
 .rw[ai (by simpa using c)];exact ah (h m st u v t k)
 .rw[ak (by simpa using c)]
  have l:=o.resolve_left c;by_cases z:m>1
  .rw[ai z]
   refine ag (i7 C g (by ext) (by ext) ?_);by_cases r:R f (arrOf st) lo<R f (arrOf st) (lo+m - 1)
   .simp only[r,decide_true,if_true];exact ah (h m st u v t k)
   .simp only[r,decide_false,OS,if_false]
    have sz:lo+m<=(arrOf st).size:=by rw[g.size];ext
    have b:∀i,lo<=i->i<lo+m->R f (arrOf st) i=R f (arrOf st) (lo+m - 1):=λi a d=>by have G:=k lo i (OJ _) a d;have F:=k i (lo+m - 1) a (by ext) (by ext);ext
    refine ag (pV (Fj C hn (by ext) (u.mir (OJ _) (by ext)) (λi j a d q=>?_) h));show R f (mirror (arrOf st) _ _ _) j<=R f (mirror (arrOf st) _ _ _) i;rw[i4 sz b,i4 sz b];by_cases B:j<lo+m
    .rw[b i (by ext) (by ext),b j (by ext) B];exact OJ _
    .have e:j=lo+m:=by ext
     subst e;by_cases p:i=lo+m
     .rw[p];exact OJ _
     .rw[b i a (by ext)];exact Qo l
  .rw[ak z]
   have e:m=1:=by ext
   subst e;refine Fj C hn (by ext) u (λi j a d q=>?_) h;by_cases p:i=j
   .rw[p];exact OJ _
   .have e1:i=lo:=by ext
    have e2:j=lo+1:=by ext
    rw[e1,e2];exact Qo l
end
end TS
namespace TS
open PySem PyProof.Rows
set_option autoImplicit true
def sU(xs:Array Keyed)(s:Nat)(l:cc Keyed):Array Keyed:=l.zipIdx.foldl (λa (p,j)=>a.setIfInBounds (s+j) p) xs
theorem IP(i:Nat):mergeAt' i=(do
 let s<-get
 let(cL (sa,na,power),cL (sb,nb,_)):=((pendingOf s)[i]?,(pendingOf s)[i+1]?)|unsupported "internal:list.sort.pending"
 set (setPending s (((pendingOf s).setIfInBounds i (sa,na+nb,power)).eraseIdxIfInBounds (i+1)))
 let cL k<-FL OP (<-elem' (arrOf s) sb) (arrOf s) sa na 0|return OP
 let(sa,na):=(sa+k,na - k)
 if na==0 then return OG
 let cL nb<-FL OG (<-elem' (arrOf s) (sa+na - 1)) (arrOf s) sb nb (nb - 1)|return OP
 if nb==0 then return OG
 let x:=(arrOf s).extract sa sb
 let y:=(arrOf s).extract sb (sb+nb)
 let merged<-if na<=nb then M5 x y else Nj x y
 modify λs=>setArr s (sU (arrOf s) sa merged.toList)
 return(failedOf (<-get)).isNone):=rfl
theorem Ah:∀(l:cc Keyed) (xs:Array Keyed) (s n:Nat),s+n+l.length<=xs.size->∀k:Nat,
  ((l.zipIdx n).foldl (λa (p,j)=>a.setIfInBounds (s+j) p) xs)[k]?=if s+n<=k/\k<s+n+l.length then l[k - (s+n)]? else xs[k]?
 |[],xs,s,n,h,k=>by rw[ak (by simp)];rfl
 |x::l,xs,s,n,h,k=>by
  rw[List.zipIdx_cons,Th];have b:s+n+(l.length+1)<=xs.size:=h;rw[Ah l _ s (n+1) (by rw[Array.size_setIfInBounds];ext) k];simp only[OQ];by_cases c:k=s+n
  .subst c;rw[ak (by ext),ai (by ext),Ue,S4];rw[Tr (by ext)]
  .by_cases d:s+n<=k/\k<s+n+(l.length+1)
   .rw[ai (by ext),ai d,show k - (s+n)=k - (s+(n+1))+1 by ext,S5]
   .rw[ak (by ext),ak d,T9 (by ext)]
theorem kw{l:cc Keyed}{xs:Array Keyed}{s:Nat}(h:s+l.length<=xs.size)(k:Nat):(sU xs s l)[k]?=if s<=k/\k<s+l.length then l[k - s]? else xs[k]? :=by have:=Ah l xs s 0 (by ext) k;unfold sU;rw[Nat.add_zero]at this;exact this
theorem Bz{l:cc Keyed}{xs:Array Keyed}{s:Nat}(h:s+l.length<=xs.size):(sU xs s l).toList=xs.toList.take s++l++xs.toList.drop (s+l.length):=by
 apply SQ;intro k;rw[Qg,kw h];have len:(xs.toList.take s).length=s:=by simp;ext
 by_cases c:s<=k/\k<s+l.length
 .rw[ai c,Pj,Pn (by ext),len,Pc (by ext)]
 .rw[ak c]
  by_cases d:k<s
  .rw[Pj,Pc (by ext),QY d,Qg]
  .rw[Pn (by simp[len] at*;ext),Sw,<-Qg];congr 1;simp[len] at*;ext
theorem BW{xs:Array Keyed}{s m e:Nat}(h1:s<=m)(h:m<=e)(f:e<=xs.size):xs.toList=xs.toList.take s++((xs.extract s m).toList++(xs.extract m e).toList)++xs.toList.drop e:=by
 rw[mj,mj];apply SQ;intro k;have l1:(xs.toList.take s).length=s:=by simp;ext
 have a:((xs.toList.drop s).take (m - s)).length=m - s:=by simp;ext
 have b:((xs.toList.drop m).take (e - m)).length=e - m:=by simp;ext
 by_cases c:k<s
 .rw[Pj,Pc (by ext),QY c]
 .rw[Pj,Pn (by ext),l1]
  by_cases d:k<m
  .rw[Pj,Pc (by ext),QY (by ext),Sw];congr 1;ext
  .by_cases g:k<e
   .rw[Pj,Pn (by ext),a,Pc (by ext),QY (by ext),Sw];congr 1;ext
   .rw[Pn (by simp[a,b] at*;ext),OO,a,b,Sw];congr 1;ext
section
variable{prog:Pa}{w:Pz}{A:Pp}{E:OC->OK->Prop}{J:OK->Prop}{κ:SortKind}{Z:Array Keyed}{f:Keyed->Nat}
theorem Fg{xs:Array Keyed}{s e:Nat}(h:So f xs s e)(d:e<=xs.size):(xs.extract s e).toList.Pairwise (Le f):=by
 rw[QF];intro i j hi a b;have:(xs.extract s e).size=e - s:=by simp;ext
 simp only[Pt,this]at hi a;have:=h (s+i) (s+j) (by ext) (by ext) (by ext);rw[R_at (by ext),R_at (by ext)]at this
 simpa using this
theorem vp{xs:Array Keyed}{s e:Nat}(b:e<=xs.size){x:Keyed}(h:x∈(xs.extract s e).toList):∃t,s<=t/\t<e/\R f xs t=f x:=by rw[mj]at h;obtain⟨j,a,h1,d,rfl⟩:=mI h;exact⟨j,h1,by ext,R_at a⟩
theorem IQ(C:Ask prog w A E J κ (·∈Z.toList) f){st:SortSt}(g:Gd κ Z st){i sa na H sb nb P:Nat}(e1:(pendingOf st)[i]?=cL (sa,na,H))(e2:(pendingOf st)[i+1]?=cL (sb,nb,P))(hsb:sb=sa+na)(n1:1<=na)(n2:1<=nb)(le:sb+nb<=Z.size)
  (s1:So f (arrOf st) sa sb) (F:So f (arrOf st) sb (sb+nb)) {Q:Bool->SortSt->Prop}
  (h:∀z,Gd κ Z z->pendingOf z=((pendingOf st).setIfInBounds i (sa,na+nb,H)).eraseIdxIfInBounds (i+1)->So f (arrOf z) sa (sb+nb)->(∀k,k<sa\/sb+nb<=k->(arrOf z)[k]?=(arrOf st)[k]?)->Q OG z):
  fF (model prog w) A E J (mergeAt' i) Q st:=by
 rw[IP];refine ag (eu ?_);rw[e1,e2];dsimp only;refine ag (Jz ?_);have sz:=g.size;have K:Gd κ Z (setPending st (((pendingOf st).setIfInBounds i (sa,na+nb,H)).eraseIdxIfInBounds (i+1))):=⟨g.kind,g.failed,g.perm⟩;have S:sb<(arrOf st).size:=by ext
 have rb:=R_at (f:=f) S;refine ag (aQ (getElem?_pos (arrOf st) sb S) ?_);refine ag (jE C K.kind (g.mem S) (λi=>decide (R f (arrOf st) (sa+i)<=R f (arrOf st) sb)) (λi hi=>⟨(arrOf st)[sa+i]'(by ext),g.mem _,getElem?_pos _ _ (by ext),?_⟩) (λi j ij p q=>?_) (by ext) λk k2 k3 k4=>?_)
 .unfold Bt;simp only[OS,if_false];rw[rb,R_at (by ext)]
 .exact a6 (OZ (s1 _ _ (by ext) (by ext) (by ext)) (b9 q))
 have X:∀t,sa<=t->t<sa+k->R f (arrOf st) t<=R f (arrOf st) sb:=λt a b=>by have:=b9 (k3 (t - sa) (by ext));rwa [show sa+(t - sa)=t by ext]at this
 have K4:∀t,sa+k<=t->t<sb->R f (arrOf st) sb<R f (arrOf st) t:=λt a b=>by have:=of_decide_eq_false (k4 (t - sa) (by ext) (by ext));rw[show sa+(t - sa)=t by ext]at this;ext
 dsimp only;have l:(∀t,sa<=t->t<sb->R f (arrOf st) t<=R f (arrOf st) sb)->Q OG (setPending st (((pendingOf st).setIfInBounds i (sa,na+nb,H)).eraseIdxIfInBounds (i+1))):=λq=>by
  refine h _ K rfl (λx y B v u=>?_) λ_ _=>rfl;show R f (arrOf st) x<=R f (arrOf st) y;by_cases c:y<sb
  .exact s1 x y B v c
  .by_cases d:sb<=x
   .exact F x y d v u
   .exact OZ (q x B (by ext)) (F sb y (OJ _) (by ext) u)
 by_cases c:na - k=0
 .rw[ai (by simpa using c)];exact ah (l λt a b=>X t a (by ext))
 rw[ak (by simpa using c)];have ck:k<na:=by ext
 clear c;have hl:sa+k+(na - k) - 1=sb - 1:=by ext
 rw[hl];clear hl;have ra:=R_at (f:=f) (xs:=arrOf st) (i:=sb - 1) (by ext);refine ag (aQ (getElem?_pos (arrOf st) (sb - 1) (by ext)) ?_);refine ag (jE C K.kind (g.mem _) (λi=>decide (R f (arrOf st) (sb+i)<R f (arrOf st) (sb - 1))) (λi hi=>⟨(arrOf st)[sb+i]'(by ext),g.mem _,getElem?_pos _ _ (by ext),?_⟩) (λi j ij p q=>?_) (by ext) λm m2 m3 m4=>?_)
 .unfold Bt;simp only[if_true];rw[ra,R_at (by ext)]
 .exact a6 (SA (F _ _ (by ext) (by ext) (by ext)) (b9 q))
 have M3:∀t,sb<=t->t<sb+m->R f (arrOf st) t<R f (arrOf st) (sb - 1):=λt a b=>by have:=b9 (m3 (t - sb) (by ext));rwa [show sb+(t - sb)=t by ext]at this
 have M4:∀t,sb+m<=t->t<sb+nb->R f (arrOf st) (sb - 1)<=R f (arrOf st) t:=λt a b=>by have:=of_decide_eq_false (m4 (t - sb) (by ext) (by ext));rw[show sb+(t - sb)=t by ext]at this;ext
 dsimp only;by_cases c2:m=0
 .rw[ai (by simpa using c2)];exact ah (l λt a b=>OZ (s1 t (sb - 1) a (by ext) (by ext)) (M4 sb (by ext) (by ext)))
 rw[ak (by simpa using c2)];have zx:((arrOf st).extract (sa+k) sb).size=sb - (sa+k):=by simp;ext
 have Y:((arrOf st).extract sb (sb+m)).size=m:=by simp;ext
 have px:=Fg (s:=sa+k) (e:=sb) (λx y B v u=>s1 x y (by ext) v u) (by ext);have py:=Fg (s:=sb) (e:=sb+m) (λx y B v u=>F x y (by ext) v (by ext)) (by ext);have mm:∀{x:Keyed} {s e:Nat},x∈((arrOf st).extract s e).toList->x∈Z.toList:=λ{x s e} G=>by rw[mj]at G;obtain⟨j,p,_,_,rfl⟩:=mI G;exact g.mem p
 have I:Two f Z ((arrOf st).extract (sa+k) sb) ((arrOf st).extract sb (sb+m)):={
  sa:=px,sb:=py,ma:=λx G=>mm G,mb:=λx G=>mm G,na:=by ext,nb:=by ext
  last:=λy hy=>by
   obtain⟨t,a,b,n⟩:=vp (f:=f) (by ext) hy;rw[<-n];have:=M3 t a b;rw[ra]at this;have e:f ((arrOf st).extract (sa+k) sb)[((arrOf st).extract (sa+k) sb).size - 1]=f (arrOf st)[sb - 1]:=by rw[Vo];congr 2;ext
   rw[e];exact Qo this
  first:=λx G=>by
   obtain⟨t,a,b,n⟩:=vp (f:=f) (by ext) G;rw[<-n];have e:f ((arrOf st).extract sb (sb+m))[0]=R f (arrOf st) sb:=by rw[Vo,rb];congr 2
   rw[e];exact Qo (K4 t a b)}
 have T:∀(r:KL) z,Ge (setPending st (((pendingOf st).setIfInBounds i (sa,na+nb,H)).eraseIdxIfInBounds (i+1))) z->Ok f (((arrOf st).extract (sa+k) sb).toList++((arrOf st).extract sb (sb+m)).toList) r.toList->
   Q OG (setArr z (sU (arrOf z) (sa+k) r.toList)):=by
  intro r z O o;have U:arrOf z=arrOf st:=O.arr;have len:sa+k+r.toList.length=sb+m:=by rw[o.perm.length_eq,OO,Pt,Pt,zx,Y];ext
  clear zx Y;have rr:∀j,sa+k<=j->j<sb+m->∃t,sa+k<=t/\t<sb+m/\R f (sU (arrOf st) (sa+k) r.toList) j=R f (arrOf st) t:=λj j1 j2=>by
   have p:j - (sa+k)<r.toList.length:=by ext
   have e:(sU (arrOf st) (sa+k) r.toList)[j]?=cL r.toList[j - (sa+k)]:=by rw[kw (by ext),ai (by ext),OY p]
   have hm:r.toList[j - (sa+k)]∈_:=o.perm.mem_iff.mp (QP p);have e3:R f (sU (arrOf st) (sa+k) r.toList) j=f r.toList[j - (sa+k)]:=by unfold R;rw[e]
   rcases Pf.mp hm with q|q
   .obtain⟨t,a,b,n⟩:=vp (f:=f) (by ext) q;exact⟨t,a,by ext,by rw[e3,n]⟩
   .obtain⟨t,a,b,n⟩:=vp (f:=f) (by ext) q;exact⟨t,by ext,b,by rw[e3,n]⟩
  have N:∀j,¬(sa+k<=j/\j<sb+m)->(sU (arrOf st) (sa+k) r.toList)[j]?=(arrOf st)[j]? :=λj p=>by rw[kw (by ext),ak (by ext)]
  refine h _ ⟨O.kind.trans g.kind,O.failed.trans g.failed,?_⟩ O.pend ?_ ?_
  .show(sU (arrOf z) (sa+k) r.toList).Perm Z
   rw[U];refine acL (Rt.mpr ?_) g.perm;rw[Bz (by ext),len]
   conv=>rhs;rw[BW (s:=sa+k) (m:=sb) (e:=sb+m) (by ext) (by ext) (by ext)]
   exact(o.perm.append_left _).append_right _
  .show So f (sU (arrOf z) (sa+k) r.toList) sa (sb+nb)
   rw[U];intro x y B v u;by_cases M:sa+k<=x/\x<sb+m
   .by_cases L:y<sb+m
    .by_cases xy:x=y
     .rw[xy];exact OJ _
     .have:=QF.mp o.so (x - (sa+k)) (y - (sa+k)) (by ext) (by ext) (by ext)
      have e:∀j (p:j - (sa+k)<r.toList.length),sa+k<=j->j<sb+m->R f (sU (arrOf st) (sa+k) r.toList) j=f r.toList[j - (sa+k)]:=λj p j1 j2=>by unfold R;rw[kw (by ext),ai (by ext),OY p]
      rw[e x (by ext) M.1 M.2,e y (by ext) (by ext) L];exact this
    .obtain⟨t,a,b,n⟩:=rr x M.1 M.2
     rw[n,cJ (N y (by ext))];by_cases ct:t<sb
     .exact OZ (s1 t (sb - 1) (by ext) (by ext) (by ext)) (M4 y (by ext) u)
     .exact F t y (by ext) (by ext) u
   .rw[cJ (N x M)]
    by_cases L:sa+k<=y/\y<sb+m
    .obtain⟨t,a,b,n⟩:=rr y L.1 L.2
     rw[n];by_cases ct:t<sb
     .exact s1 x t B (by ext) ct
     .exact OZ (X x B (by ext)) (F sb t (OJ _) (by ext) (by ext))
    .rw[cJ (N y L)]
     by_cases xb:sb+m<=x
     .exact F x y (by ext) v u
     .by_cases yb:y<sb
      .exact s1 x y B v yb
      .exact OZ (X x B (by ext)) (F sb y (OJ _) (by ext) u)
  .intro j p;show(sU (arrOf z) (sa+k) r.toList)[j]?=_;rw[U];exact N j (by ext)
 have go:∀(r:KL) z,Ge (setPending st (((pendingOf st).setIfInBounds i (sa,na+nb,H)).eraseIdxIfInBounds (i+1))) z->Ok f (((arrOf st).extract (sa+k) sb).toList++((arrOf st).extract sb (sb+m)).toList) r.toList->
   fF (model prog w) A E J (do
    modify λs=>setArr s (sU (arrOf s) (sa+k) r.toList)
    let x<-get
    pure (failedOf x).isNone) Q z:=by
  intro r z q1 q2;refine ag (fJ (ag (eu ?_)));have ef:failedOf (setArr z (sU (arrOf z) (sa+k) r.toList))=CL:=q1.failed.trans g.failed;rw[ef];exact ah (T r z q1 q2)
 split
 .exact ag (IA C I K.kind go)
 .exact ag (HC C I K.kind go)
end
end TS
namespace TS
open PySem PyProof.Rows
set_option autoImplicit true
def Ch(f:Keyed->Nat)(xs:Array Keyed):Nat->cc (Nat×Nat×Nat)->Nat->Prop
 |s,[],e=>s=e
 |s,t::l,e=>t.1=s/\1<=t.2.1/\So f xs s (s+t.2.1)/\Ch f xs (s+t.2.1) l e
section
variable{f:Keyed->Nat}{xs ys:Array Keyed}
theorem Ch.le:∀{l:cc (Nat×Nat×Nat)} {s e:Nat},Ch f xs s l e->s+l.length<=e
 |[],_,_,h=>by have:_=_:=h;simp;ext
 |t::l,s,e,h=>by have:=Ch.le h.2.2.2;have:=h.2.1;simp only[OQ];ext
theorem Ch.app:∀{l k:cc (Nat×Nat×Nat)} {s e:Nat},Ch f xs s (l++k) e↔∃m,Ch f xs s l m/\Ch f xs m k e
 |[],k,s,e=>⟨λh=>⟨s,rfl,h⟩,λ⟨m,h1,a⟩=>by have:s=m:=h1;subst this;exact a⟩
 |t::l,k,s,e=>by
  constructor
  .intro h;obtain⟨m,h1,a⟩:=Ch.app.mp h.2.2.2;exact⟨m,⟨h.1,h.2.1,h.2.2.1,h1⟩,a⟩
  .rintro⟨m,h1,a⟩;exact⟨h1.1,h1.2.1,h1.2.2.1,Ch.app.mpr ⟨m,h1.2.2.2,a⟩⟩
theorem Ch.same:∀{l:cc (Nat×Nat×Nat)} {s e:Nat},Ch f xs s l e->(∀k,s<=k->k<e->ys[k]?=xs[k]?)->Ch f ys s l e
 |[],_,_,h,_=>h
 |t::l,s,e,h,q=>by have:=h.2.2.2.le;refine⟨h.1,h.2.1,λi j a d b=>?_,Ch.same h.2.2.2 λk k1 k2=>q k (by ext) k2⟩;rw[cJ (q i a (by ext)),cJ (q j (by ext) (by ext))];exact h.2.2.1 i j a d b
theorem Ch.pow:∀{l k:cc (Nat×Nat×Nat)} {s e:Nat},l.map (λt=>(t.1,t.2.1))=k.map (λt=>(t.1,t.2.1))->Ch f xs s l e->Ch f xs s k e
 |[],[],_,_,_,h=>h
 |[],_::_,_,_,q,_=>by cases q
 |_::_,[],_,_,q,_=>by cases q
 |t::l,u::k,s,e,q,h=>by rw[OM,OM]at q;obtain⟨g,d⟩:=Ss q;obtain⟨b,a⟩:=Prod.mk.inj g;refine⟨b▸h.1,a▸h.2.1,a▸h.2.2.1,?_⟩;rw[<-a];exact Ch.pow d h.2.2.2
end
theorem two_at{p:Array (Nat×Nat×Nat)}{i:Nat}(h:i+1<p.size):∃l x y k,p.toList=l++x::y::k/\l.length=i:=by refine⟨p.toList.take i,p[i],p[i+1],p.toList.drop (i+2),?_,by simp;ext⟩;rw[show p[i]=p.toList[i]'(by simp;ext) by simp,show p[i+1]=p.toList[i+1]'(by simp;ext) by simp];rw[<-Ql,<-Ql,Sd]
theorem Hj{p:Array (Nat×Nat×Nat)}{l k:cc (Nat×Nat×Nat)}{x y z:Nat×Nat×Nat}(h:p.toList=l++x::y::k):((p.setIfInBounds l.length z).eraseIdxIfInBounds (l.length+1)).toList=l++z::k:=by obtain⟨q⟩:=p;have h:q=l++x::y::k:=h;subst h;rw[List.setIfInBounds_toArray,List.eraseIdxIfInBounds_toArray];show((l++x::y::k).set l.length z).eraseIdx (l.length+1)=_;rw[List.set_append_right _ _ (OJ _),Ue,TZ,List.eraseIdx_append_of_length_le (by ext),show l.length+1 - l.length=1 by ext];rfl
section
variable{prog:Pa}{w:Pz}{A:Pp}{E:OC->OK->Prop}{J:OK->Prop}{κ:SortKind}{Z:Array Keyed}{f:Keyed->Nat}
theorem z9(C:Ask prog w A E J κ (·∈Z.toList) f){st:SortSt}(g:Gd κ Z st){i lo:Nat}(ch:Ch f (arrOf st) 0 (pendingOf st).toList lo)(N:lo<=Z.size)(hi:i+1<(pendingOf st).size){Q:Bool->SortSt->Prop}
  (h:∀z,Gd κ Z z->Ch f (arrOf z) 0 (pendingOf z).toList lo->(pendingOf z).size+1=(pendingOf st).size->(∀k,lo<=k->(arrOf z)[k]?=(arrOf st)[k]?)->Q OG z):
  fF (model prog w) A E J (mergeAt' i) Q st:=by
 obtain⟨l,⟨a,b,p⟩,⟨M,nb,d⟩,k,e,rfl⟩:=two_at hi;rw[e]at ch;obtain⟨m,G,K⟩:=Ch.app.mp ch;obtain⟨h1,F,B,v,u,t,n⟩:=K;dsimp only at h1 F B v u t n;subst h1;subst v;have le:=n.le;have e1:(pendingOf st)[l.length]?=cL (a,b,p):=by rw[<-Qg,e];simp
 have e2:(pendingOf st)[l.length+1]?=cL (a+b,nb,d):=by rw[<-Qg,e];simp
 refine IQ C g e1 e2 rfl F u (by ext) B t λz I H so o=>?_;have pl:=Hj (z:=(a,b+nb,p)) e;rw[<-H]at pl;have L:=G.le;refine h z I ?_ ?_ λj O=>o j (.inr (by ext))
 .rw[pl]
  refine Ch.app.mpr ⟨a,G.same λj r q=>o j (.inl q),rfl,by dsimp only;ext,?_,?_⟩
  .dsimp only;rw[show a+(b+nb)=a+b+nb by ext];exact so
  .dsimp only;rw[show a+(b+nb)=a+b+nb by ext];exact n.same λj r q=>o j (.inr r)
 .rw[<-Pt,pl,<-Pt,e];simp;ext
theorem Cn(p:Array (Nat×Nat×Nat))(i a:Nat):p.toList.map (λt=>(t.1,t.2.1))=(p.modify i λ(s,n,_)=>(s,n,a)).toList.map (λt=>(t.1,t.2.1)):=by
 apply SQ;intro k;rw[OT,OT,Qg,Qg,Array.getElem?_modify];split
 .cases p[k]? <;>rfl
 .rfl
theorem KY:∀(k n r:Nat),1<=n->1<=minRun' k n r
 |0,n,r,h=>by show 1<=n+r;ext
 |k+1,n,r,h=>by
  rw[minRun'_succ];split
  .omega
  .exact KY k _ _ (by ext)
theorem C6(C:Ask prog w A E J κ (·∈Z.toList) f){st:SortSt}(g:Gd κ Z st)(T:pendingOf st= #[])(h2:1<=Z.size){Q:Unit->SortSt->Prop}
  (h:∀z,Gd κ Z z->So f (arrOf z) 0 Z.size->Q () z):fF (model prog w) A E J sortRuns' Q st:=by
 rw[sortRuns'_eq];refine ag (eu ?_);dsimp only;simp only[g.size];generalize hm:minRun' Z.size Z.size 0=mr;have Y:1<=mr:=by rw[<-hm];exact KY _ _ _ h2
 refine ag (aX (bW (I:=λx c z=>∃lo,c=(CL,lo)/\x<=lo/\lo<=Z.size/\Gd κ Z z/\Ch f (arrOf z) 0 (pendingOf z).toList lo)
  (Q:=λc z=>c=(CL,Z.size)/\Gd κ Z z/\Ch f (arrOf z) 0 (pendingOf z).toList Z.size) ?zs ?zf ⟨0,rfl,OJ _,by ext,g,by rw[T];rfl⟩) ?zp)
 case zf=>
  rintro c z ⟨lo,rfl,a1,a2,g,ch⟩;have:lo=Z.size:=by ext
  subst this;exact⟨rfl,g,ch⟩
 case zs=>
  rintro x c z _ P ⟨lo,rfl,a1,a2,g,ch⟩;dsimp only;by_cases O:lo≥Z.size
  .rw[ai O]
   have:lo=Z.size:=by ext
   subst this;exact ah ⟨rfl,g,ch⟩
  rw[ak O];refine ag (Lx C (by ext) (by ext) g λm y u m1 m2 so=>?_);dsimp only;have d:Ch f (arrOf y) 0 (pendingOf y).toList lo:=by rw[u.pend];exact ch.same λk _ k2=>u.low k k2
  have a:∀(n:Nat) (y:SortSt),1<=n->lo+n<=Z.size->Gd κ Z y->Ch f (arrOf y) 0 (pendingOf y).toList lo->So f (arrOf y) lo (lo+n)->
    ∃lo',(CL,lo+n)=((CL:cj Unit),lo')/\x+1<=lo'/\lo'<=Z.size/\Gd κ Z (setPending y ((pendingOf y).push (lo,n,0)))/\Ch f (arrOf (setPending y ((pendingOf y).push (lo,n,0)))) 0 (pendingOf (setPending y ((pendingOf y).push (lo,n,0)))).toList lo':=by
   intro n y H N g c so;refine⟨lo+n,rfl,by ext,N,⟨g.kind,g.failed,g.perm⟩,?_⟩;show Ch f (arrOf y) 0 ((pendingOf y).push (lo,n,0)).toList (lo+n);rw[RN];exact Ch.app.mpr ⟨lo,c,rfl,H,so,rfl⟩
  have b:∀(n:Nat) (y:SortSt),1<=n->lo+n<=Z.size->Gd κ Z y->Ch f (arrOf y) 0 (pendingOf y).toList lo->So f (arrOf y) lo (lo+n)->∀K i,
    Gd κ Z (setPending y ((pendingOf y).modify i λ(s,n,_)=>(s,n,K)))/\Ch f (arrOf y) 0 ((pendingOf y).modify i λ(s,n,_)=>(s,n,K)).toList lo:=
   λn y H N g c so K i=>⟨⟨g.kind,g.failed,g.perm⟩,c.pow (Cn _ _ _)⟩
  by_cases lt:m<mr
  .rw[ai lt]
   refine ag (ie ?_);refine ag (CZ C (by ext) (by ext) u.gd so λF G p=>?_);simp only[Qu,OS,if_false];have v:Ch f (arrOf F) 0 (pendingOf F).toList lo:=by rw[G.pend];exact d.same λk _ k2=>G.low k k2
   refine ag (eu ?_);cases hb:(pendingOf F).back? with
   |none=>dsimp only;exact ag (fJ (ah (a _ F (by ext) (by ext) G.gd v p)))
   |some t=>
    obtain⟨s1,H,S⟩:=t;dsimp only;refine ag (aX (bW (I:=λx c z=>c=(CL,())/\Gd κ Z z/\Ch f (arrOf z) 0 (pendingOf z).toList lo/\So f (arrOf z) lo (lo+min (Z.size - lo) mr)) (Q:=λc z=>c=(CL,())/\Gd κ Z z/\Ch f (arrOf z) 0 (pendingOf z).toList lo/\So f (arrOf z) lo (lo+min (Z.size - lo) mr)) ?s1 (λ_ _ q=>q) ⟨rfl,G.gd,v,p⟩) ?p1)
    case p1=>
     rintro c z ⟨rfl,g,ch,so⟩;dsimp only;have bk:=b (min (Z.size - lo) mr) z (by ext) (by ext) g ch so;exact ag (fJ (ag (fJ (ah (a _ (setPending z _) (by ext) (by ext) (bk _ _).1 (bk _ _).2 so)))))
    case s1=>
     rintro x c z _ _ ⟨rfl,g,ch,so⟩;refine ag (eu ?_);by_cases p1:(pendingOf z).size>1
     .rw[ai p1]
      obtain⟨⟨U,X,Z8⟩,L⟩:∃t,(pendingOf z)[(pendingOf z).size - 2]?=cL t:=⟨_,getElem?_pos _ _ (by ext)⟩;rw[L];dsimp only;split
      .exact ah ⟨rfl,g,ch,so⟩
      .refine ag (z9 C g ch a2 (by ext) λM r B _ o=>?_);simp only[Qu,OS,if_false];exact ah ⟨rfl,r,B,λi j p1 p2 p3=>by rw[cJ (o i p1),cJ (o j (by ext))];exact so i j p1 p2 p3⟩
     .rw[ak p1];exact ah ⟨rfl,g,ch,so⟩
  .rw[ak lt]
   refine ag (eu ?_);cases hb:(pendingOf y).back? with
   |none=>dsimp only;exact ag (fJ (ah (a _ y m1 (by ext) u.gd d so)))
   |some t=>
    obtain⟨s1,H,S⟩:=t;dsimp only;refine ag (aX (bW (I:=λx c z=>c=(CL,())/\Gd κ Z z/\Ch f (arrOf z) 0 (pendingOf z).toList lo/\So f (arrOf z) lo (lo+m)) (Q:=λc z=>c=(CL,())/\Gd κ Z z/\Ch f (arrOf z) 0 (pendingOf z).toList lo/\So f (arrOf z) lo (lo+m)) ?s2 (λ_ _ q=>q) ⟨rfl,u.gd,d,so⟩) ?p2)
    case p2=>
     rintro c z ⟨rfl,g,ch,so⟩;dsimp only;have bk:=b m z (by ext) (by ext) g ch so;exact ag (fJ (ag (fJ (ah (a _ (setPending z _) (by ext) (by ext) (bk _ _).1 (bk _ _).2 so)))))
    case s2=>
     rintro x c z _ _ ⟨rfl,g,ch,so⟩;refine ag (eu ?_);by_cases p1:(pendingOf z).size>1
     .rw[ai p1]
      obtain⟨⟨U,X,Z8⟩,L⟩:∃t,(pendingOf z)[(pendingOf z).size - 2]?=cL t:=⟨_,getElem?_pos _ _ (by ext)⟩;rw[L];dsimp only;split
      .exact ah ⟨rfl,g,ch,so⟩
      .refine ag (z9 C g ch a2 (by ext) λM r B _ o=>?_);simp only[Qu,OS,if_false];exact ah ⟨rfl,r,B,λi j p1 p2 p3=>by rw[cJ (o i p1),cJ (o j (by ext))];exact so i j p1 p2 p3⟩
     .rw[ak p1];exact ah ⟨rfl,g,ch,so⟩
 case zp=>
  rintro c z ⟨rfl,g,ch⟩;dsimp only;have len:=ch.le;rw[Pt]at len;refine ag (aX (bW (I:=λx c z=>c=(CL,())/\Gd κ Z z/\Ch f (arrOf z) 0 (pendingOf z).toList Z.size/\(pendingOf z).size+x<=Z.size+1)
   (Q:=λc z=>c=(CL,())/\Gd κ Z z/\Ch f (arrOf z) 0 (pendingOf z).toList Z.size/\(pendingOf z).size<=1) ?s3 ?f3 ⟨rfl,g,ch,by ext⟩) ?p3)
  case f3=>
   rintro c z ⟨rfl,g,ch,l⟩;exact⟨rfl,g,ch,by ext⟩
  case p3=>
   rintro c z ⟨rfl,g,ch,l⟩;refine ah (h z g ?_);cases hp:(pendingOf z).toList with
   |nil=>rw[hp]at ch;have:0=Z.size:=ch;ext
   |cons t l'=>
    rw[hp]at ch;have:l'=[]:=by have:=ey Q8 hp;rw[Pt,OQ]at this;exact Vg.mp (by ext)
    subst this;have e:0+t.2.1=Z.size:=ch.2.2.2;rw[<-e];exact ch.2.2.1
  case s3=>
   rintro x c z _ P ⟨rfl,g,ch,l⟩;refine ag (eu ?_);by_cases p1:(pendingOf z).size<=1
   .rw[ai p1];exact ah ⟨rfl,g,ch,p1⟩
   .rw[ak p1]
    refine ag (z9 C g ch (OJ _) ?_ λM r B ls o=>?_)
    .have q:∀(c:Prop) [Decidable c],(if c then(pendingOf z).size - 2 - 1 else(pendingOf z).size - 2)+1<(pendingOf z).size:=λc _=>by split<;>ext
     exact q _
    .simp only[Qu,OS,if_false];exact ah ⟨rfl,r,B,by ext⟩
end
end TS
namespace TS
open PySem PyProof.Rows
set_option autoImplicit true
section
variable{prog:Pa}{w:Pz}{A:Pp}{E:OC->OK->Prop}{s:OK}{κ:SortKind}{f:Keyed->Nat}
abbrev Kb(s:OK)(a:OL)(h:Heap):Prop:=∀b o,b≠a->s.heap.get? b=cL o->h.get? b=cL o
theorem yR{a:OL}{vs:cc OC}{n:Nat}{P:PySem.Fin->OK->Prop}(l:s.heap.get? a=cL (seqObj "list" vs.toArray n))(v:vs.length<1000000)
  (p:∀h',Kb s a h'->2<=vs.length->wpAny (model prog w) A (keyKind' vs.toArray) (λk z=>k=κ/\z={s with heap:=h'}) E {s with heap:=h'})
  (C:∀h',Kb s a h'->Ask prog w A E (λz=>z={s with heap:=h'}) κ (·∈(pairsOf vs).toList) f)
  (h:∀st:SortSt,(arrOf st).Perm (pairsOf vs)->So f (arrOf st) 0 vs.length->P (.done (.ret .none)) {s with heap:=sortedHeap s.heap a vs ((arrOf st).map (·.2))}):
  wpAny (model prog w) A (Pb.«list.sort» ⟨[.ref a],[]⟩) P E s:=by
 have la:a<s.heap.objs.size:=c3 l;have big:(1000000:Nat)<=Pd:=by decide
 rw[list_sort_plain];refine lD (listItems_at l rfl (lD (listUpdate_at l rfl ?_ (by rw[O8];ext) (P0 _))));obtain⟨e1,h1⟩:∃e1,(s.heap.update a (Obj.mapSeq λ_=>(#[]:Array OC))).get? a=cL (seqObj "list" #[] e1):=⟨_,get?_update_seq l (λ_=> #[])⟩;refine lD (seqEpoch_at h1 rfl (lD (wpAny_newTuple ?_ (by show vs.length<=_;ext))));refine lD (acM ?_ (P0 _));refine QE ?_;have g:(((s.heap.update a (Obj.mapSeq λ_=>(#[]:Array OC))).push (seqObj "tuple" vs.toArray 0)).push (seqObj "list" #[] 0)).get? a=cL (seqObj "list" #[] e1):=c0 _ (c0 _ h1);have m:Kb s a (((s.heap.update a (Obj.mapSeq λ_=>(#[]:Array OC))).push (seqObj "tuple" vs.toArray 0)).push (seqObj "list" #[] 0)):=λb o nb e=>
  c0 _ (c0 _ (by rw[Heap.get?_update_ne _ _ _ _ nb];exact e))
 show wpAny (model prog w) A _ P E {s with heap:=((s.heap.update a (Obj.mapSeq λ_=>(#[]:Array OC))).push (seqObj "tuple" vs.toArray 0)).push (seqObj "list" #[] 0)};dsimp only;have sz:vs.toArray.size=vs.length:=O8;by_cases d:vs.toArray.size<2
 .rw[ai d,ai d];refine lD (OE ?_);rw[StateT.run_pure];refine lD (OE ?_);dsimp only;refine lD (seqEpoch_at g rfl (lD (listUpdate_at g rfl ?_ (P0 _) (by rw[Xz];show(pairsOf vs).size<=_;rw[pairsOf_size];ext))));simp only[bne_self_eq_false,OS,if_false];refine OE (h (SortSt.mk' general' (vs.toArray.zip vs.toArray) #[] 7 CL) (Vw _) λi j u t r=>?_);rw[show i=j by ext];exact OJ _
 .rw[ak d,ak d];refine lD (wpAny_mono (p _ m (by ext)) ?_ λ_ _ e=>e);rintro k z ⟨rfl,rfl⟩;have q:Gd k (pairsOf vs) (SortSt.mk' k (vs.toArray.zip vs.toArray) #[] 7 CL):=⟨rfl,rfl,Vw _⟩;refine lD (wpAny_mono (C6 (C _ m) q rfl (by rw[pairsOf_size];ext) (Q:=λ_ st=>Gd k (pairsOf vs) st/\So f (arrOf st) 0 (pairsOf vs).size) (λz a b=>⟨a,b⟩) _ rfl) ?_ λ_ _ e=>e);rintro⟨⟨⟩,st⟩ z ⟨rfl,gd',so⟩;rw[pairsOf_size]at so;dsimp only;refine lD (seqEpoch_at g rfl (lD (listUpdate_at g rfl ?_ (P0 _) (by refine OZ (Zk ((Xz ..).trans (gd'.perm.size_eq.trans (pairsOf_size _)))) ?_;ext))));rw[gd'.failed];simp only[bne_self_eq_false,OS,if_false];exact OE (h st gd'.perm so)
theorem sorted_any{l:OL}{vs:cc OC}{Q:OC->OK->Prop}(i:s.heap.IsList l vs.toArray)(g:vs.length<1000000)
  (j:∀h',(∀b o,s.heap.get? b=cL o->h'.get? b=cL o)->2<=vs.length->wpAny (model prog w) A.in1.in1 (keyKind' vs.toArray) (λk z=>k=κ/\z={s with heap:=h'}) (λ_ _=>False) {s with heap:=h'})
  (C:∀h',(∀b o,s.heap.get? b=cL o->h'.get? b=cL o)->Ask prog w A.in1.in1 (λ_ _=>False) (λz=>z={s with heap:=h'}) κ (·∈(pairsOf vs).toList) f)
  (h:∀st:SortSt,(arrOf st).Perm (pairsOf vs)->So f (arrOf st) 0 vs.length->Q (.ref (s.heap.objs.size+1)) {s with heap:=sortedAll s.heap vs ((arrOf st).map (·.2))}):
  wpAny (model prog w) A (call (.builtin "sorted") [.ref l]) Q E s:=by
 have big:(1000000:Nat)<=Pd:=by decide
 refine Calls.call_function_entry kind_sorted plain_sorted entry_sorted (args_sorted1 _) ?_;unfold Pb.«sorted»;refine lD (m:=checkCount "sorted" 1 1 _) (OE ?_);refine lD (collect_list i ?_ (by ext));refine lD (acM ?_ (by show vs.length<=_;ext));have a:((s.heap.push (seqObj "list" #[] 0)).update s.heap.objs.size (Obj.mapSeq (·++vs.toArray))).objs.size=s.heap.objs.size+1:=by rw[Heap.size_update,size_push']
 have d:(((s.heap.push (seqObj "list" #[] 0)).update s.heap.objs.size (Obj.mapSeq (·++vs.toArray))).push (seqObj "list" vs.toArray 0)).get? (s.heap.objs.size+1)=cL (seqObj "list" vs.toArray 0):=by rw[<-a];exact c4 _ rfl
 have keep:∀b o,s.heap.get? b=cL o->(((s.heap.push (seqObj "list" #[] 0)).update s.heap.objs.size (Obj.mapSeq (·++vs.toArray))).push (seqObj "list" vs.toArray 0)).get? b=cL o:=λb o q=>
  c0 _ (by rw[Heap.get?_update_ne _ _ _ _ (PN (c3 q))];exact c0 _ q)
 have ne:∀b o,s.heap.get? b=cL o->b≠s.heap.objs.size+1:=λb o q=>PN (RY (c3 q));show wpAny _ _ _ _ _ {s with heap:=((s.heap.push (seqObj "list" #[] 0)).update s.heap.objs.size (Obj.mapSeq (·++vs.toArray))).push (seqObj "list" vs.toArray 0)};rw[a];refine lD (QE (Qk slot_list_sort ⟨_,d,rfl⟩ entry_list_sort (wpAny_mono (yR (E:=λ_ _=>False) d g (λh' e z=>j h' (λb o q=>e b o (ne b o q) (keep b o q)) z) (λh' e=>C h' λb o q=>e b o (ne b o q) (keep b o q)) λst p n=>⟨_,rfl,?_⟩) (λ_ _ z=>z) λ_ _ z=>z.elim) (args_list_sort _)));exact OE ⟨_,rfl,h st p n⟩
end
end TS
namespace LD
open PySem PyProof.Rows L2 L3 L10
structure Lin(ds:cc D):Prop where
 ok:okO ds=OG
 irr:∀a∈ds,ltd a a=cL OP
 tr:∀a∈ds,∀b∈ds,∀c∈ds,ltd a b=cL OG->ltd b c=cL OG->ltd a c=cL OG
 tot:∀a∈ds,∀b∈ds,ltd a b=cL OP->ltd b a=cL OP->a=b
 tup:∀a∈ds,∃xs ys,a=.tuple (.tuple xs::ys)
def Srt(ds:cc D):Prop:=ds.Pairwise λa b=>ltd b a=cL OP
open Classical in
def sortD(ds:cc D):cc D:=if h:∃l:cc D,l.Perm ds/\Srt l then h.choose else ds
theorem sortD_eq{ds l:cc D}(L:Lin ds)(p:l.Perm ds)(h:Srt l):sortD ds=l:=by have d:∃l:cc D,l.Perm ds/\Srt l:=⟨l,p,h⟩;unfold sortD;rw[dif_pos d];refine(d.choose_spec.1.trans p.symm).eq_of_pairwise (λa b ha e h1 f=>?_) d.choose_spec.2 h;exact L.tot a (d.choose_spec.1.mem_iff.mp ha) b (p.mem_iff.mp e) f h1
def rk(ds:cc D)(d:D):Nat:=(ds.filter λe=>ltd e d==cL OG).length
theorem uB{α:Type}{p q:α->Bool}:∀{l:cc α},(∀x∈l,p x=OG->q x=OG)->(l.filter p).length<=(l.filter q).length
 |[],_=>OJ _
 |a::l,h=>by
  have b:=uB (p:=p) (q:=q) (l:=l) λx d=>h x (OV _ d);have:=h a O0;rw[Qm,Qm];split
  .rename_i z;rw[ai (this z)];simp only[OQ];ext
  .split
   .simp only[OQ];ext
   .exact b
theorem vL{α:Type}{p q:α->Bool}:∀{l:cc α},(∀x∈l,p x=OG->q x=OG)->(∃x∈l,q x=OG/\p x=OP)->(l.filter p).length<(l.filter q).length
 |[],_,⟨_,h,_⟩=>nomatch h
 |a::l,h,⟨x,b,h1,h2⟩=>by
  have le:=uB (p:=p) (q:=q) (l:=l) λx b=>h x (OV _ b);have:=h a O0;rw[Qm,Qm];rcases Pe.mp b with rfl|b
  .rw[h2,ak OX,ai h1,OQ];ext
  .have d:=vL (l:=l) (λx b=>h x (OV _ b)) ⟨x,b,h1,h2⟩
   split
   .rename_i z;rw[ai (this z)];simp only[OQ];ext
   .split
    .simp only[OQ];ext
    .exact d
theorem Lin.lt{ds:cc D}(L:Lin ds){a b:D}(ha:a∈ds)(hb:b∈ds):ltd a b=cL (decide (rk ds a<rk ds b)):=by
 have f:∀{a b:D},a∈ds->b∈ds->ltd a b=cL OG->rk ds a<rk ds b:=λ{a b} ha hb h=>by
  refine vL (λx j q=>?_) ⟨a,ha,by rw[h];rfl,by rw[L.irr a ha];rfl⟩;have q:ltd x a=cL OG:=by simpa using q
  rw[L.tr x j a ha b hb q h];rfl
 have so:(ltd a b).isSome=OG/\(ltd b a).isSome=OG:=by have ok:=L.ok;unfold okO at ok;rw[PF]at ok;have h1:=ok a ha;have g:=ok b hb;rw[Ld]at h1 g;exact⟨PF.mp h1.2 b hb,PF.mp g.2 a ha⟩
 obtain⟨r,e⟩:=QG.mp so.1;obtain⟨i,d⟩:=QG.mp so.2;rw[e];congr 1;cases r with
 |true=>exact(a6 (f ha hb e)).symm
 |false=>
  refine(a7 ?_).symm;cases i with
  |true=>have:=f hb ha d;ext
  |false=>rw[L.tot a ha b hb e d];ext
theorem tJ{ds:cc D}(L:Lin ds){a:D}(h:a∈ds):a.canLay0=OG/\a.depth<=32:=by obtain⟨i,hi,e⟩:=Q4 h;exact jl L.ok (OI.mpr ⟨hi,e⟩)
open Classical in
def Mj(h:Heap)(ds:cc D)(p:Keyed):Nat:=if q:∃d,d∈ds/\∃as,QV h p.1 d as then rk ds q.choose else 0
theorem tP{h:Heap}{ds:cc D}(L:Lin ds){p:Keyed}{d:D}{as:cc OL}(hd:d∈ds)(r:QV h p.1 d as):Mj h ds p=rk ds d:=by have q:∃d,d∈ds/\∃as,QV h p.1 d as:=⟨d,hd,as,r⟩;unfold Mj;rw[dif_pos q];obtain⟨b,e,a⟩:=q.choose_spec;rw[SeqAt.Reads.unique _ _ _ _ _ (tJ L b).1 a r]
section
variable{prog:Pa}{w:Pz}{A:Pp}{E:OC->OK->Prop}{s:OK}
theorem zO{Q:Bool->OK->Prop}{r a:Bool}(d:A.units+40<cLine)(q:Q r s):∀{xs ys:cc D} {b vs:cc OC} {as bs:cc OL} (i:Nat),QW s.heap b xs as->QW s.heap vs ys bs->OD.depthAll xs<=32->OD.depthAll ys<=32->OD.canLayAll0 xs=OG->OD.canLayAll0 ys=OG->ltds xs ys=cL r->(a=decide (xs.length<ys.length))->PySem.W.KatLex prog w A OP a Q (b.zip vs) i s
 |[],ys,_,vs,_,_,i,.nil,rv,_,_,_,_,e,ef=>by
  show Q a s;cases rv with
  |nil=>simp[ltds]at e;subst e;subst ef;exact q
  |cons _ _=>simp[ltds]at e;subst e;subst ef;simpa using q
 |x::xs,[],_,_,_,_,i,.cons _ _,.nil,_,_,_,_,e,ef=>by show Q a s;simp[ltds]at e;subst e;subst ef;simpa using q
 |x::xs,y::ys,_,_,_,_,i,@QW.cons _ u b _ _ _ _ h1 hx,@QW.cons _ v vs _ _ _ _ h2 hy,dx,dy,cx,cy,e,ef=>by
  simp only[OD.depthAll]at dx dy;unfold OD.canLayAll0 at cx cy;rw[Ld]at cx cy;show wpAny (model prog w) A (eqBool u v) _ _ s;refine SeqAt.eqAt_reads x y A s u v _ _ h1 h2 cx.1 cy.1 (by ext) prog w _ _ ?_;rw[ltds]at e;cases z:OD.eqv x y with
  |true=>rw[ai z]at e;rw[ai rfl];exact zO d q (i+1) hx hy (by ext) (by ext) cx.2 cy.2 e (by rw[ef];simp)
  |false=>rw[ak (by rw[z];simp)]at e;rw[ak OX];rw[Sv,oneLt'_eq];simp only[OS,if_false];exact lD (Aj 32 x y u v _ _ A s _ r (by ext) (by ext) cx.1 cy.1 h1 h2 (by ext) e (QO q))
theorem Jv{Q:Bool->OK->Prop}{x y:OC}{d e:D}{as bs:cc OL}{r:Bool}(l:A.units+40<cLine)(dx:d.depth<=32)(dy:e.depth<=32)(g:d.canLay0=OG)(f:e.canLay0=OG)(tx:∃xs,d=.tuple xs)(ty:∃xs,e=.tuple xs)
  (j:QV s.heap x d as) (i:QV s.heap y e bs) (h:ltd d e=cL r) (q:Q r s):wpAny (model prog w) A (keyLt' (tuples' OP) x y) Q E s:=by
 obtain⟨xs,rfl⟩:=tx;obtain⟨ys,rfl⟩:=ty;cases j with
 | @tuple a oa va na _ _ a1 a2 a3 a4=>
 cases i with
 | @tuple b ob vb nb _ _ b1 b2 b3 b4=>
  simp only[OD.depth]at dx dy;unfold OD.canLay0 at g f;rw[ltd]at h;have la:va.size=xs.length:=by have:=SeqAt.ReadsAll.length _ _ _ a4;rw[Pt]at this;exact this
  have k:vb.size=ys.length:=by have:=SeqAt.ReadsAll.length _ _ _ b4;rw[Pt]at this;exact this
  exact PySem.W.kat_lt a1 a3 b1 b3 (zO l q 0 a4 b4 (by ext) (by ext) g f h (by rw[la,k]))
theorem vP{h:Heap}:∀{g:cc OC} {ds:cc D},Paired (λu d=>(∃xs ys,d=OD.tuple (.tuple xs::ys))/\∃as,QV h u d as) g ds->∃fs,PySem.W.KatTups h g fs/\fs.length=g.length/\∀v∈fs,∃a o,v=.ref a/\h.get? a=cL o/\o.cls=.type "tuple"
 |_,_,.nil=>⟨[],.nil,rfl,λ_ h=>nomatch h⟩
 |_,_,.cons ⟨⟨xs,ys,e⟩,as,r⟩ t=>by
  obtain⟨fs,l,k,j⟩:=vP t;subst e;cases r with
  | @tuple a oa va na _ _ a1 a2 a3 a4=>
   generalize ev:va.toList=vl at a4;cases a4 with
   | @cons f fr _ _ _ _ r1 r2=>
    cases r1 with
    | @tuple b ob vb nb _ _ b1 b2 b3 b4=>
     refine⟨.ref b::fs,.cons a1 a2 a3 ?_ l,by simp[k],λv i=>?_⟩
     .rw[<-Qg,ev];rfl
     .rcases Pe.mp i with rfl|i
      .exact⟨b,ob,rfl,b1,b2⟩
      .exact j v i
theorem mK{α d:Type}(g:α->d){l:cc d}{m:cc d}(p:l.Perm m):∀{L:cc α},L.map g=m->∃L':cc α,L'.Perm L/\L'.map g=l:=by
 induction p with
 |nil=>intro L e;exact⟨L,.refl _,e⟩
 | @cons x l m _ ih=>
  intro L e;cases L with
  |nil=>cases e
  |cons a L=>rw[OM]at e;obtain⟨e1,e2⟩:=Ss e;obtain⟨L',k,n⟩:=ih e2;exact⟨a::L',k.cons a,by rw[OM,n,e1]⟩
 |swap x y l=>
  intro L e
  match L,e with
  |a::b::L,e=>simp only[OM,T6]at e;obtain⟨e1,e2,e3⟩:=e;exact⟨b::a::L,.swap a b L,by simp[e1,e2,e3]⟩
 |trans _ _ h f=>intro L e;obtain⟨L2,i,e2⟩:=f e;obtain⟨o,j,e1⟩:=h e2;exact⟨o,j.trans i,e1⟩
theorem jV{b:cc OC}{p:Keyed}(h:p∈(pairsOf b).toList):p.1=p.2/\p.1∈b:=by
 unfold pairsOf at h;rw[Wx]at h;have e:∀{l:cc OC} {p:OC×OC},p∈l.zip l->p.1=p.2/\p.1∈l:=by
  intro l
  induction l with
  |nil=>intro p h;simp at h
  |cons a l d=>
   intro p h;rw[Qc]at h;rcases Pe.mp h with rfl|h
   .exact⟨rfl,O0⟩
   .exact⟨(d h).1,OV _ (d h).2⟩
 exact e h
theorem xD{l:OL}{B:cc OC}{ds:cc D}{Q:OC->OK->Prop}(hu:A.units+60<cLine)(hl:s.heap.IsList l B.toArray)(hn:B.length<1000000)(L:Lin ds)(I:Paired (λu d=>∃as,QV s.heap u d as) B ds)
  (h:∀(U:cc OC) (X:cc D),Srt X->X.length=U.length->(U.zip X).Perm (B.zip ds)->Q (.ref (s.heap.objs.size+1)) {s with heap:=sortedAll s.heap B U.toArray}):
  wpAny (model prog w) A (call (.builtin "sorted") [.ref l]) Q E s:=by
 have hlen:=Paired.length I;have up:∀{C:Heap},(∀b o,s.heap.get? b=cL o->C.get? b=cL o)->∀u∈B,∃d∈ds,(∃as,QV s.heap u d as)/\∃as,QV C u d as:=λ{C} k u hu'=>by obtain⟨i,hi,e⟩:=Q4 hu';obtain⟨d,e2,as,r⟩:=eU I (OI.mpr ⟨hi,e⟩);exact⟨d,O9 e2,⟨as,r⟩,as,Reads.keeps k r⟩
 refine TS.sorted_any (κ:=tuples' OP) (f:=Mj s.heap ds) hl hn (λC k h2=>?_) (λC k=>⟨λx y z hx hy hz=>?_⟩) λst p so=>?_
 .have O:Paired (λu d=>(∃xs ys,d=OD.tuple (.tuple xs::ys))/\∃as,QV C u d as) B ds:=by
   have all:∀{B:cc OC} {es:cc D},Paired (λu d=>∃as,QV s.heap u d as) B es->(∀d∈es,d∈ds)->Paired (λu d=>(∃xs ys,d=OD.tuple (.tuple xs::ys))/\∃as,QV C u d as) B es:=by
    intro B es q
    induction q with
    |nil=>exact λ_=>.nil
    |cons r _ P=>exact λm=>.cons ⟨L.tup _ (m _ O0),let⟨as,r⟩:=r;⟨as,Reads.keeps k r⟩⟩ (P λd G=>m d (OV _ G))
   exact all I λ_ h=>h
  obtain⟨fs,f1,f2,f3⟩:=vP O;refine PySem.W.kat_kind (T:=.type "tuple") f1 (by ext) (λv hv=>?_) (by decide) ⟨by rfl,rfl⟩;obtain⟨a,o,rfl,g,c⟩:=f3 v hv;rw[<-c];exact(show PySem.W.Looks (model prog w) C (typeOf (.ref a)) o.cls from(Zo g).andThen .now)
 .subst hz;obtain⟨x1,x2⟩:=jV hx;obtain⟨y1,y2⟩:=jV hy;obtain⟨d,G,⟨as0,N⟩,as,H⟩:=up k _ x2;obtain⟨e,J,⟨bs0,M⟩,bs,re⟩:=up k _ y2;have od:=tJ L G;have oe:=tJ L J;refine Jv (by rw[Pp.in1_units,Pp.in1_units];ext) od.2 oe.2 od.1 oe.1 (let⟨xs,ys,e⟩:=L.tup d G;⟨_,e⟩) (let⟨xs,ys,e⟩:=L.tup e J;⟨_,e⟩) H re (L.lt G J) ⟨?_,rfl⟩;rw[tP L G N,tP L J M]
 .have sz:(arrOf st).size=B.length:=by rw[p.size_eq,pairsOf_size]
  have pu:((arrOf st).map (·.2)).toList.Perm B:=by
   have q:=(Rt.mp p).map (·.2);have e:(pairsOf B).toList.map (·.2)=B:=by unfold pairsOf;rw[Wx];exact S7 (OJ _)
   rw[e]at q;rw[Wz];exact q
  have ez:(B.zip ds).map (·.1)=B:=Xe (by ext);obtain⟨Z,z1,K⟩:=mK (λx:OC×D=>x.1) pu ez;have e1:∀Y:cc (OC×D),Y=(Y.map (·.1)).zip (Y.map (·.2)):=λY=>by
   induction Y with
   |nil=>rfl
   |cons a Y P=>rw[OM,OM,Qc,<-P]
  have:=h (Z.map (·.1)) (Z.map (·.2)) ?_ (by simp) (by rw[<-e1 Z];exact z1)
  .rw[K]at this;have e:((arrOf st).map (·.2)).toList.toArray=(arrOf st).map (·.2):=rfl;rw[e]at this;exact this
  .have zl:Z.length=B.length:=by rw[<-OH (f:=(·.1)),K];simp[sz]
   unfold Srt;rw[QF];intro i j hi S ij;simp only[OH]at hi S;have H:∀t (F:t<Z.length),Z[t].2∈ds/\∃as,QV s.heap Z[t].1 Z[t].2 as:=λt F=>by
    have m:Z[t]∈B.zip ds:=z1.mem_iff.mp (QP F);obtain⟨n,hn,e⟩:=Q4 m;rw[List.getElem_zip]at e;have ZK:n<B.length/\n<ds.length:=by simp at hn;ext
    obtain⟨d,e2,r⟩:=eU I (OI.mpr ⟨ZK.1,rfl⟩);have e3:ds[n]=d:=(OI.mp e2).2;rw[<-e];exact⟨QP _,by rw[e3];exact r⟩
   have fz:∀t (F:t<Z.length),TS.R (Mj s.heap ds) (arrOf st) t=rk ds Z[t].2:=λt F=>by
    have Xm:t<(arrOf st).size:=by ext
    rw[TS.R_at Xm];obtain⟨m,as,r⟩:=H t F;have e:(arrOf st)[t].2=Z[t].1:=by have:=ey (λl=>l[t]?) K;simp only[OT,OY F,Wz,Qg,getElem?_pos (arrOf st) t Xm,Ul,Tv]at this;exact this.symm
    have e':(arrOf st)[t].1=(arrOf st)[t].2:=(jV ((Rt.mp p).mem_iff.mp (by simp))).1;exact tP L m (by rw[e',e];exact r)
   have:=so i j (P0 _) (by ext) (by ext);rw[fz i hi,fz j S]at this;rw[Xf,Xf,L.lt (H j S).1 (H i hi).1];congr 1;exact a7 (by ext)
end
end LD
namespace LD
open PySem PyProof.Rows L2 L3 L10
def A4(K:Bn):cc V->Hp->VK->Prop:=λxs H Q=>∃(p:OL) (vs:cc V) (ds:cc D),xs=[.ref p]/\Tw K H p vs/\L2.QC K H vs ds/\vs.length<1000000/\Lin ds/\
 ∀(l:OL) (a:cc V),H l=CL->a.length=ds.length->(a.zip (sortD ds)).Perm (vs.zip ds)->(sortD ds).length=ds.length->Q (.ref l) (upd H l (.lst a))
theorem Kj{α e d:Type}:∀{a:cc α} {b:cc e} {c:cc d},a.length=b.length->b.length=c.length->(a.zip (b.zip c)).map (·.2)=b.zip c/\(a.zip (b.zip c)).map (λt=>(t.1,t.2.2))=a.zip c
 |[],[],[],_,_=>⟨rfl,rfl⟩
 |x::a,y::b,z::c,h1,h2=>by obtain⟨e1,e2⟩:=Kj (a:=a) (b:=b) (c:=c) (by simpa using h1) (by simpa using h2);simp only[Qc,OM];exact⟨by rw[e1],by rw[e2]⟩
 |[],_::_,_,h,_=>by cases h
 |_::_,[],_,h,_=>by cases h
 |[],[],_::_,_,h=>by cases h
 |_::_,_::_,[],_,h=>by cases h
theorem yz{vs:cc V}{b:cc OC}(h:Vals vs b){a:Type}:∀{c:cc a} {t:V×OC×a},t∈vs.zip (b.zip c)->RelV t.1 t.2.1:=by
 induction h with
 |nil=>intro c t h;simp at h
 |cons r _ d=>
  intro c t h;cases c with
  |nil=>simp at h
  |cons z c=>
   rw[Qc,Qc]at h;rcases Pe.mp h with rfl|h
   .exact r
   .exact d h
theorem rF{a:Type}:∀{T:cc (V×OC×a)},(∀t∈T,RelV t.1 t.2.1)->Vals (T.map (·.1)) (T.map (·.2.1))
 |[],_=>.nil
 |t::T,h=>.cons (h t O0) (rF λx b=>h x (OV _ b))
theorem call_sortP{X:Cx}(Z:X.A.units+64<cLine):fy X (.builtin "sorted") (A4 X.K):=by
 intro C s S H xs U Q I r h;obtain⟨p,vs,ds,rfl,E,m,hn,L,q⟩:=h;obtain⟨u,rfl,F⟩:=lI r;cases F;obtain⟨w,rv,pl,J⟩:=I.list E;have O:=rv.length;have l:=pB m;have G:Paired (λu d=>∃as,QV s.heap u d as) w ds:=by
  clear E pl J q L hn O l
  induction rv generalizing ds with
  |nil=>cases m;exact .nil
  |cons r _ k=>cases m with
   |cons d t=>exact .cons (L2.DV.reads I d r) (k _ t)
 refine xD (by ext) pl.isList (by ext) L G λn v so N B=>?_;have z:=Kj (a:=vs) (b:=w) (c:=ds) (by ext) (by ext);obtain⟨T,i,g⟩:=mK (λt:V×OC×D=>t.2) B z.1;have e1:T.map (·.2.1)=n:=by have:=ey (acN (·.1)) g;rw[PY,Xe (by ext)]at this;exact this
 have e2:T.map (·.2.2)=v:=by have:=ey (acN (·.2)) g;rw[PY,S7 (by ext)]at this;exact this
 have e3:(T.map (·.1)).zip v=T.map λt=>(t.1,t.2.2):=by
  rw[<-e2];clear i g e1 e2
  induction T with
  |nil=>rfl
  |cons a T k=>rw[OM,OM,Qc,k];rfl
 have j:v.Perm ds:=by have:=B.map (·.2);rw[S7 (by ext),S7 (by ext)]at this;exact this
 have es:=sortD_eq L j so;have lt:(T.map (·.1)).length=ds.length:=by rw[OH,<-OH (f:=(·.2.2)) (as:=T),e2];exact j.length_eq
 obtain⟨e,P⟩:=sortedAll_at s.heap w n.toArray;refine⟨.ref (s.heap.objs.size+1),_,I.laid (t':=s.toks) (o:=.lst (T.map (·.1))) (λb Y z=>sortedAll_old z) (aan _) ?_,rfl,q _ (T.map (·.1)) (I.QX.fresh (aan _)) lt ?_ (by rw[es];exact j.length_eq)⟩
 .refine⟨?_,n,e,by rw[<-e1];exact rF λt M=>yz rv (i.mem_iff.mp M),P⟩
  have:(1000000:Nat)<=Pd:=by decide
  ext
 .rw[es,e3,<-z.2];exact i.map _
def lstAt(ω:aG):SV->cj (cc SV)
 |.rf i=>match ω[i]? with
  |some (.lst xs)=>cL xs
  |_=>CL
 |_=>CL
open Classical in
def sortS(fa:cI):cI:=λρ ω=>(fa ρ ω).bind λo a=>(RS.Qf a (lstAt a o)).bind λxs a=>(RS.Qf a (aq ms xs)).bind λds a=>if Lin ds/\ds.length<1000000 then .ok (.rf a.length) (a++[.lst ((sortD ds).map SV.fz)])else .bad
theorem ui{O:aN}{K:Bn}{H:Hp}:∀{vs:cc V} {ds:cc D},(∀t∈vs.zip ds,L3.DV O K H t.1 t.2)->vs.length=ds.length->L3.QC O K H vs ds
 |[],[],_,_=>.nil
 |v::vs,d::ds,h,e=>.cons (h (v,d) (by rw[Qc];exact O0)) (ui (λt a=>h t (by rw[Qc];exact OV _ a)) (by simpa using e))
 |[],_::_,_,e=>by cases e
 |_::_,[],_,e=>by cases e
theorem uo{O:aN}{K:Bn}{H:Hp}:∀{vs:cc V} {ds:cc D},L3.QC O K H vs ds->∀t∈vs.zip ds,L3.DV O K H t.1 t.2
 |_,_,.nil,_,h=>nomatch h
 |_,_,.cons a t,x,h=>by
  rw[Qc]at h;rcases Pe.mp h with rfl|h
  .exact a
  .exact uo t x h
section
variable{K:Bn}{E:XK}{B:aN}{H:Hp}{Z:cc OL}{ω:aG}{v:V}
theorem Ho{x:SV}{xs:cc SV}(s:StoOk B K H Z ω)(e:Sl (ow B Z ω) K H Z v x)(h:lstAt ω x=cL xs):∃a vs,v=.ref a/\H a=cL (.lst vs)/\Rv (ow B Z ω) K H Z vs xs:=by
 cases x with
 |fz d=>cases h
 |tp l=>cases h
 |rf j=>
  obtain⟨a,ha,rfl⟩:=e;unfold lstAt at h;dsimp only at h;cases q:ω[j]? with
  |none=>rw[q]at h;cases h
  |some c=>
   rw[q]at h;cases c with
   |lst ys=>cases h;obtain⟨b,h1,f⟩:=s.UO j a _ ha q;exact⟨a,b,rfl,h1,f⟩
   |_=>cases h
theorem eos_sortS{ta:TE}{fa:cI}(ha:c7 K E ta fa):c7 K E (B8 (A4 K) (c8 ta iI)) (sortS fa):=by
 intro B p H Z ω ρ Q s q w;refine ha B p H Z ω ρ _ s q (w.bind.imp λo f d g e1 i b u C=>?_);obtain⟨xs,z,b⟩:=WS.Qf b;obtain⟨ds,r,b⟩:=WS.Qf b;obtain⟨a,vs,rfl,G,j⟩:=Ho i C z;rw[iZ r]at j;have n:=nH j;have J:vs.length=ds.length:=by have:=Paired.length j;rwa [OH]at this
 by_cases c:Lin ds/\ds.length<1000000
 .rw[ai c]at b;refine⟨a,vs,ds,rfl,.inl (.inl G),n.plain,by ext,c.1,λl h hn I A L=>?_⟩;have m:QL g (upd g l (.lst h)):=bE hn _;have e:QN f d g (f++[l]) (d++[.lst ((sortD ds).map SV.fz)]) (upd g l (.lst h)):=QN.UJ i.len m hn;have k:L3.QC (ow B f d) K g h (sortD ds):=ui (λt F=>uo n t (A.mem_iff.mp F)) (by ext);exact b _ _ e (i.UJ m hn (by rw[ay];simp) ⟨h,ay,sE (k.ev e.ev)⟩) _ ⟨l,by rw[<-i.len];exact aH,rfl⟩
 .rw[ak c]at b;exact b.elim
end
end LD
namespace LD
open PySem PyProof.Rows L2 L3
mutual
def ged:OD->OD->cj Bool
 |.int i,.int j=>cL (decide (j<=i))
 |.tuple xs,.tuple ys=>geds xs ys
 |_,_=>CL
def geds:cc OD->cc OD->cj Bool
 |[],[]=>cL OG
 |[],_::_=>cL OP
 |_::_,[]=>cL OG
 |x::xs,y::ys=>if OD.eqv x y=OG then geds xs ys else ged x y
end
section
variable{prog:Pa}{w:Pz}{E:OC->OK->Prop}
theorem Fu:∀(n:Nat) (x y:OD) (u v:OC) (as bs:cc OL) (A:Pp) (s:OK) (Q:OC->OK->Prop) (r:Bool),x.depth<=n->y.depth<=n->x.canLay0=OG->y.canLay0=OG->QV s.heap u x as->QV s.heap v y bs->A.units+n<cLine->ged x y=cL r->Q (.bool r) s->wpAny (model prog w) A (richCompare .GtE u v) Q E s
 |n,.int i,.int j,_,_,_,_,A,s,Q,r,_,_,_,_,ru,rv,_,e,h=>by cases ru;cases rv;rw[ged]at e;cases e;exact UB (op:=.GtE) (RU s _ _) (RU s _ _) F.slot_int_ge F.entry_int_ge (F.args_int_ge_2 _ _) (gives_int_ge _ _ _ _) (λx=>nomatch x) h
 |0,.tuple xs,_,_,_,_,_,A,s,Q,r,hx,_,_,_,_,_,_,_,_=>by simp only[OD.depth]at hx;ext
 |n+1,.tuple xs,.tuple ys,_,_,_,_,A,s,Q,r,hx,hy,lx,ly,ru,rv,hu,e,h=>by
  cases ru with
  | @tuple a oa va na _ _ a1 a2 a3 a4=>
  cases rv with
  | @tuple b ob vb nb _ _ b1 b2 b3 b4=>
   have k:s.TypeIs (.ref a) "tuple":=⟨_,a1,a2⟩;have l:s.TypeIs (.ref b) "tuple":=⟨_,b1,b2⟩;rw[ged]at e;simp only[OD.depth]at hx hy;unfold OD.canLay0 at lx ly;refine SN (op:=.GtE) k l F.slot_tuple_ge (Qk F.slot_tuple_ge k F.entry_tuple_ge ?_ (F.args_tuple_ge_2 _ _)) (by ext);show wpAny _ _ (isInstance (.ref b) (.type "tuple")>>=_) _ _ s;refine lD (Rb l TN ?_);simp only[Qu,OS,if_false];refine lD (R0 a1 a3 ?_);refine lD (R0 b1 b3 ?_);refine lD ?_;have la:va.size=xs.length:=by have:=SeqAt.ReadsAll.length _ _ _ a4;rw[Pt]at this;exact this
   have m:vb.size=ys.length:=by have:=SeqAt.ReadsAll.length _ _ _ b4;rw[Pt]at this;exact this
   refine UR _
    (λd q f=>q.1=CL/\f=s/\∃x' y' WK V1 cs ds,d=acJ WK V1/\QW s.heap WK x' cs/\QW s.heap V1 y' ds/\OD.depthAll x'<=n/\OD.depthAll y'<=n/\OD.canLayAll0 x'=OG/\OD.canLayAll0 y'=OG/\geds x' y'=geds xs ys/\(y'.length<=x'.length↔ys.length<=xs.length))
    _ ?_ ?_ _ _ ⟨rfl,rfl,xs,ys,_,_,_,_,rfl,a4,b4,by ext,by ext,lx,ly,rfl,Iff.rfl⟩
   .rintro⟨p,q⟩ d B f ⟨g,rfl,x',y',WK,V1,cs,ds,hz,Va,WL,dx,dy,cx,cy,hl,hlen⟩
    cases Va with
    |nil=>simp at hz
    | @cons p' ps k1 x'' c1 c2 h1 Yz=>
     cases WL with
     |nil=>simp at hz
     | @cons q' qs k2 y'' d1 d2 h2 YD=>
      simp only[Qc,T6,Prod.mk.injEq]at hz;obtain⟨⟨rfl,rfl⟩,rfl⟩:=hz;simp only[OD.depthAll]at dx dy;unfold OD.canLayAll0 at cx cy;rw[Ld]at cx cy;refine lD (SeqAt.eqAt_reads k1 k2 A.in1 f p q _ _ h1 h2 cx.1 cy.1 (by rw[Pp.in1_units];ext) prog w _ _ ?_);rw[geds]at hl;cases z:OD.eqv k1 k2 with
      |true=>rw[ai z]at hl;simp only[Qu,OS,if_false];refine OE ⟨rfl,rfl,x'',y'',ps,qs,_,_,rfl,Yz,YD,by ext,by ext,cx.2,cy.2,hl,?_⟩;rw[<-hlen,OQ,OQ];ext
      |false=>rw[ak (by rw[z];simp)]at hl;simp only[Tx,if_true];refine lD (TJ (lD (Fu n k1 k2 p q _ _ A.in1 f _ r (by ext) (by ext) cx.1 cy.1 h1 h2 (by rw[Pp.in1_units];ext) (hl.trans e) ?_)));exact lD (OE (OE (OE ⟨_,rfl,(λx=>nomatch x),h⟩)))
   .rintro⟨t,o⟩ f ⟨g,rfl,x',y',WK,V1,cs,ds,hz,Va,WL,dx,dy,cx,cy,hl,hlen⟩
    simp only at g;subst g;refine OE ⟨_,rfl,(λx=>nomatch x),?_⟩;have er:r=decide (ys.length<=xs.length):=by
     have:geds x' y'=cL (decide (y'.length<=x'.length)):=by
      cases Va with
      |nil=>cases WL<;>simp[geds]
      |cons _ _=>
       cases WL with
       |nil=>simp[geds]
       |cons _ _=>simp at hz
     rw[<-hl,this]at e;cases e;exact decide_eq_decide.mpr hlen
    rw[er]at h;rw[la,m];exact h
 |_,.tuple xs,.none,_,_,_,_,_,_,_,_,_,_,_,_,_,_,_,e,_|_,.tuple xs,.bool _,_,_,_,_,_,_,_,_,_,_,_,_,_,_,_,e,_|_,.tuple xs,.int _,_,_,_,_,_,_,_,_,_,_,_,_,_,_,_,e,_|_,.tuple xs,.str _,_,_,_,_,_,_,_,_,_,_,_,_,_,_,_,e,_|_,.tuple xs,.list _,_,_,_,_,_,_,_,_,_,_,_,_,_,_,_,e,_|_,.tuple xs,.dict _,_,_,_,_,_,_,_,_,_,_,_,_,_,_,_,e,_=>by simp[ged]at e
 |_,.none,_,_,_,_,_,_,_,_,_,_,_,_,_,_,_,_,e,_|_,.bool _,_,_,_,_,_,_,_,_,_,_,_,_,_,_,_,_,e,_|_,.str _,_,_,_,_,_,_,_,_,_,_,_,_,_,_,_,_,e,_|_,.list _,_,_,_,_,_,_,_,_,_,_,_,_,_,_,_,_,e,_|_,.dict _,_,_,_,_,_,_,_,_,_,_,_,_,_,_,_,_,e,_=>by simp[ged]at e
 |_,.int _,.none,_,_,_,_,_,_,_,_,_,_,_,_,_,_,_,e,_|_,.int _,.bool _,_,_,_,_,_,_,_,_,_,_,_,_,_,_,_,e,_|_,.int _,.str _,_,_,_,_,_,_,_,_,_,_,_,_,_,_,_,e,_|_,.int _,.list _,_,_,_,_,_,_,_,_,_,_,_,_,_,_,_,e,_|_,.int _,.tuple _,_,_,_,_,_,_,_,_,_,_,_,_,_,_,_,e,_|_,.int _,.dict _,_,_,_,_,_,_,_,_,_,_,_,_,_,_,_,e,_=>by simp[ged]at e
end
def Ka(K:Bn):R2:=λx y H Q=>∃dx dy r,L2.DV K H x dx/\L2.DV K H y dy/\(dx.canLay0=OG/\dy.canLay0=OG/\dx.depth<=32/\dy.depth<=32)/\ged dx dy=cL r/\Q (.bl r) H
theorem op_geT{X:Cx}(o:X.A.units+64<cLine):OpR X (QS .GtE) (Ka X.K):=by intro a s n H x y v u Q I d b h;obtain⟨dx,k,r,h1,j,⟨l1,i,m,l⟩,e,q⟩:=h;obtain⟨as,g⟩:=h1.reads I d;obtain⟨bs,f⟩:=j.reads I b;exact Fu 32 dx k v u as bs X.A s _ r m l l1 i g f (by ext) e ⟨.bl _,H,I,rfl,q⟩
def geT(d e:D):cj RV:=if(d.canLay0&&e.canLay0&&decide (d.depth<=32)&&decide (e.depth<=32))=OG then(ged d e).map λr=>.fz (.bool r)else CL
theorem opp_geT{K:Bn}:iA K (Ka K) geT:=by
 intro O H x y dx g rv Q n d b e q;unfold geT at e;split at e
 .rename_i a;simp only[Ld,decide_eq_true_eq]at a;obtain⟨r,f,e⟩:=PM.mp e;subst e;exact⟨dx,g,r,d.plain,b.plain,⟨a.1.1.1,a.1.1.2,a.1.2,a.2⟩,f,q.at (.bl _)⟩
 .cases e
end LD
namespace LD
open PySem PyProof.Rows
mutual
theorem ng{h h':Heap}{P:OL->Prop}(e:∀b o,h.get? b=cL o->¬P b->h'.get? b=cL o)(hd:∀b o,P b->h.get? b=cL o->o.cls≠.type "tuple"):∀(d:OD) (v:OC) (as:cc OL),kd d=OG->QV h v d as->QV h' v d as
 |.none,_,_,_,r=>by cases r;exact .none
 |.int _,_,_,_,r=>by cases r;exact .int _ _
 |.str _,_,_,_,r=>by cases r;exact .str _ _
 |.tuple xs,_,_,k,r=>by
  cases r with
  | @tuple a o vs n _ _ h1 h2 h3 h4=>unfold kd at k;exact .tuple (e a o h1 λz=>hd a o z h1 h2) h2 h3 (kZ e hd xs _ _ k h4)
 |.bool _,_,_,k,_=>by simp[kd]at k
 |.list _,_,_,k,_=>by simp[kd]at k
 |.dict _,_,_,k,_=>by simp[kd]at k
theorem kZ{h h':Heap}{P:OL->Prop}(a:∀b o,h.get? b=cL o->¬P b->h'.get? b=cL o)(hd:∀b o,P b->h.get? b=cL o->o.cls≠.type "tuple"):∀(ds:cc OD) (vs:cc OC) (as:cc OL),kds ds=OG->QW h vs ds as->QW h' vs ds as
 |[],_,_,_,r=>by cases r;exact .nil
 |d::ds,_,_,k,r=>by
  cases r with
  |cons f e=>unfold kds at k;rw[Ld]at k;exact .cons (ng a hd d _ _ k.1 f) (kZ a hd ds _ _ k.2 e)
end
section
variable{prog:Pa}{w:Pz}{A:Pp}{E:OC->OK->Prop}{s:OK}{I dd ax:OL}{items:Array OC}{ks:cc (KD×OL×OC)}{R:Yg->OK->Prop}
def FD(xs ks:cc (KD×OL×OC)):cc (KD×OL×OC):=ks.foldl (λxs p=>storedH xs p.1 p.2.1 p.2.2) xs
theorem Dg(xs:cc (KD×OL×OC))(k:KD)(a:OL)(v:OC):(storedH xs k a v).length<=xs.length+1:=by
 unfold storedH;split
 .rw[OH];ext
 .rw[OO];exact OJ _
theorem uw:∀(ks xs:cc (KD×OL×OC)),(FD xs ks).length<=xs.length+ks.length
 |[],_=>OJ _
 |p::r,xs=>by have h1:=uw r (storedH xs p.1 p.2.1 p.2.2);have a:=Dg xs p.1 p.2.1 p.2.2;show(FD (storedH xs p.1 p.2.1 p.2.2) r).length<=_;rw[OQ];ext
theorem u8{h h':Heap}{xs:cc (KD×OL×OC)}(t:h.DictOfH (a8 prog w) dd xs)(g:I≠dd)(f:∀o,h.get? I=cL o->o.cls≠.type "tuple")(a:∀b o,b∉[I]->h.get? b=cL o->h'.get? b=cL o):h'.DictOfH (a8 prog w) dd xs:=by obtain⟨o,es,q,p,m,l,k,j,i⟩:=t;refine⟨o,es,q,a dd o (by simp;exact λz=>g z.symm) p,m,l,k,λx d=>?_,i⟩;obtain⟨as,r⟩:=j x d;exact⟨as,ng (P:=(·=I)) (λb o e n=>a b o (by simp;exact n) e) (λb o z e=>by subst z;exact f o e) x.1.1 _ _ (cE x.1.2).1 r⟩
theorem wG{hb:Heap}(hu:A.in1.units+8<cLine)(hh:A.handled=CL)(Sf:ax≠I)(J:I≠dd)(H:ax≠dd)(L:hb.get? I=CL)(nd:hb.get? dd=CL)
  (hp:∀(i:Nat) (v:OC),items[i]?=cL v->∃q a k x,v=.ref q/\ks[i]?=cL (k,a,x)/\(∃as,QV hb (.ref a) k.1 as)/\hb.IsTuple q #[.ref a,x]) (hs:ks.length=items.size) (hz:items.size<=Pd)
  (hR:∀h' l,h'.DictOfH (a8 prog w) dd (FD [] ks)->(∀b o,hb.get? b=cL o->h'.get? b=cL o)->R (.ok (.ret .none)) {s with heap:=h',toks:=l}):
  ∀(m i:Nat) (h:Heap) (l:Nat),items.size - i=m->i<=items.size->h.IsListIter I ax i->h.IsList ax items->h.DictOfH (a8 prog w) dd (FD [] (ks.take i))->(∀b o,hb.get? b=cL o->h.get? b=cL o)->
   codeAny (model prog w) A (.builtin "dict.update.loop" ⟨[.ref dd,.ref I,rawInt i,.none],[]⟩) R {s with heap:=h,toks:=l}:=by
 have W:=Walks.list (prog:=prog) (w:=w) (A:=A.in1) hh I ax Sf items;have nb:∀{b:OL} {o:Obj} {c:OL},hb.get? c=CL->hb.get? b=cL o->b≠c:=λ{b o c} n e z=>by rw[z,n]at e;cases e
 have M:∀{h:Heap} {i:Nat},h.IsListIter I ax i->∀o,h.get? I=cL o->o.cls≠.type "tuple":=λ{h i} j o e=>by obtain⟨o',O,c,_⟩:=j;rw[e]at O;cases O;rw[c];decide
 intro m
 induction m with
 |zero=>
  intro i h l hm hi j t r u;have e:i=items.size:=by ext
  subst e;refine SD F.entry_upd_loop ?_;rw[Pp.under_plainId F.plain_upd_loop _];show wpAny _ A.in1 (pyNext (.ref I)>>=_) _ _ _;refine lD (W.done _ _ _ ⟨j,t⟩ λh' d p=>?_);rw[Qs (by ext)]at r;show wpAny _ A.in1 (Pb.Dict.addKeywords dd []>>=λ_=>ret .none) _ _ _;refine lD (OE (OE ?_));exact hR h' d (u8 r J (M j) p) λb o e=>p b o (by simp;exact nb L e) (u b o e)
 |succ m Y=>
  intro i h l hm hi j t r u;have P:i<items.size:=by ext
  refine SD F.entry_upd_loop ?_;rw[Pp.under_plainId F.plain_upd_loop _];show wpAny _ A.in1 (pyNext (.ref I)>>=_) _ _ _;refine lD (W.item i _ _ _ P ⟨j,t⟩ λv h' d Z st p=>?_);obtain⟨q,a,k,x,rfl,B,⟨as,T⟩,ht⟩:=hp i v Z;have g:∀b o,hb.get? b=cL o->h'.get? b=cL o:=λb o e=>p b o (by simp;exact nb L e) (u b o e);have K:=u8 r J (M j) p;obtain⟨U,f,G,nq,C⟩:=ht;have f:=g q _ f;obtain⟨cq,dq,dtq,Q⟩:=U;cases G;cases C;have hT:({s with heap:=h',toks:=d}:OK).TypeIs (.ref q) "tuple":=⟨_,f,rfl⟩;refine lD (QE (lD ?_));refine S0 ?_;unfold Pb.Dict.pairItems;refine lD (SI hT ?_);rw[ai (by decide)];refine lD ?_;unfold seqItems?;refine lD (wpAny_load f (OE (OE ?_)));show wpAny _ A.in1 (holding [.ref a,x] (dictSet dd (.ref a) x)) _ _ _;have X:(FD [] (ks.take i)).length<=Pd:=by have:=uw (ks.take i) [];rw[P4,RI]at this;ext
  refine QE (wpAny_dictSet_heap (knd:=a8 prog w) (s:={s with heap:=h',toks:=d}) (hsz:=X) hu ⟨as,Reads.keeps g T⟩ K λN d2 S=>?_);refine OE ⟨RM F.plain_upd_loop _,?_⟩;have e2:∀b o,b≠dd->h'.get? b=cL o->N.get? b=cL o:=λb o hb e=>(S.2 b hb).trans e;refine Y (i+1) N _ (by ext) P (st.1.at λo e=>e2 I o J e) (st.2.at λo e=>e2 ax o H e) ?_ λb o e=>e2 b o (nb nd e) (g b o e);have et:ks.take (i+1)=ks.take i++[(k,a,x)]:=by rw[Ua,B];rfl
  rw[et];unfold FD;rw[WA];exact d2
theorem kJ{Q:OC->OK->Prop}{n:Nat}{B:Array (cj OC)}(Z:A.units+32<cLine)(G:A.handled=CL)(C:s.heap.get? ax=cL ⟨.type "list",CL,.seq items n,B⟩)(J:ks.length=items.size)(hz:items.size<=Pd)
  (K:∀(i:Nat) (v:OC),items[i]?=cL v->∃q a k x,v=.ref q/\ks[i]?=cL (k,a,x)/\(∃as,QV s.heap (.ref a) k.1 as)/\s.heap.IsTuple q #[.ref a,x])
  (h:∀h' tk,h'.DictOfH (a8 prog w) s.heap.objs.size (FD [] ks)->(∀b o,s.heap.get? b=cL o->h'.get? b=cL o)->Q (.ref s.heap.objs.size) {s with heap:=h',toks:=tk}):
  wpAny (model prog w) A (call (.type "dict") [.ref ax]) Q E s:=by
 refine callType_codes (Q₁:=λobj d=>obj=.ref s.heap.objs.size/\d={s with heap:=s.heap.push {cls:=.type "dict",data:=.dict #[]}}) F.kt_called_dict (F.kt_typeCall_dict_1 _) F.entry_dict_init (kt_code_dict_new _ ⟨rfl,rfl⟩) ?_;rintro obj d ⟨rfl,rfl⟩;have l:(s.heap.push {cls:=.type "dict",data:=.dict #[]}).DictOfH (a8 prog w) s.heap.objs.size []:=⟨_,#[],0,c4 _ rfl,⟨rfl,rfl,rfl⟩,rfl,rfl,(λ_ z=>nomatch z),Rz⟩;have u:(s.heap.push {cls:=.type "dict",data:=.dict #[]}).get? ax=cL ⟨.type "list",CL,.seq items n,B⟩:=c0 _ C;have M:({s with heap:=s.heap.push {cls:=.type "dict",data:=.dict #[]}}:OK).TypeIs (.ref ax) "list":=⟨_,u,rfl⟩;refine⟨l.typeIs,F.args_dict_init_2 _ _,?_⟩;unfold Pb.«dict.__init__»;refine lD ?_;unfold Pb.Dict.selfAndRest;refine lD (RA l.typeIs ?_);show wpAny _ _ (pure (s.heap.objs.size,[OC.ref ax])) _ _ _;refine OE ?_;show wpAny _ _ (Pb.Dict.updateFrom "dict.__init__" s.heap.objs.size (.ref ax) [] .none) _ _ _;unfold Pb.Dict.updateFrom;refine lD (SI M ?_);rw[ai (by decide)];refine lD (kY u G λh' p j=>?_);rw[ai (show(CL:cj OC).isNone=OG from rfl)];refine lD (TJ ?_);have H:=j _ _ u;have t:h'.IsList ax items:=⟨_,H,rfl,n,rfl⟩;refine lD (SF (s:={s with heap:=h',toks:=p}) t ?_);refine OE ⟨RM F.plain_upd_loop _,?_⟩;have ltd:s.heap.objs.size<h'.objs.size:=by obtain⟨o,_,_,L,_⟩:=id l;exact c3 (j _ _ L)
 have g:ax<s.heap.objs.size:=c3 C;have Se:∀{c:OL},s.heap.objs.size<=c->s.heap.get? c=CL:=λ{c} hc=>by
  cases q:s.heap.get? c with
  |none=>rfl
  |some o=>exact cb (Pk (c3 q) hc) (Qa _)
 refine wG (A:=A.in1) (prog:=prog) (w:=w) (ks:=ks) (items:=items) (ax:=ax) (R:=wants (λr f=>r=OC.none/\Q (OC.ref s.heap.objs.size) f) E) (hb:=s.heap) (s:={s with heap:=h',toks:=p}) (by rw[Pp.in1_units,Pp.in1_units];ext) G (PN (Sn g ltd)) (RB ltd) (PN g) (Se (Qo ltd)) (Se (OJ _)) K J hz (λN m Y k2=>⟨rfl,h N m Y k2⟩) items.size 0 _ p (by ext) (P0 _) ⟨_,c4 _ rfl,rfl,rfl⟩ ⟨_,c0 _ H,rfl,n,rfl⟩ ?_ λb o e=>c0 _ (j _ _ (c0 _ e));obtain⟨o,es,X,U,T,S,P,g5,O⟩:=l;exact⟨o,es,X,c0 _ (j _ _ U),T,S,P,(λ_ z=>nomatch z),O⟩
end
open L2 L3 L10
def JV(xs PL:cc (KD×OL×V)):cc (KD×OL×V):=PL.foldl (λxs p=>jw xs p.1 p.2.1 p.2.2) xs
inductive PrsD(K:Bn)(H:Hp):cc V->cc (KD×OL×V)->Prop
 |nil:PrsD K H [] []
 |cons {q b:OL} {k:KD} {v:V} {vs:cc V} {PL:cc (KD×OL×V)}:Tj K H q [.ref b,v]->L2.DV K H (.ref b) k.1->PrsD K H vs PL->PrsD K H (.ref q::vs) ((k,b,v)::PL)
def vx(K:Bn):cc V->Hp->VK->Prop:=λxs H Q=>∃p ys PL,xs=[.ref p]/\Tw K H p ys/\PrsD K H ys PL/\ys.length<1000000/\∀d,H d=CL->Q (.ref d) (upd H d (DkO d (JV [] PL)))
theorem F3:∀{PL:cc (KD×OL×V)} {ks:cc (KD×OL×OC)} {xs:cc (KD×OL×V)} {ys:cc (KD×OL×OC)},RX PL ks->RX xs ys->RX (JV xs PL) (FD ys ks)
 |_,_,_,_,.nil,h=>h
 |_,_,_,_,.cons (a:=p) (b:=q) hd t,h=>by obtain⟨k,b,v⟩:=p;obtain⟨f,g,u⟩:=q;obtain⟨h1,e,d⟩:=hd;dsimp only at h1 e d;subst h1 e;have z:=F3 t (A3 (k:=k) (b:=b) d h);exact z
theorem uF:∀(PL xs:cc (KD×OL×V)),(JV xs PL).length<=xs.length+PL.length
 |[],_=>OJ _
 |p::r,xs=>by have h1:=uF r (jw xs p.1 p.2.1 p.2.2);have a:=j9 xs p.1 p.2.1 p.2.2;show(JV (jw xs p.1 p.2.1 p.2.2) r).length<=_;rw[OQ];ext
theorem vA{X:Cx}{g:cc (OL×Obj)}{l:L2.St}{H:Hp}{s:OK}(I:Inv X g l H s):∀{ys:cc V} {PL:cc (KD×OL×V)} {j:cc OC},PrsD X.K H ys PL->Vals ys j->∃ks:cc (KD×OL×OC),RX PL ks/\ks.length=j.length/\PL.length=j.length/\∀(i:Nat) (v:OC),j[i]?=cL v->∃q a k x,v=.ref q/\ks[i]?=cL (k,a,x)/\(∃as,QV s.heap (.ref a) k.1 as)/\s.heap.IsTuple q #[.ref a,x]
 |_,_,_,.nil,.nil=>⟨[],.nil,rfl,rfl,λi v e=>by simp at e⟩
 |_,_,_,.cons (q:=q) (b:=b) (k:=k) (v:=v) h dk t,.cons r rs=>by
  obtain⟨ks,h1,o,p,n⟩:=vA I t rs;obtain⟨w,rv,pl,_⟩:=I.tuple h;cases r;obtain⟨f,rfl,m⟩:∃f,w=[.ref b,f]/\RelV v f:=by
   cases rv with
   |cons a c=>cases a;cases c with
    |cons c d=>cases d;exact⟨_,rfl,c⟩
  refine⟨(k,b,f)::ks,.cons ⟨rfl,rfl,m⟩ h1,by rw[OQ,OQ,o],by rw[OQ,OQ,p],λi u e=>?_⟩;cases i with
  |zero=>cases e;exact⟨q,b,k,f,rfl,rfl,L2.DV.reads I dk rfl,pl⟩
  |succ i=>exact n i u (by simpa using e)
theorem call_dictLD{X:Cx}(E:X.calm=OG)(M:X.A.units+64<cLine):fy X (.type "dict") (vx X.K):=by
 intro d s F H xs G Q I r h;obtain⟨p,ys,PL,rfl,m,t,hn,q⟩:=h;obtain⟨u,rfl,g⟩:=lI r;cases g;obtain⟨P,rv,⟨o,n,w,b,a,C⟩,l⟩:=I.list m;obtain⟨ks,k1,k2,k,k3⟩:=vA I t rv;obtain⟨L,J,j,O⟩:=o;cases b;cases C;cases a;have z:=rv.length;refine kJ (ks:=ks) (by ext) (I.ok.hd E) w (by rw[O8];exact k2) (by rw[O8,<-z];exact l) (λi v e=>k3 i v (by simpa using e)) λN f dd B=>?_;refine⟨.ref s.heap.objs.size,_,I.laid (t':=f) (o:=DkO s.heap.objs.size (JV [] PL)) B (OJ _) ?_,rfl,q _ (I.QX.fresh (OJ _))⟩;refine oS ?_ (beq_eq_false_iff_ne.mpr (RB I.big)) (F3 k1 .nil) dd;have:=uF PL [];have:(1000000:Nat)<=Pd:=by decide
 rw[RI] at*;ext
def pairDD:D->cj (D×D)
 |.tuple [k,v]=>if keyD k=OG then cL (k,v)else CL
 |_=>CL
def pairsDL(ω:aG):SV->cj (cc (D×D))
 |.rf i=>match ω[i]? with
  |some (.lst xs)=>(aq Cw xs).bind λds=>aq pairDD ds
  |_=>CL
 |_=>CL
def mgD(PL ps:cc (D×D)):cc (D×D):=ps.foldl (λm p=>fC m p.1 p.2) PL
def ddlS(fe:cI):cI:=λρ ω=>(fe ρ ω).bind λx a=>(RS.Qf a (pairsDL a x)).bind λps a=>if ps.length<1000000 then .ok (.rf a.length) (a++[.dd (mgD [] ps)])else .bad
section
variable{B O O':aN}{K:Bn}{E:XK}{H H' H1 H2:Hp}{α α' Z α2:cc OL}{ω ω' ω1 ω2:aG}{σ:L2.St}{ρ:aE}{v:V}
theorem kO:∀{vs:cc V} {ds:cc D} {ps:cc (D×D)},L3.QC O K H vs ds->aq pairDD ds=cL ps->∃PL,PrsD K H vs PL/\PrD O K H PL ps/\vs.length=ps.length
 |_,_,_,.nil,e=>by cases e;exact⟨[],.nil,.nil,rfl⟩
 |_,_,ps,.cons (d:=d) (ds:=ds) hd ht,e=>by
  unfold aq at e;cases q:pairDD d with
  |none=>rw[q]at e;cases e
  |some p=>
   rw[q]at e;dsimp only at e;cases q2:aq pairDD ds with
   |none=>rw[q2]at e;cases e
   |some g=>
    rw[q2]at e;cases e;obtain⟨PL,k1,k2,k3⟩:=kO ht q2;unfold pairDD at q;split at q
    .rename_i k v
     split at q
     .rename_i f
      cases q;cases hd with
      | @tup a us _ sq hs=>
       cases hs with
       | @cons uk _ _ _ dk hs=>
        cases hs with
        | @cons uv _ _ _ dv hs=>
         cases hs;cases k with
         |tuple l=>
          cases dk with
          | @tup b bs _ sb hb=>exact⟨(⟨.tuple l,f⟩,b,uv)::PL,.cons sq.1 (.tup sb.1 (QC.plain hb)) k1,.cons ⟨rfl,.tup sb hb,dv⟩ k2,by rw[OQ,OQ,k3]⟩
         |_=>simp[keyD]at f
     .cases q
    .cases q
theorem zh:∀{PL:cc (KD×OL×V)} {ps:cc (D×D)} {xs:cc (KD×OL×V)} {m:cc (D×D)},PrD O K H PL ps->PrD O K H xs m->PrD O K H (JV xs PL) (mgD m ps)
 |_,_,_,_,.nil,h=>h
 |_,_,_,_,.cons (a:=p) (b:=q) hd t,h=>by
  obtain⟨h1,e,d⟩:=hd;have f:L3.DV O K H (.ref p.2.1) p.1.1:=by rw[h1];exact e
  have:=qN f d h;rw[h1]at this;have z:=zh t this;exact z
theorem eos_ddl{te:TE}{fe:cI}(k:c7 K E te fe):c7 K E (B8 (vx K) (c8 te iI)) (ddlS fe):=by
 intro B σ H α ω ρ Q s h w;refine k B σ H α ω ρ _ s h (w.bind.imp λx Z ω1 H1 e1 f g u j=>?_);obtain⟨ps,q,b⟩:=WS.Qf g;by_cases hn:ps.length<1000000
 case neg=>rw[ak hn]at b;exact b.elim
 rw[ai hn]at b;cases x with
 |fz d=>cases q
 |tp l=>cases q
 |rf i=>
  obtain⟨a,ha,rfl⟩:=j;unfold pairsDL at q;dsimp only at q;cases z:ω1[i]? with
  |none=>rw[z]at q;cases q
  |some c=>
   rw[z]at q;cases c with
   |lst xs=>
    dsimp only at q;obtain⟨vs,h1,n⟩:=f.UO i a _ ha z;cases q2:aq Cw xs with
    |none=>rw[q2]at q;cases q
    |some ds=>rw[q2]at q;obtain⟨PL,k1,k2,k3⟩:=kO (vq n q2) q;exact⟨a,vs,PL,rfl,Tw.of h1,k1,by ext,λd m=>rY f m b λe=>⟨_,ay,zh (sQ e.ev k2) .nil⟩⟩
   |_=>cases q
end
end LD
namespace LD
open PySem PyProof.Rows L2 L3 L10
def mU(a:OL)(vs:cc V):HO:=.ext λh=>vs.length<=Pd/\∃(b:cc OC) (n:Nat),Vals vs b/\h.get? a=cL {cls:=.type "list",data:=.seq b.toArray n}
theorem KO{P:Pa}{w:Pz}{H H':Hp}{h:Heap}{a:OL}{vs:cc V}(o:Qt P w H' h a (.lst vs)):Qt P w H h a (mU a vs):=by obtain⟨z,b,n,r,g⟩:=o;refine⟨⟨z,b,n,r,g⟩,⟨_,g⟩,?_⟩;rintro e d ⟨z,b,n,r,g⟩ k;exact⟨z,b,n,r,k _ g⟩
theorem GL{P:Pa}{w:Pz}{H H':Hp}{h:Heap}{a:OL}{vs:cc V}(o:Qt P w H h a (mU a vs)):Qt P w H' h a (.lst vs):=o.1
def Nc(a:OL)(vs:cc V):It:=
 ⟨λi H=>H a=cL (mU a vs)/\i<vs.length,λi H x b=>b=H/\vs[i]?=cL x,λi H=>H a=cL (mU a vs)/\vs.length<=i⟩
theorem Cp{P:Pa}{w:Pz}{K:Bn}{tg:Po}(a j:OL)(vs:cc V):Turn P w K tg (Nc a vs) [j] j (λi h=>h.IsListIter j a i) where
 mem:=by simp
 obj:=λi h st b l=>by
  have e:b=j:=by simpa using l
  subst e;obtain⟨o,e,c,d⟩:=st;exact⟨o,e,λv z=>by rw[d]at z;cases z⟩
 keep:=λi h p st k=>st.at λo e=>k j (by simp) o e
 item:=by intro X B q C Q i f s N H E I m st t;subst B q C;obtain⟨A,hi⟩:=t;obtain⟨⟨z,T,n,r,g⟩,_,_⟩:=(show Qt X.prog X.w H s.heap a (mU a vs)from I.QX a _ A);obtain⟨x,O⟩:∃x,vs[i]?=cL x:=⟨vs[i],OY hi⟩;obtain⟨u,Z,Y⟩:=r.get O;obtain⟨M,L,f2,J,G,F⟩:=m j (by simp);refine Wq st ⟨_,g,rfl,n,rfl⟩ (by simpa using Z) λp S U=>?_;have I1:Inv X f N H {s with heap:=p}:=I.turned (t':=s.toks) (λb o l e=>(U.2 b l).trans e) M L J G F;obtain⟨o,e,c,d⟩:=id S;exact⟨u,rfl,qH (s:={s with heap:=p}) e c d (by decide) ⟨x,H,I1,Y,⟨rfl,O⟩,S,λb l=>(m b l).1⟩⟩
 done:=by intro X B q C Q i f s N H E I m st t;subst B q C;obtain⟨A,hi⟩:=t;obtain⟨⟨z,T,n,r,g⟩,_,_⟩:=(show Qt X.prog X.w H s.heap a (mU a vs)from I.QX a _ A);obtain⟨M,L,f2,J,G,F⟩:=m j (by simp);have hl:=r.length;exact W8 (I.ok.hd Q) st ⟨_,g,rfl,n,rfl⟩ (by simp;ext) λp eb=>⟨rfl,I.turned (t':=s.toks) (λb o l e=>eb b o l e) M L J G F⟩
 self:=λ_ _ _ _ _ st h=>W9 st h
def iPinL(e:TE):TI:=λd H R=>e d H λx b=>∃a vs,x=.ref a/\b a=cL (.lst vs)/\R (Nc a vs) (upd b a (mU a vs))
def tUnpL(t:TE):TE:=λd H Q=>t d H λx b=>∃a vs,b a=cL (mU a vs)/\Q x (upd b a (.lst vs))
def E3(t:TS):TS:=λD e H=>t {nx:=λd b=>∃a vs,b a=cL (mU a vs)/\D.nx d (upd b a (.lst vs)),rt:=λv b=>∃a vs,b a=cL (mU a vs)/\D.rt v (upd b a (.lst vs)),bk:=λ_ _=>False,ct:=λ_ _=>False} e H
section
variable{X:Cx}{tg:Po}
theorem kQ{d:cc (OL×Obj)}{f:L2.St}{H:Hp}{s:OK}{a:OL}{vs:cc V}(I:Inv X d f H s)(hd:H a=cL (mU a vs)):Inv X d f (upd H a (.lst vs)) s:=by have o:=(show Qt X.prog X.w H s.heap a (mU a vs)from I.QX a _ hd);obtain⟨⟨z,h,n,r,g⟩,_,_⟩:=id o;exact I.write (x:=a) (e:=a) (o:=.lst vs) (t':=s.toks) (h':=s.heap) (by rw[hd];trivial) (.inl rfl) (λb u _ e=>e) ⟨_,g⟩ (GL o)
theorem pi_pinL{l:Po}{m:TE}(F:PE X l m):PI X tg l (iPinL m):=by
 intro f s A H R I h;refine bK (F f s A H _ I h) λv d ⟨x,t,j,B,C⟩=>?_;obtain⟨a,vs,e,i,q⟩:=C;subst e;cases B;have E:Qt X.prog X.w t d.heap a (.lst vs):=j.QX a _ i;obtain⟨z,K,n,r,g⟩:=id E;refine SF ⟨_,g,rfl,n,rfl⟩ ?_;have k:∀b o,d.heap.get? b=cL o->(d.heap.push {cls:=.type "list_iterator",data:=.fields #[.ref a,.int 0 0]}).get? b=cL o:=λb o e=>c0 _ e;have p:=j.kept (t':=d.toks) k;have J:=p.write (x:=a) (e:=a) (o:=mU a vs) (t':=d.toks) (h':=d.heap.push {cls:=.type "list_iterator",data:=.fields #[.ref a,.int 0 0]}) (by rw[i];trivial) (.inl rfl) (λb u _ e=>e) ⟨_,k _ _ g⟩ (KO (show Qt X.prog X.w t _ a (.lst vs)from p.QX a _ i));refine⟨d.heap.objs.size,[d.heap.objs.size],_,_,_,rfl,J,Cp a _ vs,⟨_,c4 _ rfl,rfl,rfl⟩,λb G=>?_,q⟩;have e:b=d.heap.objs.size:=by simpa using G
 subst e;have hn:=j.QX.fresh (OJ d.heap.objs.size);refine j.VY (OJ _) ?_;rw[au (λz=>by rw[z,i]at hn;cases hn)];exact hn
theorem pe_unpL{l:Po}{d:TE}(g:PE X l d):PE X l (tUnpL d):=by intro b s e H Q I h;exact bK (g b s e H _ I h) λv k ⟨x,m,j,f,a,vs,i,q⟩=>⟨x,_,kQ j i,f,q⟩
theorem ps_unpL{st:Rk}{t:TS}(h:PS X st t):PS X st (E3 t):=by
 intro d s i H D I w;refine bK (h d s i H _ I w) λf k q=>?_;cases f with
 |next=>obtain⟨b,j,g,a,vs,e,q⟩:=q;exact⟨b,_,kQ g e,q⟩
 |brk=>obtain⟨_,_,_,q⟩:=q;exact q.elim
 |cont=>obtain⟨_,_,_,q⟩:=q;exact q.elim
 |ret u=>obtain⟨v,b,j,g,r,a,vs,e,q⟩:=q;exact⟨v,b,_,kQ g e,r,q⟩
end
def lstI(ω:aG):SV->cj (Nat×cc SV)
 |.rf i=>match ω[i]? with
  |some (.lst xs)=>cL (i,xs)
  |_=>CL
 |_=>CL
section
variable{B O O':aN}{K:Bn}{E:XK}{H H' U M:Hp}{S T Z X:cc OL}{ω P ω1 Y:aG}{N:L2.St}{ρ:aE}{v:V}{a:OL}{φ:Heap->Prop}
theorem vQ{x:SV}{i:Nat}{xs:cc SV}(s:StoOk B K H S ω)(e:Sl (ow B S ω) K H S v x)(h:lstI ω x=cL (i,xs)):ω[i]?=cL (.lst xs)/\∃a vs,S[i]?=cL a/\v=.ref a/\H a=cL (.lst vs)/\Rv (ow B S ω) K H S vs xs:=by
 cases x with
 |fz d=>cases h
 |tp l=>cases h
 |rf j=>
  obtain⟨a,ha,rfl⟩:=e;unfold lstI at h;dsimp only at h;cases q:ω[j]? with
  |none=>rw[q]at h;cases h
  |some c=>
   rw[q]at h;cases c with
   |lst ys=>have z:=Pr h;cases z;obtain⟨b,h1,f⟩:=s.UO i a _ ha q;exact⟨q,a,b,ha,rfl,h1,f⟩
   |_=>cases h
theorem vY(s:StoOk B K H S ω){i:Nat}{vs:cc V}{xs:cc SV}(ha:S[i]?=cL a)(g:H a=cL (.ext φ))(k:Rv (ow B S ω) K H S vs xs):StoOk B K (upd H a (.lst vs)) S (ω.set i (.lst xs)):=by
 have e:B4 a (ow B S ω) H (ow B S (ω.set i (.lst xs))) (upd H a (.lst vs)):=v4 s ha;refine⟨by rw[Qq];exact s.len,s.nd,λb h=>ju (s.bn b h),s.ba,λj b h=>ju (s.al j b h),λj b d h1 f=>?_⟩;rcases aP f with⟨rfl,rfl⟩|⟨l,f⟩
 .rw[ha]at h1;cases h1;exact⟨vs,ay,Paired.SE k λ_ _ q=>Sl.Uj g e q⟩
 .exact(s.UO j b d h1 f).Uj g e λu q=>by rw[au (λz=>l (s.nd j i a (by rw[<-z];exact h1) ha))];exact q
theorem p7{i:Nat}{ws:cc V}{xs ys:cc SV}(ha:Z[i]?=cL a)(k:ω1[i]?=cL (.lst xs))(e3:QN Z ω1 U Z (ω1.set i .dead) M)(e:QN Z (ω1.set i .dead) M T P H')(j:StoOk B K H' T P)(l:T[i]?=cL a):QN Z ω1 U T (P.set i (.lst ys)) (upd H' a (.lst ws)):=by
 have d:Lv Z ω1 a:=⟨i,_,ha,k,by intro z;cases z⟩;refine⟨e.pre,λb o h f=>?_,λb z=>?_⟩
 .have g:b≠a:=λz=>f (by rw[z];exact d);rw[au g];exact e.kp b o (e3.kp b o h f) λz=>f (kz z)
 .rcases BM j l z with rfl|z
  .exact .inl d
  .rcases e.lv b z with z|z
   .exact .inl (kz z)
   .by_cases g:b=a
    .rw[g];exact .inl d
    .cases q:U b with
     |none=>exact .inr rfl
     |some o=>refine .inl (Classical.byContradiction λn=>?_);rw[e3.kp b o q n]at z;cases z
theorem BR{i:Nat}{vs:cc V}{xs:cc SV}{ds:cc D}(s1:StoOk B K U Z ω1)(ha:Z[i]?=cL a)(b:ω1[i]?=cL (.lst xs))(m:Rv (ow B Z ω1) K U Z vs (ds.map .fz)):
  StoOk B K (upd U a (mU a vs)) Z (ω1.set i .dead)/\QN Z ω1 U Z (ω1.set i .dead) (upd U a (mU a vs))/\oE K (Nc a vs) (ow B Z (ω1.set i .dead)) (upd U a (mU a vs)) ds:=by
 have nd:(Cell.lst xs)≠.dead:=by intro z;cases z
 have g:StoOk B K (upd U a (mU a vs)) Z (ω1.set i .dead):=s1.pin ha b nd;have e3:QN Z ω1 U Z (ω1.set i .dead) (upd U a (mU a vs)):=QN.pin ha b nd;have l:¬ow B Z (ω1.set i .dead) a:=s1.U4 ha;have f:L3.QC (ow B Z (ω1.set i .dead)) K (upd U a (mU a vs)) vs ds:=nH (Rv.R9 e3 m);refine⟨g,e3,?_⟩;intro O' H' e o;have h1:=(e a _ ay l).1;have n:=f.ev e;have p:vs.length=ds.length:=f.length;refine⟨λj q=>⟨⟨h1,by ext⟩,?_⟩,h1,by ext⟩;rintro y r ⟨rfl,hy⟩;obtain⟨d,k,h⟩:=n.WJ hy;exact⟨QL.refl _,d,k,h⟩
def compLS(n:Nat)(fj:cc Nat)(fd:cI)(gt:kR)(ft:lY)(fe:cI):cI:=λρ ω=>(fd ρ ω).bind λo ω1=>(RS.Qf ω1 (lstI ω1 o)).bind λp ω1=>(RS.Qf ω1 (aq ms p.2)).bind λds ω1=>(gA (bu gt ft fe ds (fA n fj ρ) (ω1.set p.1 .dead) [])).bind λxs Y=>.ok (.rf Y.length) (VL (Y++[Cell.lst xs]) p.1 (Cell.lst p.2))
theorem eos_compL{own:cc Str}{q:cc (Str×Nat)}{h:TE}{g:TG}{j:TT}{te:TE}{fd:cI}{gt:kR}{ft:lY}{fe:cI}{n:Nat}{fj:cc Nat}(hn:own.length=n)(hf:q.map (·.2)=fj)
  (hd:c7 K E h fd) (hg:yc K E0 g gt) (ht:sw K E0 j ft) (he:c7 K E0 te fe):c7 K E (tUnpL (mX own q (iPinL h) g j te)) (compLS n fj fd gt ft fe):=by
 intro B N H S ω ρ Q s k w;refine hd B N H S ω ρ _ s k (w.bind.imp λo Z ω1 U e1 f b u L=>?_);obtain⟨⟨i,ys⟩,F,b⟩:=WS.Qf b;obtain⟨ds,C,b⟩:=WS.Qf b;obtain⟨m,a,vs,ha,rfl,g1,p⟩:=vQ f L F;refine⟨a,vs,rfl,g1,?_⟩;have g3:Rv (ow B Z ω1) K U Z vs (ds.map .fz):=by rw[<-iZ C];exact p
 obtain⟨A,e3,I⟩:=BR f ha m g3;have G:¬ow B Z (ω1.set i .dead) a:=f.U4 ha;refine xV (E:=E) (Q:=λx H'=>∃a vs,H' a=cL (mU a vs)/\Q x (upd H' a (.lst vs))) hn hf hg ht he A ((k.R9 e1).R9 e3) I ?_;dsimp only at b;cases qr:bu gt ft fe ds (fA n fj ρ) (ω1.set i .dead) []with
 |er x d=>rw[qr]at b;exact b.elim
 |bad=>rw[qr]at b;exact b.elim
 |ok xs d=>rw[qr]at b;have b:WS K E B U Z ω1 (PQ B K Q) (.ok (.rf d.length) (VL (d++[Cell.lst xs]) i (Cell.lst ys))):=b;intro T H' e l v J;have r:=e.kp a _ ay λz=>G (.inr z);have t:=e.pre i a ha;refine⟨a,vs,r,b T (upd H' a (.lst vs)) (p7 ha m e3 e l t) (vY l t r ((Rv.R9 e3 p).R9 e)) v J⟩
theorem A7{g:TG}{gt:kR}{tb:TS}{b:fR}{J:It}{ds:cc D}{D:Ends}(hg:yc K E g gt)(hb:l6 K E tb b)(s1:StoOk B K U Z ω1)(XM:Ru (ow B Z ω1) K U Z N ρ)(it:oE K J (ow B Z ω1) U ds)(Q:WS K E B U Z ω1 (iC B K D) (fq gt b ds ρ ω1)):wP (λN H R=>R J H) g tb D N U:=by
 refine⟨λi m f H'=>m=ds.length - i/\i<=ds.length/\∃X Y ρ2,QN Z ω1 U X Y H'/\StoOk B K H' X Y/\Ru (ow B X Y) K H' X f ρ2/\WS K E B H' X Y (iC B K D) (fq gt b (ds.drop i) ρ2 Y),⟨_,rfl,P0 _,Z,ω1,ρ,.refl,s1,XM,Q⟩,?_⟩;rintro i m l M ⟨rfl,hi,X,Y,ρ2,e2,s2,Vb,w2⟩;obtain⟨go,n⟩:=it (ow B X Y) M e2.ev s2.Vt;by_cases r:i<ds.length
 .obtain⟨g1,g2⟩:=go i r
  refine .inr ⟨g1,λf H'=>i+1<=ds.length/\∃X Y ρ2,QN Z ω1 U X Y H'/\StoOk B K H' X Y/\Ru (ow B X Y) K H' X f ρ2/\WS K E B H' X Y (iC B K D) (fq gt b (ds.drop (i+1)) ρ2 Y),λf H' ⟨h1,h2⟩=>⟨ds.length - (i+1),by ext,rfl,h1,h2⟩,λx F y=>?_⟩;obtain⟨G,d,hd,dv⟩:=g2 x F y;have ed:ds.drop i=d::ds.drop (i+1):=by obtain⟨_,q⟩:=OI.mp hd;rw[Ql r,q]
  rw[ed]at w2;have e3:QN X Y M X Y F:=QN.same G;refine hg B l F X Y ρ2 x (.fz d) _ (s2.grow G) (Vb.R9 e3) dv (WS.imp (WS.bind (WS.from e3 w2)) λz A t H4 e4 s4 L w Zb=>?_);refine hb B w H4 A t z _ s4 Zb (WS.imp (WS.bind L) λfl k j H5 e5 p o=>?_);have I:QN Z ω1 U k j H5:=e2.trans (e3.trans (e4.trans e5));cases fl with
  |nx h=>exact λu C=>⟨r,k,j,h,I,p,C,o⟩
  |ct h=>exact λu C=>⟨r,k,j,h,I,p,C,o⟩
  |bk h=>exact WS.now (E:=E) p o
  |rt x=>exact WS.now (E:=E) p o
 .have e:i=ds.length:=by ext
  subst e;rw[QD (OJ _)]at w2;exact .inl ⟨n,WS.now (E:=E) s2 w2 l Vb⟩
def forLS(fd:cI)(gt:kR)(b:fR):fR:=λρ ω=>(fd ρ ω).bind λo ω1=>(RS.Qf ω1 (lstI ω1 o)).bind λp ω1=>(RS.Qf ω1 (aq ms p.2)).bind λds ω1=>(fq gt b ds ρ (ω1.set p.1 .dead)).bind λd Y=>match d with
 |.nx ρ2=>.ok (.nx ρ2) (Y.set p.1 (.lst p.2))
 |.rt x=>.ok (.rt x) (Y.set p.1 (.lst p.2))
 |_=>.bad
theorem sos_forL{r:TE}{g:TG}{tb:TS}{fd:cI}{gt:kR}{b:fR}(hd:c7 K E r fd)(hg:yc K E g gt)(hb:l6 K E tb b):l6 K E (E3 (wP (iPinL r) g tb)) (forLS fd gt b):=by
 intro B N H S ω ρ D s t w;refine hd B N H S ω ρ _ s t (WS.imp (WS.bind w) λo Z ω1 U e1 p d u hu=>?_);obtain⟨⟨i,ys⟩,Q,d⟩:=WS.Qf d;obtain⟨ds,L,d⟩:=WS.Qf d;obtain⟨A,a,vs,ha,rfl,g1,C⟩:=vQ p hu Q;refine⟨a,vs,rfl,g1,?_⟩;have g3:Rv (ow B Z ω1) K U Z vs (ds.map .fz):=by rw[<-iZ L];exact C
 obtain⟨J,e3,it⟩:=BR p ha A g3;have na:¬ow B Z (ω1.set i .dead) a:=p.U4 ha;refine A7 hg hb J ((t.R9 e1).R9 e3) it ?_;dsimp only at d;cases qr:fq gt b ds ρ (ω1.set i .dead)with
 |bad=>rw[qr]at d;exact d.elim
 |er x f=>rw[qr]at d;exact λc dx T H' e l I=>d c dx T H' (e3.trans e) l I
 |ok fl f=>
  rw[qr]at d;intro T H' e l;have m:=e.kp a _ ay λz=>na (.inr z);have q:=e.pre i a ha;have bk:=p7 (ws:=vs) (ys:=ys) ha A e3 e l q;have rv:=vY l q m ((Rv.R9 e3 C).R9 e);have F:B4 a (ow B T f) H' (ow B T (f.set i (.lst ys))) (upd H' a (.lst vs)):=v4 l q;cases fl with
  |nx k=>have d:WS K E B U Z ω1 (iC B K D) (.ok (.nx k) (f.set i (.lst ys))):=d;exact λn G=>⟨a,vs,m,d T _ bk rv n ⟨G.1,λj x h=>let⟨v,h1,h2⟩:=G.2 j x h;⟨v,h1,Sl.Uj m F h2⟩⟩⟩
  |rt x=>have d:WS K E B U Z ω1 (iC B K D) (.ok (.rt x) (f.set i (.lst ys))):=d;exact λv hv=>⟨a,vs,m,d T _ bk rv v (Sl.Uj m F hv)⟩
  |bk k=>exact d.elim
  |ct k=>exact d.elim
end
end LD
namespace PySem
namespace SetTable
def ND(xs:Array Nat):Prop:=xs.toList.Pairwise (·<·)
structure TI(b:Bool)(t:SetTable):Prop where
 led:t.led=b
 dm:t.dummies= #[]
 ris:ND t.place
end SetTable
end PySem
namespace PySem
open SetTable
section
variable{prog:Pa}{w:Pz}{K:Type}[DecidableEq K]{knd:KeyKind prog w K}{A:Pp}{E:OC->OK->Prop}{s:OK}{b:Bool}{a:OL}{es:Array (Int×OC)}
structure SetX(knd:KeyKind prog w K)(b:Bool)(h:Heap)(a:OL)(es:Array (Int×OC)):Prop where
 x:∃o ep t,h.get? a=cL o/\o.ExactSet/\o.data=.set es ep t/\t.fits es.size=OG/\TI b t
 el:ElemsOf knd es.toList
 sz:es.size<scanBound
end
end PySem
namespace PySem
namespace SetTable
structure TT(t:SetTable)(n:Nat):Prop where
 k:∃k,t.mask+1=2^k
 dm:t.dummies= #[]
 ris:ND t.place
 le:∀v∈t.place.toList,v<=t.mask
 sz:t.place.size=n
 few:n*5<t.mask*3
section
variable{t:SetTable}{n:Nat}{p:Probe}
structure PI(t:SetTable)(p:Probe):Prop where
 nine:p.more<=9
 jm:p.j+p.more<=t.mask
 pt:p.perturb<2^64
 dm:p.dummy=CL
end
end SetTable
end PySem
namespace LD
open PySem PySem.SetTable PyProof.Rows L2 L3
section
variable{prog:Pa}{w:Pz}{E:OC->OK->Prop}
variable{A:Pp}{s:OK}
structure SetH(prog:Pa)(w:Pz)(b:Bool)(h:Heap)(a:OL)(es:Array (Int×OC))(ks:cc (KD×OL)):Prop where
 x:∃o ep t,h.get? a=cL o/\o.ExactSet/\o.data=.set es ep t/\TT t es.size/\t.led=b/\t.mask<=8*es.size+8
 el:∀e∈es.toList,∃k c,(k,c)∈ks/\e.2=.ref c/\(a8 prog w).is h k c
mutual
theorem wW{h h':Heap}{x:OL}{b:Obj}(e:h.get? x=cL b)(g:∀vs n,b.data≠.seq vs n)(f:Heap.SameBut x h h'):∀(d:OD) (v:OC) (as:cc OL),kd d=OG->QV h v d as->QV h' v d as
 |.none,_,_,_,r=>by cases r;exact .none
 |.int _,_,_,_,r=>by cases r;exact .int _ _
 |.str _,_,_,_,r=>by cases r;exact .str _ _
 |.tuple xs,_,_,k,r=>by
  cases r with
  | @tuple a o vs n _ _ h1 h2 h3 h4=>
   have i:a≠x:=by rintro rfl;rw[e]at h1;cases h1;exact g _ _ h3
   unfold kd at k;exact .tuple ((f.2 a i).trans h1) h2 h3 (l4 e g f xs _ _ k h4)
 |.bool _,_,_,h,_|.list _,_,_,h,_|.dict _,_,_,h,_=>by simp[kd]at h
theorem l4{h h':Heap}{x:OL}{a:Obj}(b:h.get? x=cL a)(f:∀vs n,a.data≠.seq vs n)(e:Heap.SameBut x h h'):∀(ds:cc OD) (vs:cc OC) (as:cc OL),kds ds=OG->QW h vs ds as->QW h' vs ds as
 |[],_,_,_,r=>by cases r;exact .nil
 |d::ds,_,_,k,r=>by
  cases r with
  |cons i g=>unfold kds at k;rw[Ld]at k;exact .cons (wW b f e d _ _ k.1 i) (l4 b f e ds _ _ k.2 g)
end
end
end LD
namespace L2
open PySem PySem.Spec PyProof.Rows
variable{X:Cx}{a b:Po}{rest:cc Po}{pos:Pos}{ta tb:TE}
end L2
namespace CC
open PySem L2 L3 L10
def fZ:Po->Bool
 |.BinOp .. |.UnaryOp .. |.IfExp .. |.ListComp .. |.Compare .. |.Call .. |.Constant .. |.Attribute .. |.Subscript .. |.Name .. |.List .. |.Tuple .. |.BoolOp .. |.JoinedStr .. |.Dict .. =>OG
 |_=>OP
def NM:Po->Bool
 |.BinOp .. |.Call .. |.Attribute .. |.Subscript .. |.Name .. =>OG
 |_=>OP
def Jq:Po->Bool
 |.ListComp .. =>OG
 |_=>OP
def MQ:Po->Bool
 |.Constant .. |.Attribute .. |.Subscript .. |.Name .. =>OG
 |_=>OP
section
variable{e o a b:Po}{es:cc Po}{env:Env}{pos p:Pos}{n k:Nat}
theorem gl(h:fZ e=OG):PZ (e::es) env=(OP,eval e env)::PZ es env:=by cases e<;>first|rfl|cases h
theorem pP(h:fZ e=OG):uU e:=by cases e<;>first|(intro _ _;rfl)|cases h
theorem nQ(h:fZ e=OG):∀x,foldedSetIterable e env x=pure x:=by cases e<;>first|(intro _;rfl)|cases h
theorem EN(h:NM e=OG):∀whole:Sem OC,isTrue e env whole=(do let v<-whole;standAt e.pos;holding [v] (truthy v)):=by cases e<;>first|(intro _;rfl)|cases h
theorem uj{t}(h:(fZ e&& !Jq e)=OG):UP e t n env=pure OP:=by cases e<;>first|rfl|cases h
theorem LV(h:fZ e=OG):UP e (cL (.Subscript o a p)) n env=pure OP:=by cases e<;>first|rfl|cases h
theorem gv{f:Str}(h:MQ e=OG):attributeBase e f env (eval e env)=eval e env:=by cases e<;>first|rfl|cases h
theorem Ik(h:es.all fZ=OG):((backTo pos (PZ es env)).any λx=>x.1)=OP:=by
 induction es with
 |nil=>rfl
 |cons e es d=>rw[QZ,Ld]at h;rw[gl h.1];exact d h.2
theorem Jo(h:es.all fZ=OG):((backTo pos (PZ es env)).all λx=> !x.1)=OG:=by
 induction es with
 |nil=>rfl
 |cons e es d=>rw[QZ,Ld]at h;rw[gl h.1];exact d h.2
theorem da(h:(e::es).all fZ=OG):PZ (e::es) env=(OP,eval e env)::PZ es env:=by rw[QZ,Ld]at h;exact gl h.1
theorem mG(h:(e::es).all fZ=OG):((backTo pos (PZ es env)).any λx=>x.1)=OP:=by rw[QZ,Ld]at h;exact Ik h.2
theorem oC(h:es.all fZ=OG)(d:es.length<20):methodCallForm (es.length+([]:cc TF).length) (backTo pos (PZ es env)) (backToKw pos (keywordEach [] env))=OG:=by unfold methodCallForm;rw[Jo h,Rg];refine(Ld _ _).mpr ⟨rfl,a6 ?_⟩;show es.length+0+0<30;ext
end
theorem aR{α:Type}{o:cj α}{p:α->Bool}(h:o.any p=OG):∃x,o=cL x/\p x=OG:=by
 cases o with
 |none=>cases h
 |some x=>exact⟨x,rfl,h⟩
theorem mz{α:Type}{P:α->Prop}{o:cj α}(k:o.elim True P){x:α}(h:o=cL x):P x:=by subst h;exact k
def vN:Po->cj (Str×Pos)
 |.Name x p=>cL (x,p)
 |_=>CL
def vC:Po->cj Const
 |.Constant c _ _=>cL c
 |_=>CL
def KZ:Po->cj (Po×Xv×Po)
 |.BinOp a o b _=>cL (a,o,b)
 |_=>CL
def Lg:Po->cj (Po×cc Wc×cc Po)
 |.Compare a o b _=>cL (a,o,b)
 |_=>CL
def rJ:Po->cj (Po×Po×Pos)
 |.Subscript a b p=>cL (a,b,p)
 |_=>CL
def MU:Po->cj (cj Po×cj Po×cj Po)
 |.Slice a b c _=>cL (a,b,c)
 |_=>CL
def zQ:Po->cj (cc Po)
 |.Tuple es _ _=>cL es
 |_=>CL
def Km:Po->cj (cc Po)
 |.List es _=>cL es
 |_=>CL
def zu:Po->cj (Po×cc Po×cc TF×Pos)
 |.Call f es ks p=>cL (f,es,ks,p)
 |_=>CL
def Nx:Po->cj (Po×Str×Pos)
 |.Attribute o x p=>cL (o,x,p)
 |_=>CL
def MJ:Po->cj (BoolOp×cc Po×Pos)
 |.BoolOp o es p=>cL (o,es,p)
 |_=>CL
def Mg:Po->cj (UnaryOp×Po)
 |.UnaryOp o a _=>cL (o,a)
 |_=>CL
def NC:Po->cj (Po×cc Sm×Q1×Pos)
 |.ListComp e g s p=>cL (e,g,s,p)
 |_=>CL
def ME:Po->cj (cc (cj Po)×cc Po)
 |.Dict k v _=>cL (k,v)
 |_=>CL
section
variable{e:Po}
theorem ny(h:vN e=cL x):e=.Name x.1 x.2:=mz (P:=λx=>e=.Name x.1 x.2) (by cases e<;>first|exact trivial|rfl|exact⟨_,rfl⟩|exact⟨_,_,rfl⟩) h
theorem zA(h:vC e=cL x):∃k p,e=.Constant x k p:=mz (P:=λx=>∃k p,e=.Constant x k p) (by cases e<;>first|exact trivial|rfl|exact⟨_,rfl⟩|exact⟨_,_,rfl⟩) h
theorem Dj(h:KZ e=cL x):∃p,e=.BinOp x.1 x.2.1 x.2.2 p:=mz (P:=λx=>∃p,e=.BinOp x.1 x.2.1 x.2.2 p) (by cases e<;>first|exact trivial|rfl|exact⟨_,rfl⟩|exact⟨_,_,rfl⟩) h
theorem EL(h:Lg e=cL x):∃p,e=.Compare x.1 x.2.1 x.2.2 p:=mz (P:=λx=>∃p,e=.Compare x.1 x.2.1 x.2.2 p) (by cases e<;>first|exact trivial|rfl|exact⟨_,rfl⟩|exact⟨_,_,rfl⟩) h
theorem gu(h:rJ e=cL x):e=.Subscript x.1 x.2.1 x.2.2:=mz (P:=λx=>e=.Subscript x.1 x.2.1 x.2.2) (by cases e<;>first|exact trivial|rfl|exact⟨_,rfl⟩|exact⟨_,_,rfl⟩) h
theorem y9(h:MU e=cL x):∃p,e=.Slice x.1 x.2.1 x.2.2 p:=mz (P:=λx=>∃p,e=.Slice x.1 x.2.1 x.2.2 p) (by cases e<;>first|exact trivial|rfl|exact⟨_,rfl⟩|exact⟨_,_,rfl⟩) h
theorem oB(h:zQ e=cL x):∃k p,e=.Tuple x k p:=mz (P:=λx=>∃k p,e=.Tuple x k p) (by cases e<;>first|exact trivial|rfl|exact⟨_,rfl⟩|exact⟨_,_,rfl⟩) h
theorem Et(h:Km e=cL x):∃p,e=.List x p:=mz (P:=λx=>∃p,e=.List x p) (by cases e<;>first|exact trivial|rfl|exact⟨_,rfl⟩|exact⟨_,_,rfl⟩) h
theorem si(h:zu e=cL x):e=.Call x.1 x.2.1 x.2.2.1 x.2.2.2:=mz (P:=λx=>e=.Call x.1 x.2.1 x.2.2.1 x.2.2.2) (by cases e<;>first|exact trivial|rfl|exact⟨_,rfl⟩|exact⟨_,_,rfl⟩) h
theorem Jc(h:Nx e=cL x):e=.Attribute x.1 x.2.1 x.2.2:=mz (P:=λx=>e=.Attribute x.1 x.2.1 x.2.2) (by cases e<;>first|exact trivial|rfl|exact⟨_,rfl⟩|exact⟨_,_,rfl⟩) h
theorem zv(h:MJ e=cL x):e=.BoolOp x.1 x.2.1 x.2.2:=mz (P:=λx=>e=.BoolOp x.1 x.2.1 x.2.2) (by cases e<;>first|exact trivial|rfl|exact⟨_,rfl⟩|exact⟨_,_,rfl⟩) h
theorem ub(h:Mg e=cL x):∃p,e=.UnaryOp x.1 x.2 p:=mz (P:=λx=>∃p,e=.UnaryOp x.1 x.2 p) (by cases e<;>first|exact trivial|rfl|exact⟨_,rfl⟩|exact⟨_,_,rfl⟩) h
theorem Iq(h:NC e=cL x):e=.ListComp x.1 x.2.1 x.2.2.1 x.2.2.2:=mz (P:=λx=>e=.ListComp x.1 x.2.1 x.2.2.1 x.2.2.2) (by cases e<;>first|exact trivial|rfl|exact⟨_,rfl⟩|exact⟨_,_,rfl⟩) h
theorem Bj(h:ME e=cL x):∃p,e=.Dict x.1 x.2 p:=mz (P:=λx=>∃p,e=.Dict x.1 x.2 p) (by cases e<;>first|exact trivial|rfl|exact⟨_,rfl⟩|exact⟨_,_,rfl⟩) h
end
abbrev Fd:=Pa->Pz->Bn->(Str->cj OC)->Heap->Prop
abbrev SW(lv:Nat)(x:Str)(ps:cc Str)(n:Nat)(F:FN):Fd:=λP w K b a=>MD P w K b a lv x ps n F
abbrev Wn(lv:Nat)(x:Str)(ps:cc Str)(n:Nat)(F:kh):Fd:=λP w K b a=>rA P w K b a lv x ps (x9 K n F)
abbrev N3(rz:Bool)(lv:Nat)(C x:Str)(ps:cc Str)(n:Nat)(F:kh):Fd:=λP w K b a=>HF P w K b a (if rz then L4.Dm P w else jC) lv C x ps (x9 K n F)
abbrev N9(lv:Nat)(C:Str)(ps:cc Str)(n:Nat)(F:kh):Fd:=λP w K b a=>F9 P w K b a jC lv C ps (x9 K n F)
structure Md where
 bl:cc Str
 ex:cc Str
 cs:cc (Str×D)
 cl:cc (Str×cc Str)
structure Gm where
 M:Md
 N:cc Str
 sc:cc (Str×Pg)
 lv:Nat
 rz:Bool
 fa:Bool
 fc:cc Str
 top:Nat
abbrev KB:cc OC:=[.type "ValueError",.type "Exception",.type "BaseException",.type "object"]
structure WW(K:Bn)(mg:Str->cj OC)(M:Md):Prop where
 bl:∀x∈M.bl,mg x=CL
 ex:∀x∈M.ex,∃C,Qr K PK x=cL (cL (.ref C))/\mg x=cL (.ref C)/\Uz K C KB "ValueError.__new__"=OG
 cs:∀x d,M.cs.lookup x=cL d->∃v u,mg x=cL u/\RelV v u/\∀O H,DV O K H v d
 cl:∀C L,M.cl.lookup C=cL L->KS K C L
structure Ct(T:cc Fd)(Γ:Gm)(X:Cx)(E:XK):Prop where
 n:X.N=Γ.N
 nd:X.N.Nodup
 sc:X.env.scope.names=Γ.sc
 kd:X.env.scope.kind=.function
 cm:X.calm=OG
 rm:RK Γ.lv X.A
 po:Γ.fa=OG->We (model X.prog X.w) X.A X.env X.xe
 px:Γ.rz=OG->∃(N:cc Str) (qual:Str) (scope:Q1) (f:OL) (cd:OC) (A:Pp) (outer:cc Env) (s0:OK) (H0:Hp),X=iz (L4.Dm X.prog X.w) X.prog X.w X.K X.mg X.base N qual scope f cd A outer s0 H0 E
 fc:∀x∈Γ.fc,X.fn x=OG
 md:WW X.K X.mg Γ.M
 fs:∀i fd,i<Γ.top->T[i]?=cL fd->fd X.prog X.w X.K X.mg X.base
def Kq(s:cc (Str×Pg))(x:Str):Bool:=s.lookup x==cL .local||s.lookup x==cL .cell||s.lookup x==cL .free
def Mv(x:Str):Bool:= !(x==("__debug__":Str))&& !(x==("__classdict__":Str))&& !(x==("__name__":Str))
def JZ(Γ:Gm)(x:Str):Bool:=Γ.sc.lookup x==cL .globalImplicit&&Mv x
def blt(Γ:Gm)(x:Str):Bool:=JZ Γ x&&Γ.M.bl.contains x
theorem dM{a:cj Pg}{b:Pg}(h:(a==cL b)=OG):a=cL b:=by
 cases a with
 |none=>cases h
 |some a=>cases a<;>cases b<;>first|rfl|cases h
section
variable{T:cc Fd}{Z:Gm}{X:Cx}{E:XK}{x:Str}{i:Nat}
theorem oN(h:Mv x=OG):(x==("__debug__":Str))=OP/\(x==("__classdict__":Str))=OP/\x≠("__name__":Str):=by unfold Mv at h;simp only[Ld,RO]at h;exact⟨h.1.1,h.1.2,λe=>by rw[e,eF]at h;cases h.2⟩
theorem tM(c:Ct T Z X E)(h:JZ Z x=OG):Gl X x/\(x==("__debug__":Str))=OP/\x≠("__name__":Str):=by unfold JZ at h;rw[Ld]at h;refine⟨?_,(oN h.2).1,(oN h.2).2.2⟩;show X.env.scope.names.lookup x=_;rw[c.sc];exact dM h.1
theorem pW(c:Ct T Z X E)(h:blt Z x=OG):Gl X x/\X.mg x=CL/\(x==("__debug__":Str))=OP/\x≠("__name__":Str):=by unfold blt at h;rw[Ld]at h;obtain⟨h1,a⟩:=tM c h.1;exact⟨h1,c.md.bl x (Vx.mp h.2),a⟩
theorem KR(c:Ct T Z X E)(h:Z.rz=OG):jJ (L4.Dm X.prog X.w) X E:=by obtain⟨N,d,a,f,j,A,b,g,k,e⟩:=c.px h;rw[e];exact L4.A9
end
abbrev Jd(τ:Type):=Bn->XK->τ->Prop
def eo(g:FE):Jd TE:=λK E t=>EO K E t g
def es(g:cI):Jd TE:=λK E t=>c7 K E t g
def ao(g:FA):Jd TA:=λK E t=>AO K E t g
def as(g:x4):Jd TA:=λK E t=>FB K E t g
def lF(g:FT):Jd TT:=λK E t=>Vi K E t g
def kf(g:lY):Jd TT:=λK E t=>sw K E t g
def oo(g:FO):Jd TO:=λK E t=>KU K E t g
def go(g:FG):Jd TG:=λK E t=>GO K E t g
def xO(g:kR):Jd TG:=λK E t=>yc K E t g
def gs(g:J4):Jd tF:=λK E t=>Kl K E t g
def J5(g:wZ):Jd tF:=λK E t=>y4 K E t g
def io(g:FI):Jd TI:=λK E t=>L3.IO K E t g
def Mu(g:FI):Jd TI:=λK E t=>Mm K E t g
def JW(g:Hc):Jd TI:=λK E t=>LF K E t g
def so(g:FS):Jd TS:=λK E t=>SO K E t g
def Tc(g:fR):Jd TS:=λK E t=>l6 K E t g
class CK (T:cc Fd) {α τ:Type} (P:Cx->α->τ->Prop) (J:Jd τ) where
 chk:Gm->α->Bool
 ok:∀{Γ X E a},Ct T Γ X E->chk Γ a=OG->∃t,P X a t/\J X.K E t
def Oy(X:Cx)(e:Po)(t:TG):Prop:=PG X e t/\∀r,assignEach (e::r) X.env=(OP,assign e X.env)::assignEach r X.env
def NZ(X:Cx)(r:cc Po)(t:tF):Prop:=KQ X r t/\(assignEach r X.env).length=r.length/\List.findIdx? (λx=>x.1) (assignEach r X.env)=CL
def Op(X:Cx)(p:Po×Po)(t:TI):Prop:=PI X p.1 p.2 t/\fZ p.2=OG
abbrev CE(T:cc Fd)(J:Jd TE):=CK T PE J
abbrev CA(T:cc Fd)(J:Jd TA):=CK T PA J
abbrev CT(T:cc Fd)(J:Jd TT):=CK T PT J
abbrev CQ(T:cc Fd)(J:Jd TT):=CK T wL J
abbrev CO(T:cc Fd)(J:Jd TO):=CK T PO J
abbrev CG(T:cc Fd)(J:Jd TG):=CK T Oy J
abbrev CH(T:cc Fd)(J:Jd tF):=CK T NZ J
abbrev CI(T:cc Fd)(J:Jd TI):=CK T Op J
abbrev CU(T:cc Fd)(J:Jd TS):=CK T PS J
abbrev CS(T:cc Fd)(J:Jd TS):=CK T UY J
def qh{T:cc Fd}{α τ:Type}{P:Cx->α->τ->Prop}{A J:Jd τ}[x:CK T P A](k:∀{K E t},A K E t->J K E t):CK T P J:=⟨x.chk,λc h=>let⟨t,p,q⟩:=x.ok c h;⟨t,p,k q⟩⟩
end CC
set_option warn.classDefReducibility false
namespace CC
open PySem L2 L3 L10
variable{T:cc Fd}
def pp(i:Nat)(Γ:Gm)(e:Po):Bool:=(vN e).any λx=>Γ.N[i]? ==cL x.1&&Kq Γ.sc x.1&&Mv x.1
theorem gJ{Γ:Gm}{X:Cx}{E:XK}{i:Nat}{e:Po}(c:Ct T Γ X E)(h:pp i Γ e=OG):PE X e (fY i):=by
 obtain⟨x,q,h⟩:=aR h;rw[ny q];unfold Kq at h;simp only[Ld,Rf]at h;refine HQ (by rw[c.n];exact beq_iff_eq.mp h.1.1) ?_ (oN h.2).1 (oN h.2).2.1;unfold Nb;rw[c.sc];rcases h.1.2 with(z|z)|z
 .exact .inl (dM z)
 .exact .inr (.inl (dM z))
 .exact .inr (.inr (dM z))
def E8{J:Jd TE}(i:Nat)(k:∀{K E},J K E (fY i)):CE T J:=⟨pp i,λc h=>⟨_,gJ c h,k⟩⟩
noncomputable instance:CE T (eo (aa i)):=E8 i GA
noncomputable instance:CE T (es (bA i)):=E8 i Dy
def dq:Nat->D->D->Bool
 |0,_,_=>OP
 |_+1,.int a,.int b=>a==b
 |_+1,.str a,.str b=>a==b
 |_+1,.none,.none=>OG
 |_+1,.bool a,.bool b=>a==b
 |n+1,.tuple a,.tuple b=>a.length==b.length&&(a.zip b).all λp=>dq n p.1 p.2
 |n+1,.list a,.list b=>a.length==b.length&&(a.zip b).all λp=>dq n p.1 p.2
 |_,_,_=>OP
theorem IK{f:D->D->Bool}(g:∀a b,f a b=OG->a=b):∀{a b:cc D},(a.length==b.length&&(a.zip b).all λp=>f p.1 p.2)=OG->a=b:=by
 intro a
 induction a with
 |nil=>
  intro b h;cases b with
  |nil=>rfl
  |cons y s=>cases h
 |cons x r e=>
  intro b h;cases b with
  |nil=>cases h
  |cons y s=>rw[Ld]at h;obtain⟨h1,d⟩:=h;rw[Qc,QZ,Ld]at d;have h1:=eq_of_beq h1;rw[g x y d.1,e (b:=s) (by rw[Ld];exact⟨beq_iff_eq.mpr (by simpa using h1),d.2⟩)]
theorem vK:∀(n:Nat) (a b:D),dq n a b=OG->a=b:=by
 intro n
 induction n with
 |zero=>intro a b h;cases h
 |succ n d=>intro a b h;cases a<;>cases b<;>first|exact cb h OX|rfl|exact ey _ (eq_of_beq h)|exact ey _ (IK d h)
def cD:Const->cj D
 |.int i=>cL (.int i)
 |.str x=>cL (.str x)
 |.bool b=>cL (.bool b)
 |.none=>cL .none
 |_=>CL
noncomputable instance{d:D}:CE T (eo (pC d)) where
 chk Γ e:=(((vC e).bind cD).any λa=>dq 9 a d)||((vN e).any λx=>JZ Γ x.1&&((Γ.M.cs.lookup x.1).any λa=>dq 9 a d))
 ok c h:=by
  rcases(Rf _ _).mp h with h|h
  .obtain⟨a,q,h⟩:=aR h
   obtain rfl:=vK _ _ _ h;obtain⟨k,f,b⟩:=P7.mp q;obtain⟨_,_,rfl⟩:=zA f;cases k<;>cases b
   .exact⟨_,Hs,Hf⟩
   .exact⟨_,LL,KT⟩
   .exact⟨_,tj,Jp⟩
   .exact⟨_,Ie,Ii⟩
  .obtain⟨x,q,h⟩:=aR h;rw[Ld]at h;obtain⟨a,b,g⟩:=aR h.2;obtain rfl:=vK _ _ _ g;obtain⟨j,i,_⟩:=tM c h.1;obtain⟨v,u,e1,e2,e3⟩:=c.md.cs _ _ b;rw[ny q];exact⟨_,EG j e1 e2 i,zj e3⟩
class Vl (f:D->D->cj RV) where
 sp:Po->cj (Po×Po)
 ok:∀{X:Cx} {e p ta tb},sp e=cL p->X.A.units+65<cLine->fZ p.2=OG->PE X p.1 ta->PE X p.2 tb->∃r,PE X e (wA r ta tb)/\iA X.K r f
def DK{f:D->D->cj RV}(op:Xv)(b:∀{X:Cx},∃r,OpR X (QJ op) r/\iA X.K r f):Vl f where
 sp e:=(KZ e).bind λx=>if x.2.1=op then cL (x.1,x.2.2)else CL
 ok h hu _ ha hb:=by
  obtain⟨x,q,a⟩:=P7.mp h;obtain⟨_,rfl⟩:=Dj q;split at a
  .rename_i z;cases a;obtain⟨r,h1,d⟩:=b;rw[<-z]at h1;exact⟨r,KJ h1 ha hb,d⟩
  .cases a
def NN{f:D->D->cj RV}(k:∀{K},iA K (Ms K) f):Vl f where
 sp e:=(rJ e).map λx=>(x.1,x.2.1)
 ok h _ hp ha hb:=by obtain⟨x,q,a⟩:=PM.mp h;cases a;rw[gu q];exact⟨_,Ff IM ha hb (pP hp),k⟩
class Wo (f:D->D->cj RV) where
 op:Wc
 ok:∀{X:Cx},X.A.units+65<cLine->∃r,OpR X (QS op) r/\iA X.K r f
def Lm(op:Wc)(e:Po):cj (Po×Po):=(Lg e).bind λx=>match x.2.2 with
 |[b]=>if x.2.1=[op]&& !behindInMarks op b then cL (x.1,b)else CL
 |_=>CL
theorem o4{op:Wc}{e:Po}{p:Po×Po}(h:Lm op e=cL p):∃pos,e=.Compare p.1 [op] [p.2] pos/\behindInMarks op p.2=OP:=by
 obtain⟨⟨a,o,b⟩,q,d⟩:=P7.mp h;obtain⟨_,rfl⟩:=EL q;dsimp only at d;split at d
 .split at d
  .rename_i z;cases d;rw[Ld,decide_eq_true_eq,RO]at z;exact⟨_,by rw[z.1],z.2⟩
  .cases d
 .cases d
noncomputable instance[o:Wo f]:Vl f where
 sp:=Lm o.op
 ok h hu _ ha hb:=by obtain⟨p,rfl,q⟩:=o4 h;obtain⟨r,h1,a⟩:=o.ok hu;exact⟨r,EC h1 ha hb q,a⟩
noncomputable instance:Vl dZ:=NN IR
noncomputable instance:Vl L3.IX:=NN EE
noncomputable instance:Wo ko:=⟨.Eq,λh=>⟨_,GF (by ext),HP⟩⟩
noncomputable instance:Wo yd:=⟨.NotEq,λh=>⟨_,Hv (by ext),JI⟩⟩
noncomputable instance:Wo II:=⟨.Lt,λ_=>⟨_,Kr,IZ⟩⟩
noncomputable instance:Wo Hz:=⟨.Gt,λ_=>⟨_,Lu,JP⟩⟩
noncomputable instance:Wo J1:=⟨.GtE,λ_=>⟨_,Ke,G9⟩⟩
noncomputable instance:Wo Ar:=⟨.NotIn,λh=>⟨_,ER h,EW⟩⟩
noncomputable instance:Wo su:=⟨.Is,λ_=>⟨_,GS,D3⟩⟩
noncomputable instance:Vl bi:=DK .Add ⟨_,uY,um⟩
noncomputable instance:Vl sI:=DK .Add ⟨_,tO,zg⟩
noncomputable instance:Vl lZ:=DK .Sub ⟨_,Io,Df⟩
noncomputable instance:Vl aU:=DK .Mod ⟨_,GC,Ds⟩
noncomputable instance:Vl bM:=DK .FloorDiv ⟨_,zW,EX⟩
noncomputable instance:Vl dX:=DK .Mult ⟨_,DU,Av⟩
section
variable{A B C J:Jd TE}{U Z:Jd TA}{Q R S:Jd TT}
def LB(A B:Jd TE){f:D->D->cj RV}[o:Vl f][x:CE T A][y:CE T B](k:∀{K E r ta tb},iA K r f->A K E ta->B K E tb->J K E (wA r ta tb)):CE T J where
 chk Γ e:=(o.sp e).any λp=>fZ p.2&&x.chk Γ p.1&&y.chk Γ p.2
 ok c h:=by obtain⟨p,q,h⟩:=aR h;simp only[Ld]at h;obtain⟨ta,i,g⟩:=x.ok c h.1.2;obtain⟨tb,d,b⟩:=y.ok c h.2;obtain⟨r,h1,a⟩:=o.ok q (wx c.rm) h.1.1 i d;exact⟨_,h1,k a g b⟩
noncomputable instance[Vl f][CE T (eo a)][CE T (eo b)]:CE T (eo (az f a b)):=LB (eo a) (eo b) E4
noncomputable instance[Vl f][CE T (es a)][CE T (es b)]:CE T (es (yG f a b)):=LB (es a) (es b) Bm
def Fz(k:∀{K E},Z K E iI):CA T Z:=⟨λ_ l=>l.isEmpty,λ_ h=>by rw[PX.mp h];exact⟨_,iX,k⟩⟩
def yW(A:Jd TE)(U:Jd TA)[x:CE T A][y:CA T U](k:∀{K E ta tb},A K E ta->U K E tb->Z K E (c8 ta tb)):CA T Z where
 chk Γ l:=match l with
  |e::r=>fZ e&&x.chk Γ e&&y.chk Γ r
  |[]=>OP
 ok c h:=by
  split at h
  .simp only[Ld]at h;obtain⟨ta,f,d⟩:=x.ok c h.1.2;obtain⟨tb,b,a⟩:=y.ok c h.2;exact⟨_,eP f b (gl h.1.1),k d a⟩
  .cases h
noncomputable instance:CA T (ao am):=Fz HG
noncomputable instance:CA T (as iB):=Fz Cz
noncomputable instance[CE T (eo a)][CA T (ao b)]:CA T (ao (af a b)):=yW (eo a) (ao b) Er
noncomputable instance[CE T (es a)][CA T (as b)]:CA T (as (cY a b)):=yW (es a) (as b) ym
def Lp(U:Jd TA)[x:CA T U](k:∀{K E t},U K E t->J K E (wH t)):CE T J where
 chk Γ e:=(zQ e).any (x.chk Γ)
 ok c h:=by obtain⟨l,q,h⟩:=aR h;obtain⟨_,_,rfl⟩:=oB q;obtain⟨t,h1,a⟩:=x.ok c h;exact⟨_,zE h1,k a⟩
def Ls(U:Jd TA)[x:CA T U](k:∀{K E t},U K E t->J K E (JF t)):CE T J where
 chk Γ e:=(Km e).any (x.chk Γ)
 ok c h:=by obtain⟨l,q,h⟩:=aR h;obtain⟨_,rfl⟩:=Et q;obtain⟨t,h1,a⟩:=x.ok c h;exact⟨_,G1 h1,k a⟩
noncomputable instance[CA T (ao a)]:CE T (eo (cP a)):=Lp (ao a) IV
noncomputable instance[CA T (ao a)]:CE T (eo (eI a)):=Ls (ao a) Hw
noncomputable instance[CE T (eo a)]:CE T (es (aD a)):=qh (A:=eo a) yI
noncomputable instance[CE T (es a)]:CE T (es (sB a)):=qh (A:=es a) Dn
class Fn (T:cc Fd) {φ:Type} (k:Nat->Str->cc Str->Nat->φ->Fd) (F:φ) (n:Nat) where
 i:Nat
 lv:Nat
 x:Str
 ps:cc Str
 h:T[i]?=cL (k lv x ps n F)
def Ng(Γ:Gm)(i lv:Nat)(x:Str)(e:Po):cj (Po×cc Po×Pos×Pos):=(zu e).bind λy=>match y.2.1 with
 |a::r=>(vN y.1).bind λz=>if z.1==x&&JZ Γ x&&decide (i<Γ.top)&&decide (lv<=Γ.lv)&&(a::r).all fZ&&y.2.2.1.isEmpty then cL (a,r,z.2,y.2.2.2)else CL
 |[]=>CL
theorem z0{Γ:Gm}{i lv:Nat}{x:Str}{e:Po}{y:Po×cc Po×Pos×Pos}(h:Ng Γ i lv x e=cL y):e=.Call (.Name x y.2.2.1) (y.1::y.2.1) [] y.2.2.2/\JZ Γ x=OG/\i<Γ.top/\lv<=Γ.lv/\(y.1::y.2.1).all fZ=OG:=by
 obtain⟨⟨f,l,k,p⟩,q,h1⟩:=P7.mp h;rw[si q];dsimp only at h1;split at h1
 .obtain⟨z,a,b⟩:=P7.mp h1
  obtain rfl:=ny a;split at b
  .rename_i z;cases b;simp only[Ld,decide_eq_true_eq,beq_iff_eq,PX]at z;obtain⟨⟨⟨⟨⟨rfl,a⟩,j⟩,g⟩,d⟩,rfl⟩:=z;exact⟨rfl,a,j,g,d⟩
  .cases b
 .cases h1
def vI(U:Jd TA){φ:Type}(k0:Nat->Str->cc Str->Nat->φ->Fd)(F:φ)(n:Nat)[o:Fn T k0 F n][u:CA T U](rz:Bool)(k:∀{X:Cx} {E lv x ps t e r p q},k0 lv x ps n F X.prog X.w X.K X.mg X.base->(rz=OG->jJ (L4.Dm X.prog X.w) X E)->RK lv X.A->Gl X x->(x==("__debug__":Str))=OP->(e::r).all fZ=OG->PA X (e::r) t->U X.K E t->∃t',PE X (.Call (.Name x p) (e::r) [] q) t'/\J X.K E t'):CE T J where
 chk Γ e:=(!rz||Γ.rz)&&(Ng Γ o.i o.lv o.x e).any λy=>u.chk Γ (y.1::y.2.1)
 ok c h:=by rw[Ld]at h;obtain⟨y,q,f⟩:=aR h.2;obtain⟨rfl,g,hi,b,a⟩:=z0 q;obtain⟨l,j,_⟩:=tM c g;obtain⟨t,h1,d⟩:=u.ok c f;exact k (c.fs _ _ hi o.h) (λz=>KR c (by have:=h.1;rw[z]at this;exact this)) (c.rm.mono b) l j a h1 d
noncomputable instance[Fn T SW F n][CA T (ao a)]:CE T (eo (bH F n a)):=vI (ao a) SW F n OP λf _ r g d p h1 b=>⟨_,oi f r h1 (OJ _) g d (da p) (mG p),Jm b⟩
noncomputable instance[Fn T SW F n][CA T (as a)]:CE T (es (zk F n a)):=vI (as a) SW F n OP λf _ r g d p h1 b=>⟨_,oi f r h1 (OJ _) g d (da p) (mG p),DY b⟩
noncomputable instance[Fn T Wn F n][CA T (as a)]:CE T (es (lL F n a)):=vI (as a) Wn F n OP λf _ r g d p h1 b=>⟨_,oi f r h1 (OJ _) g d (da p) (mG p),wB b⟩
noncomputable instance[Fn T Wn F n][CA T (as a)]:CE T (es (ji F n a)):=vI (as a) Wn F n OP λf _ r g d p h1 b=>⟨_,oi f r h1 (OJ _) g d (da p) (mG p),xi b⟩
class CB (f:cc D->cj RV) where
 x:Str
 v:OC
 b:Qd x=cL v
 y:(∃id,v=.builtin id)\/∃ty,v=.type ty
 ok:∀{X:Cx},X.calm=OG->∃r,fy X v r/\B5 X.K r f
def B3(Γ:Gm)(x:Str)(e:Po):cj (Po×cc Po×Pos×Pos):=if blt Γ x then Ng {Γ with top:=1} 0 0 x e else CL
theorem gO{Γ:Gm}{x:Str}{e:Po}{y:Po×cc Po×Pos×Pos}(h:B3 Γ x e=cL y):e=.Call (.Name x y.2.2.1) (y.1::y.2.1) [] y.2.2.2/\blt Γ x=OG/\(y.1::y.2.1).all fZ=OG:=by
 unfold B3 at h;split at h
 .rename_i z;obtain⟨h1,_,_,_,a⟩:=z0 h;exact⟨h1,z,a⟩
 .cases h
theorem jL{Γ:Gm}{X:Cx}{E:XK}{x:Str}{v:OC}{r:cc V->Hp->VK->Prop}{e:Po}{l:cc Po}{p q:Pos}{t:TA}(c:Ct T Γ X E)(hb:blt Γ x=OG)(b:Qd x=cL v)(y:(∃id,v=.builtin id)\/∃ty,v=.type ty)(k:fy X v r)(a:(e::l).all fZ=OG)(h:PA X (e::l) t):PE X (.Call (.Name x p) (e::l) [] q) (B8 r t):=by
 obtain⟨i,f,g,d⟩:=pW c hb;rcases y with⟨id,rfl⟩|⟨id,rfl⟩
 .exact A6 k i f b h d g (da a) (mG a)
 .exact xc k i f b h d g (da a) (mG a)
def K6(U:Jd TA)(f:cc D->cj RV)[o:CB f][u:CA T U](k:∀{K E r t},B5 K r f->U K E t->J K E (B8 r t)):CE T J where
 chk Γ e:=(B3 Γ o.x e).any λy=>u.chk Γ (y.1::y.2.1)
 ok c h:=by obtain⟨y,q,i⟩:=aR h;obtain⟨rfl,g,a⟩:=gO q;obtain⟨t,h1,d⟩:=u.ok c i;obtain⟨r,k1,k2⟩:=o.ok c.cm;exact⟨_,jL c g o.b o.y k1 a h1,k k2 d⟩
noncomputable instance[CB f][CA T (ao a)]:CE T (eo (gb f a)):=K6 (ao a) f KM
noncomputable instance[CB f][CA T (as a)]:CE T (es (BF f a)):=K6 (as a) f zC
noncomputable instance:CB cU:=⟨"len",_,LR,.inl ⟨_,rfl⟩,λ_=>⟨_,AE,HH⟩⟩
noncomputable instance:CB jt:=⟨"tuple",_,C8,.inr ⟨_,rfl⟩,λ_=>⟨_,l8,Bg⟩⟩
noncomputable instance:CB wJ:=⟨"all",_,Lo,.inl ⟨_,rfl⟩,λh=>⟨_,zB h,G7⟩⟩
noncomputable instance:CB wK:=⟨"list",_,Ju,.inr ⟨_,rfl⟩,λ_=>⟨_,nA,DL⟩⟩
noncomputable instance:CB lc:=⟨"max",_,Kk,.inl ⟨_,rfl⟩,λh=>⟨_,xj h,Ed⟩⟩
def Kh(e:Po):Bool:=(Mg e).any λy=>(match y.1 with|.USub=>OG|_=>OP)&&((vC y.2).bind cD).any λd=>dq 2 d (.int 1)
theorem Db{e:Po}(h:Kh e=OG):∃k p q,e=.UnaryOp .USub (.Constant (.int 1) k p) q:=by obtain⟨⟨o,e⟩,q,b⟩:=aR h;obtain⟨_,rfl⟩:=ub q;rw[Ld]at b;obtain⟨d,l,i⟩:=aR b.2;obtain⟨c,g,f⟩:=P7.mp l;obtain rfl:=vK _ _ _ i;obtain⟨j,m,a⟩:=zA g;have a:e=_:=a;cases c<;>cases f;cases o<;>first|exact⟨_,_,_,by rw[a]⟩|cases b.1
noncomputable instance[x:CE T (eo a)]:CE T (eo (Ih L9.xB a)) where
 chk Γ e:=(rJ e).any λy=>(MU y.2.1).any λz=>z.1.isNone&&z.2.1.isNone&&z.2.2.any Kh&&x.chk Γ y.1
 ok c h:=by obtain⟨⟨e,s,p⟩,q,r⟩:=aR h;rw[gu q];obtain⟨⟨v,u,g⟩,i,f⟩:=aR r;obtain⟨_,d⟩:=y9 i;have d:s=_:=d;subst d;simp only[Ld,Sx]at f;obtain⟨⟨⟨rfl,rfl⟩,o⟩,n⟩:=f;obtain⟨m,b,l⟩:=aR o;have b:g=_:=b;subst b;obtain⟨_,_,_,rfl⟩:=Db l;obtain⟨t,k,j⟩:=x.ok c n;exact⟨_,GN k (uN (K2 HA tj)),L9.GI j⟩
noncomputable instance:CO T (oo dJ):=⟨λ_ e=>e.isNone,λ_ h=>by rw[Sx.mp h];exact⟨_,Eg,z7⟩⟩
noncomputable instance[x:CE T (eo a)]:CO T (oo (cS a)) where
 chk Γ e:=e.any (x.chk Γ)
 ok c h:=by obtain⟨e,q,f⟩:=aR h;subst q;obtain⟨t,d,b⟩:=x.ok c f;exact⟨_,uN d,yJ b⟩
class SOp (f:D->cj Int->cj Int->cj RV) where
 ok:∀{X:Cx},∃r,GU X r/\Mc X.K r f
noncomputable instance:SOp L0:=⟨⟨_,AN,oX⟩⟩
noncomputable instance:SOp kt:=⟨⟨_,Ei,La⟩⟩
noncomputable instance[o:SOp f][x:CE T (eo a)][m:CO T (oo l)][n:CO T (oo u)]:CE T (eo (mZ f a l u)) where
 chk Γ e:=(rJ e).any λy=>(MU y.2.1).any λz=>z.2.2.isNone&&x.chk Γ y.1&&m.chk Γ z.1&&n.chk Γ z.2.1
 ok c h:=by obtain⟨⟨e,s,p⟩,q,v⟩:=aR h;rw[gu q];obtain⟨⟨F,E,w⟩,g,d⟩:=aR v;obtain⟨_,b⟩:=y9 g;have b:s=_:=b;subst b;simp only[Ld,Sx]at d;obtain⟨⟨⟨rfl,k⟩,j⟩,i⟩:=d;obtain⟨t,k1,k2⟩:=x.ok c k;obtain⟨H,k3,k4⟩:=m.ok c j;obtain⟨G,k5,k6⟩:=n.ok c i;obtain⟨r,k7,k8⟩:=o.ok;exact⟨_,Al k7 k1 k3 k5,Kn k8 k2 k4 k6⟩
def M0(op:BoolOp)(A B:Jd TE)[x:CE T A][y:CE T B]{f:TE->TE->TE}(p:∀{X:Cx} {a b pos ta tb},PE X a ta->PE X (.BoolOp op [b] pos) tb->PE X (.BoolOp op [a,b] pos) (f ta tb))(k:∀{K E ta tb},A K E ta->B K E tb->J K E (f ta tb)):CE T J where
 chk Γ e:=(MJ e).any λz=>decide (z.1=op)&&match z.2.1 with
  |[l,r]=>x.chk Γ l&&y.chk Γ r
  |_=>OP
 ok c h:=by
  obtain⟨⟨o,l,p⟩,q,g⟩:=aR h;rw[zv q];simp only[Ld,decide_eq_true_eq]at g;obtain⟨rfl,d⟩:=g;split at d
  .rw[Ld]at d;obtain⟨ta,n,m⟩:=x.ok c d.1;obtain⟨tb,j,i⟩:=y.ok c d.2;exact⟨_,p n (Gn j),k m i⟩
  .cases d
noncomputable instance[CE T (eo a)][CE T (eo b)]:CE T (eo (wR a b)):=M0 .And (eo a) (eo b) JM HZ
def Ny(A:Jd TE)[x:CE T A](k:∀{K E t},A K E t->Q K E (tB t)):CT T Q where
 chk Γ e:=NM e&&x.chk Γ e
 ok c h:=by rw[Ld]at h;obtain⟨t,h1,a⟩:=x.ok c h.2;exact⟨_,G3 h1 (EN h.1),k a⟩
def Fc(A B:Jd TE){f:D->D->cj RV}[o:Wo f][x:CE T A][y:CE T B](k:∀{K E r ta tb},iA K r f->A K E ta->B K E tb->Q K E (v7 (wA r ta tb))):CT T Q where
 chk Γ e:=(Lm o.op e).any λp=>x.chk Γ p.1&&y.chk Γ p.2
 ok c h:=by obtain⟨p,q,a⟩:=aR h;rw[Ld]at a;obtain⟨ta,m,l⟩:=x.ok c a.1;obtain⟨tb,j,i⟩:=y.ok c a.2;obtain⟨_,rfl,b⟩:=o4 q;obtain⟨r,g,d⟩:=o.ok (wx c.rm);exact⟨_,Cg g m j b,k d l i⟩
noncomputable instance[CE T (eo a)]:CT T (lF (aF a)):=Ny (eo a) LG
noncomputable instance[CE T (es a)]:CT T (kf (d5 a)):=Ny (es a) yF
noncomputable instance[Wo f][CE T (eo a)][CE T (eo b)]:CT T (lF (aF (az f a b))):=Fc (eo a) (eo b) λh1 e d=>jg (E4 h1 e d)
noncomputable instance[Wo f][CE T (es a)][CE T (es b)]:CT T (kf (d5 (yG f a b))):=Fc (es a) (es b) λh1 e d=>qB (Bm h1 e d)
def Fm(R:Jd TT)[z:CT T R](k:∀{K E t},R K E t->Q K E (CV t)):CT T Q where
 chk Γ e:=(Mg e).any λy=>(match y.1 with|.Not=>OG|_=>OP)&&z.chk Γ y.2
 ok c h:=by obtain⟨⟨o,e⟩,q,a⟩:=aR h;obtain⟨_,rfl⟩:=ub q;rw[Ld]at a;obtain⟨t,d,b⟩:=z.ok c a.2;cases o<;>first|exact⟨_,Ip d,k b⟩|cases a.1
theorem LX{X:Cx}{op:BoolOp}{vs:cc Po}{pos:Pos}{t:TT}(h:PT X (.BoolOp op vs pos) t):PW X (.BoolOp op vs pos) t:=λ_=>h
def Jf(op:BoolOp)(R S:Jd TT)[z:CT T R][v:CT T S]{f:TT->TT->TT}(G:∀{X:Cx} {a pos t},PT X a t->PW X (.BoolOp op [a] pos) t)(p:∀{X:Cx} {a b r pos ta tb},PT X a ta->PW X (.BoolOp op (b::r) pos) tb->PW X (.BoolOp op (a::b::r) pos) (f ta tb))(k:∀{K E ta tb},R K E ta->S K E tb->Q K E (f ta tb)):CT T Q where
 chk Γ e:=(MJ e).any λy=>decide (y.1=op)&&match y.2.1 with
  |[l,m]=>z.chk Γ l&&v.chk Γ m
  |l::m::n::s=>z.chk Γ l&&v.chk Γ (.BoolOp op (m::n::s) y.2.2)
  |_=>OP
 ok c h:=by
  obtain⟨⟨o,l,w⟩,q,F⟩:=aR h;rw[zv q];simp only[Ld,decide_eq_true_eq]at F;obtain⟨rfl,d⟩:=F;split at d
  .rw[Ld]at d;obtain⟨ta,u,j⟩:=z.ok c d.1;obtain⟨tb,i,g⟩:=v.ok c d.2;exact⟨_,(p u (G i)).pt,k j g⟩
  .rw[Ld]at d;obtain⟨ta,u,j⟩:=z.ok c d.1;obtain⟨tb,i,g⟩:=v.ok c d.2;exact⟨_,(p u (LX i)).pt,k j g⟩
  .cases d
noncomputable instance[CT T (lF q)]:CT T (lF (km q)):=Fm (lF q) EJ
noncomputable instance[CT T (kf q)]:CT T (kf (L10.wO q)):=Fm (kf q) D7
noncomputable instance[CT T (lF q)][CT T (lF r)]:CT T (lF (pJ q r)):=Jf .And (lF q) (lF r) EB Jj DJ
noncomputable instance[CT T (lF q)][CT T (lF r)]:CT T (lF (ya q r)):=Jf .Or (lF q) (lF r) zV FU Ja
noncomputable instance[CT T (kf q)][CT T (kf r)]:CT T (kf (JT q r)):=Jf .Or (kf q) (kf r) zV FU Gw
noncomputable instance[CT T (lF q)]:CT T (kf (mL q)):=qh (A:=lF q) yE
end
end CC
set_option warn.classDefReducibility false
namespace CC
open PySem L2 L3 L10
variable{T:cc Fd}{A B C J:Jd TE}{U Z:Jd TA}
def LK(x:Str)(e:Po):cj (Po×cc Po×Pos×Pos):=(zu e).bind λy=>(Nx y.1).bind λz=>if z.2.1==x&&MQ z.1&&z.2.2.endLine==y.2.2.2.line&&y.2.1.all fZ&&decide (y.2.1.length<20)&&y.2.2.1.isEmpty then cL (z.1,y.2.1,z.2.2,y.2.2.2)else CL
theorem oH{x:Str}{e:Po}{y:Po×cc Po×Pos×Pos}(h:LK x e=cL y):e=.Call (.Attribute y.1 x y.2.2.1) y.2.1 [] y.2.2.2/\MQ y.1=OG/\(y.2.2.1.endLine==y.2.2.2.line)=OG/\y.2.1.all fZ=OG/\y.2.1.length<20:=by
 obtain⟨⟨f,l,t,p⟩,q,h1⟩:=P7.mp h;obtain⟨⟨o,n,r⟩,m,a⟩:=P7.mp h1;rw[si q,show f=_ from Jc m];split at a
 .rename_i z;cases a;simp only[Ld,decide_eq_true_eq,PX]at z;obtain⟨⟨⟨⟨⟨k,j⟩,i⟩,g⟩,d⟩,b⟩:=z;refine⟨?_,j,i,g,d⟩;rw[show n=x from beq_iff_eq.mp k,show t=[]from b]
 .cases a
class MS (f:Str->cc D->cj RV) where
 x:Str
 ok:∀{X:Cx},∃id r,Slot "str" x id/\typeOf (.builtin id)=pure (.type "method_descriptor")/\L7 X id r/\N8 X.K r f
def K0(m:Str){id:String}{r:V->cc V->Hp->VK->Prop}(s:Slot "list" m id)(ty:typeOf (.builtin id)=pure (.type "method_descriptor"))(i:∀{X:Cx},L7 X id r)(g:Gm->Po->Bool)(G:Jd TE)(A:Jd TE)[x:CE T A](j:∀{Γ X E e},Ct T Γ X E->g Γ e=OG->∃t,PE X e t/\G X.K E t)(k:∀{K E to t},G K E to->A K E t->J K E (Kd K "list" r to (c8 t iI))):CE T J where
 chk Γ e:=(LK m e).any λy=>g Γ y.1&&match y.2.1 with
  |[e]=>x.chk Γ e
  |_=>OP
 ok c h:=by
  obtain⟨⟨b,l,p,q⟩,z,f⟩:=aR h;obtain⟨rfl,I,H,a,L⟩:=oH z;rw[Ld]at f;obtain⟨w,d⟩:=f;obtain⟨to,v,u⟩:=j c w
  match l,a,d with
  |[e],a,d=>have a:[e].all fZ=OG:=a;obtain⟨t,o,n⟩:=x.ok c d;refine⟨Kd _ "list" r to (c8 t iI),?_,k u n⟩;exact LZ PySem.F.plainAttrs_list s ty i v (eP o iX (da a)) (gv I) (oC a (by show 1<20;decide)) H (da a) rfl
def vJ(i:Nat):Jd TE:=λ_ _ t=>t=fY i
noncomputable instance[CE T (eo a)]:CE T (eo (eR i a)):=K0 "append" UE UG jS (pp i) (vJ i) (eo a) (λc h=>⟨_,gJ c h,rfl⟩) λh k=>by cases h;exact Gu k
noncomputable instance[x:CE T (es o)][CE T (es a)]:CE T (es (Bo o a)):=K0 "append" UE UG jS x.chk (es o) (es a) x.ok CP
class FM (T:cc Fd) (rz:Bool) (C m:Str) (F:kh) (n:Nat) where
 i:Nat
 lv:Nat
 ps:cc Str
 h:T[i]?=cL (N3 rz lv C m ps n F)
section
variable{C m:Str}{F:kh}{n:Nat}
class FK (T:cc Fd) (C:Str) (F:kh) (n:Nat) where
 i:Nat
 lv:Nat
 ps:cc Str
 h:T[i]?=cL (N9 lv C ps n F)
end
end CC
set_option warn.classDefReducibility false
namespace CC
open PySem L2 L3 L10
variable{T:cc Fd}{A B C J:Jd TE}{U Z:Jd TA}{Q R:Jd TT}
def DS(i:Nat)(Γ:Gm)(e:Po):Bool:=(vN e).any λx=>Γ.N[i]? ==cL x.1&&(Γ.sc.lookup x.1==cL .local||(Γ.sc.lookup x.1==cL .cell&&Γ.fc.contains x.1))
theorem oh{Γ:Gm}{X:Cx}{E:XK}{i:Nat}{e:Po}(c:Ct T Γ X E)(h:DS i Γ e=OG):∃x p,e=.Name x p/\X.N[i]?=cL x/\L2.J0 X.env.scope x/\(X.fn x=OG\/List.lookup x X.env.scope.names=cL Pg.local):=by
 obtain⟨⟨x,p⟩,q,a⟩:=aR h;simp only[Ld,Rf]at a;refine⟨x,p,ny q,by rw[c.n];exact beq_iff_eq.mp a.1,?_⟩;unfold L2.J0;rw[c.sc];rcases a.2 with z|⟨z,w⟩
 .exact⟨.inl (dM z),.inr (dM z)⟩
 .exact⟨.inr (dM z),.inl (c.fc _ (Vx.mp w))⟩
def HX{G:Jd TG}(i:Nat)(k:∀{K E},G K E (jp i)):CG T G where
 chk:=DS i
 ok c h:=by obtain⟨x,p,rfl,h1,b,a⟩:=oh c h;exact⟨_,⟨uu c.nd h1 b a,λ_=>rfl⟩,k⟩
noncomputable instance:CG T (go (gN i)):=HX i ve
noncomputable instance:CG T (xO (jB i)):=HX i lq
def Lz{G:Jd tF}(k:∀{K E},G K E EU):CH T G:=⟨λ_ l=>l.isEmpty,λ_ h=>by rw[PX.mp h];exact⟨_,⟨Eb,rfl,rfl⟩,k⟩⟩
noncomputable instance:CH T (gs xt):=Lz Hi
noncomputable instance:CH T (J5 Dr):=Lz Cb
def KP{I:Jd tF}(G:Jd TG)(H:Jd tF)[x:CG T G][y:CH T H](k:∀{K E t u},G K E t->H K E u->I K E (wt t u)):CH T I where
 chk Γ l:=match l with
  |e::r=>x.chk Γ e&&y.chk Γ r
  |[]=>OP
 ok c h:=by
  split at h
  .rw[Ld]at h;obtain⟨ta,⟨j,a⟩,i⟩:=x.ok c h.1;obtain⟨tb,⟨g,d,b⟩,f⟩:=y.ok c h.2;exact⟨_,⟨Bb j g (by rw[a];rfl),by rw[a,OQ,OQ,d],by rw[a,List.findIdx?_cons,b];rfl⟩,k i f⟩
  .cases h
noncomputable instance[CG T (go g)][CH T (gs r)]:CH T (gs (li g r)):=KP (go g) (gs r) DD
noncomputable instance[CG T (xO g)][CH T (J5 r)]:CH T (J5 (wX g r)):=KP (xO g) (J5 r) Bw
def Kc{I:Jd TG}(n:Nat)(H:Jd tF)[y:CH T H](k:∀{K E t},H K E t->I K E (D2 K n t)):CG T I where
 chk Γ e:=(zQ e).any λl=>decide (l.length=n)&&y.chk Γ l
 ok c h:=by obtain⟨l,q,a⟩:=aR h;obtain⟨_,_,rfl⟩:=oB q;simp only[Ld,decide_eq_true_eq]at a;obtain⟨rfl,b⟩:=a;obtain⟨t,⟨i,f,d⟩,g⟩:=y.ok c b;exact⟨_,⟨Hu c.cm i f d,λ_=>rfl⟩,k g⟩
noncomputable instance[CH T (gs r)]:CG T (go (gT n r)):=Kc n (gs r) Gy
noncomputable instance[CH T (J5 r)]:CG T (xO (Ml n r)):=Kc n (J5 r) C7
def Gv(A:Jd TE){I:Jd TI}[x:CE T A]{f:Bn->TE->TI}(p:∀{X:Cx} {tg e t},PE X e t->PI X tg e (f X.K t))(k:∀{K E t},A K E t->I K E (f K t)):CI T I where
 chk Γ p:=fZ p.2&&x.chk Γ p.2
 ok c h:=by rw[Ld]at h;obtain⟨t,h1,a⟩:=x.ok c h.2;exact⟨_,⟨p h1,h.1⟩,k a⟩
noncomputable instance[CE T (eo a)]:CI T (io (fT a)):=Gv (eo a) sF GP
noncomputable instance[CE T (es a)]:CI T (JW (sj a)):=Gv (es a) sF C5
noncomputable instance[CI T (io f)]:CI T (Mu f):=qh (A:=io f) λh=>L3.IO.s h
noncomputable instance:CI T (Mu (uM i)):=⟨λΓ p=>fZ p.2&&pp i Γ p.2,λc h=>by rw[Ld]at h;exact⟨_,⟨sF (gJ c h.2),h.1⟩,Ba⟩⟩
noncomputable instance[CI T (io f)]:CI T (JW (j6 f)):=qh (A:=io f) yu
noncomputable instance[u:CA T (ao a)]:CI T (io (fH dL a)) where
 chk Γ p:=(B3 Γ "range" p.2).any λy=>y.2.1.isEmpty&&u.chk Γ [y.1]
 ok {Γ X E p} c h:=by obtain⟨⟨e,l,v,r⟩,q,b⟩:=aR h;obtain⟨z,g,f⟩:=gO q;simp only[Ld,PX]at b;obtain⟨rfl,k⟩:=b;obtain⟨n,m,_⟩:=pW c g;obtain⟨t,j,i⟩:=u.ok c k;obtain⟨o,d⟩:=p;have z:d=_:=z;subst z;exact⟨_,⟨xZ n m j (da f),rfl⟩,Dp i⟩
end CC
set_option warn.classDefReducibility false
namespace CC
open PySem L2 L3 L10
variable{T:cc Fd}{A B C J:Jd TE}{U Z:Jd TA}{Q R:Jd TT}{G:Jd TG}{I:Jd TI}
noncomputable instance:CQ T (lF dH):=⟨λ_ l=>l.isEmpty,λ_ h=>by rw[PX.mp h];exact⟨_,lW,Bf⟩⟩
noncomputable instance:CQ T (kf rX):=⟨λ_ l=>l.isEmpty,λ_ h=>by rw[PX.mp h];exact⟨_,lW,AG⟩⟩
def Ol(Q:Jd TT)[z:CT T Q]:CQ T Q where
 chk Γ l:=match l with
  |[e]=>z.chk Γ e
  |_=>OP
 ok c h:=by
  split at h
  .obtain⟨t,h1,a⟩:=z.ok c h;exact⟨_,yg h1,a⟩
  .cases h
noncomputable instance[CT T (kf q)]:CQ T (kf q):=Ol (kf q)
def t0{τ:Type}(P:Jd (St->Hp->τ->Prop))(K:Bn)(E:XK):St->Hp->τ->Prop:=λa H Q=>∀t,P K E t->t a H Q
def g0(P:Jd TG)(K:Bn)(E:XK):TG:=λv a H Q=>∀t,P K E t->t v a H Q
class Cl {τ:Type} (P:Jd (St->Hp->τ->Prop)):Prop where
 cl:∀{K E},P K E (t0 P K E)
class ZM (P:Jd TG):Prop where
 cl:∀{K E},P K E (g0 P K E)
noncomputable instance:Cl (eo g):=⟨λB b O a H ρ Q R w _ h=>h B b O a H ρ Q R w⟩
noncomputable instance:Cl (es g):=⟨λB a H α ω ρ Q s l w _ h=>h B a H α ω ρ Q s l w⟩
noncomputable instance:Cl (lF g):=⟨λB b O a H ρ Q R w _ h=>h B b O a H ρ Q R w⟩
noncomputable instance:Cl (kf g):=⟨λB a H α ω ρ Q s l w _ h=>h B a H α ω ρ Q s l w⟩
noncomputable instance:ZM (go g):=⟨λB b O a H ρ v pv Q R p w _ h=>h B b O a H ρ v pv Q R p w⟩
noncomputable instance:ZM (xO g):=⟨λB a H α ω ρ v x Q s l p w _ h=>h B a H α ω ρ v x Q s l p w⟩
def Ec(e:Po):cc Str:=((vN e).map (·.1)).toList++((zQ e).getD []).filterMap λe=>(vN e).map (·.1)
def IS(l:cc (Str×Pg)):cc Str:=(l.filter λy=>y.2==Pg.cell&&l.all λp=> !(p.1==y.1)|| !(p.2==Pg.free)).map (·.1)
def MB(Γ:Gm)(l:cc (Str×Pg)):cc (Str×Pg):=l.map λp=>if(p.2==Pg.free&&(ScopeKind.function==ScopeKind.function)&&Γ.sc.lookup p.1==cL .cell)then(p.1,.cell)else p
def Gm.YZ(Γ:Gm)(own:cc Str)(a:cc (Str×Nat))(sc:cc (Str×Pg)):Gm:={Γ with N:=own++a.map (·.1),sc:=MB Γ sc,rz:=OP,fa:=OP,fc:=IS sc}
def nX(Γ:Gm)(fj:cc Nat):cc (Str×Nat):=fj.filterMap λj=>(Γ.N[j]?).map λx=>(x,j)
def My(Γ:Gm)(sc:Q1)(a:cc (Str×Nat)):Bool:=a.all λp=>Γ.N[p.2]? ==cL p.1&&sc.names.lookup p.1==cL .free&&(Γ.sc.lookup p.1==cL .cell||Γ.sc.lookup p.1==cL .free)
theorem FQ{Γ:Gm}{X:Cx}{E:XK}{sc:Q1}(c:Ct T Γ X E):∀{a:cc (Str×Nat)},My Γ sc a=OG->Vm X sc a
 |[],_=>trivial
 |p::r,h=>by unfold My at h;simp only[QZ,Ld,Rf]at h;obtain⟨⟨⟨h1,e⟩,d⟩,b⟩:=h;refine⟨⟨by rw[c.n];exact beq_iff_eq.mp h1,dM e,?_⟩,FQ c b⟩;rw[c.sc];exact d.imp dM dM
theorem vS{env:Env}{y:Str}:∀{l:cc (Str×Pg)} {acc:cc (Str×OL)},(∀p∈l,p.1=y->(p.2==Pg.free)=OP)->acc.lookup y=CL->(eA env l acc).lookup y=CL
 |[],_,_,h=>h
 |(n,k)::r,acc,h,ha=>by
  have a:=λacc=>vS (env:=env) (y:=y) (l:=r) (acc:=acc) λp b=>h p (OV _ b);unfold eA;split
  .rename_i q
   have ne:n≠y:=λe=>by rw[h (n,k) O0 e]at q;cases q
   split
   .exact a _ (by rw[Qb,show(y==n)=OP from beq_eq_false_iff_ne.mpr (ee ne)];exact ha)
   .exact a _ ha
  .exact a _ ha
theorem Ac{env:Env}{l:cc (Str×Pg)}{y:Str}(h:y∈IS l):((eA env l []).lookup y).isNone=OG:=by
 obtain⟨p,d,rfl⟩:=OW.mp h;obtain⟨_,a⟩:=Qi.mp d;rw[Ld]at a;rw[vS (λq b e=>?_) rfl]
 .rfl
 .have:=PF.mp a.2 q b;rw[e,eF]at this;revert this;cases q.2==Pg.free<;>intro h<;>first|rfl|cases h
structure Lc(T:cc Fd)(Γ':Gm)(X:Cx)(E:XK)(n:Nat)(fj:cc Nat)(I:Jd TI)(G:Jd TG)(Q:Jd TT)(A:Jd TE)(sc:Q1)(elt:Po)(cp:Sm) where
 own:cc Str
 fv:cc (Str×Nat)
 wi:TI
 e:cp.is_async=0
 ln:own.length=n
 fj:fv.map (·.2)=fj
 pi:PI X cp.target cp.iter wi
 i:I X.K E wi
 pg:∀s H C fp,PG (bf X s H sc C (b7 own fv) fp) cp.target (g0 G X.K E0)
 g:G X.K E0 (g0 G X.K E0)
 pq:∀s H C fp,wL (bf X s H sc C (b7 own fv) fp) cp.ifs (t0 Q X.K E0)
 q:Q X.K E0 (t0 Q X.K E0)
 pe:∀s H C fp,PE (bf X s H sc C (b7 own fv) fp) elt (t0 A X.K E0)
 a:A X.K E0 (t0 A X.K E0)
 fvk:Vm X sc fv
 fr:(sc.names.all λy=> !(y.2==Pg.free)||X.env.scope.names.lookup y.1==cL .cell||X.env.scope.names.lookup y.1==cL .free)=OG
 kd:sc.kind=.function
 nd:(sc.names.map (·.1)).Nodup
 nm:∀y∈sc.names,y.2=.local->sc.names.lookup y.1=cL .local
 fold:∀z,foldedSetIterable cp.iter X.env z=pure z
 ct:∀s H C fp W E',Ct T Γ' ((bf X s H sc C (b7 own fv) fp).TX W) E'
def D9(n:Nat)(fj:cc Nat)(i:CI T I)(g:CG T G)(w:CQ T Q)(x:CE T A)(Γ:Gm)(elt:Po)(cp:Sm)(sc:Q1):Bool:=
 let own:=Ec cp.target
 let fv:=nX Γ fj
 let Γ':=Γ.YZ own fv sc.names
 decide (own.length=n)&&decide (fv.map (·.2)=fj)&&decide (cp.is_async=0)&&My Γ sc fv&&(sc.names.all λy=> !(y.2==Pg.free)||Γ.sc.lookup y.1==cL .cell||Γ.sc.lookup y.1==cL .free)&&decide (sc.kind=.function)&&decide ((sc.names.map (·.1)).Nodup)&&(sc.names.all λy=> !(y.2==Pg.local)||sc.names.lookup y.1==cL .local)&&decide ((own++fv.map (·.1)).Nodup)&&i.chk Γ (cp.target,cp.iter)&&g.chk Γ' cp.target&&w.chk Γ' cp.ifs&&x.chk Γ' elt
theorem vU[Cl A][Cl Q][ZM G]{i:CI T I}{g:CG T G}{w:CQ T Q}{x:CE T A}{n:Nat}{fj:cc Nat}{Γ:Gm}{X:Cx}{E:XK}{elt:Po}{cp:Sm}{sc:Q1}(c:Ct T Γ X E)(h:D9 n fj i g w x Γ elt cp sc=OG):Nonempty (Lc T (Γ.YZ (Ec cp.target) (nX Γ fj) sc.names) X E n fj I G Q A sc elt cp):=by
 unfold D9 at h;simp only[Ld,decide_eq_true_eq]at h;obtain⟨⟨⟨⟨⟨⟨⟨⟨⟨⟨⟨⟨h1,P⟩,O⟩,k1⟩,k2⟩,k3⟩,k4⟩,k5⟩,k6⟩,N⟩,M⟩,L⟩,K⟩:=h;obtain⟨o,⟨F,p⟩,q⟩:=i.ok c N;have ct:∀s H C a W m,Ct T (Γ.YZ (Ec cp.target) (nX Γ fj) sc.names) ((bf X s H sc C (b7 (Ec cp.target) (nX Γ fj)) a).TX W) m:=λs H C a W m=>
  ⟨rfl,k6,by show(relabel sc X.env).names=MB Γ sc.names;unfold relabel MB Env.kindOf;rw[c.kd,c.sc],k3,c.cm,c.rm,λz=>(Um z),λz=>(Um z),λy j=>Ac j,c.md,c.fs⟩
 have k:∀s H C a,Ct T (Γ.YZ (Ec cp.target) (nX Γ fj) sc.names) (bf X s H sc C (b7 (Ec cp.target) (nX Γ fj)) a) E0:=λs H C a=>ct s H C a _ E0;refine⟨⟨Ec cp.target,nX Γ fj,o,O,h1,P,F,q,λs H C a=>?_,ZM.cl,λs H C a=>?_,Cl.cl,λs H C a=>?_,Cl.cl,FQ c k1,?_,k3,k4,λy j e=>?_,nQ p,ct⟩⟩
 .obtain⟨t,⟨f,_⟩,d⟩:=g.ok (k s H C a) M;exact λb s l H v u Q I r z=>f _ _ _ _ _ _ _ I r (z _ d)
 .obtain⟨t,f,d⟩:=w.ok (k s H C a) L;exact λb s l H Q I z=>f _ _ _ _ _ I (z _ d)
 .obtain⟨t,f,d⟩:=x.ok (k s H C a) K;exact λb s l H Q I z=>f _ _ _ _ _ I (z _ d)
 .rw[c.sc];exact k2
 .have:=PF.mp k5 y j;rw[e]at this;exact dM this
def Jb(e:Po):cj (Po×Sm×Q1×Pos):=(NC e).bind λy=>match y.2.1 with
 |[cp]=>cL (y.1,cp,y.2.2)
 |_=>CL
theorem u6{e:Po}{y:Po×Sm×Q1×Pos}(h:Jb e=cL y):e=.ListComp y.1 [y.2.1] y.2.2.1 y.2.2.2:=by
 obtain⟨⟨a,l,s,p⟩,q,b⟩:=P7.mp h;rw[Iq q]
 match l,b with
 |[cp],b=>cases b;rfl
def GW(I:Jd TI)(G:Jd TG)(Q:Jd TT)(A:Jd TE)[Cl A][Cl Q][ZM G][i:CI T I][g:CG T G][w:CQ T Q][x:CE T A](n:Nat)(fj:cc Nat)(k:∀{K E own fv wi g tc te},own.length=n->fv.map (·.2)=fj->I K E wi->G K E0 g->Q K E0 tc->A K E0 te->J K E (mX own fv wi g tc te)):CE T J where
 chk Γ e:=(Jb e).any λy=>D9 n fj i g w x Γ y.1 y.2.1 y.2.2.1
 ok c h:=by obtain⟨⟨j,m,r,p⟩,q,f⟩:=aR h;rw[u6 q];obtain⟨l⟩:=vU c f;obtain⟨o,b,d,as⟩:=m;obtain rfl:as=0:=l.e;exact⟨_,vh l.own l.fv c.cm l.pi l.pg l.pq l.pe l.fvk l.fr l.kd l.nd l.nm l.fold,k l.ln l.fj l.i l.g l.q l.a⟩
noncomputable instance[CI T (Mu f)][CG T (go g)][CQ T (lF q)][CE T (eo a)]:CE T (eo (gP n l f g q a)):=GW (Mu f) (go g) (lF q) (eo a) n l BZ
noncomputable instance[CI T (JW f)][CG T (xO g)][CQ T (kf q)][CE T (es a)]:CE T (es (r8 n l f g q a)):=GW (JW f) (xO g) (kf q) (es a) n l zI
end CC
set_option warn.classDefReducibility false
namespace CC
open PySem L2 L3 L10
variable{T:cc Fd}{A B C J:Jd TE}{U Z:Jd TA}{Q R:Jd TT}{G:Jd TG}{I:Jd TI}{S Y X:Jd TS}
def Li:Rk->cj (Po×cc Rk×cc Rk)
 |.If c a b _=>cL (c,a,b)
 |_=>CL
def Gg:Rk->cj (cj Po)
 |.Return e _=>cL e
 |_=>CL
def FH:Rk->cj Po
 |.Expr e _=>cL e
 |_=>CL
def yX:Rk->cj (Po×Po)
 |.Assign [t] e _=>cL (t,e)
 |_=>CL
def yi:Rk->cj (Po×Po×cc Rk)
 |.For t i b [] _=>cL (t,i,b)
 |_=>CL
def KH:Rk->cj (Po×cc Rk)
 |.While c b [] _=>cL (c,b)
 |_=>CL
section
variable{s:Rk}
theorem Ez(h:Li s=cL x):∃p,s=.If x.1 x.2.1 x.2.2 p:=mz (P:=λx=>∃p,s=.If x.1 x.2.1 x.2.2 p) (by cases s<;>first|exact trivial|exact⟨_,rfl⟩) h
theorem AZ(h:Gg s=cL x):∃p,s=.Return x p:=mz (P:=λx=>∃p,s=.Return x p) (by cases s<;>first|exact trivial|exact⟨_,rfl⟩) h
theorem y0(h:FH s=cL x):∃p,s=.Expr x p:=mz (P:=λx=>∃p,s=.Expr x p) (by cases s<;>first|exact trivial|exact⟨_,rfl⟩) h
theorem rH(h:yX s=cL x):∃p,s=.Assign [x.1] x.2 p:=mz (P:=λx=>∃p,s=.Assign [x.1] x.2 p) (by cases s<;>first|exact trivial|(rename_i l _ _;rcases l with _|⟨t,_|⟨_,_⟩⟩<;>first|exact trivial|exact⟨_,rfl⟩)) h
theorem rN(h:yi s=cL x):∃p,s=.For x.1 x.2.1 x.2.2 [] p:=mz (P:=λx=>∃p,s=.For x.1 x.2.1 x.2.2 [] p) (by cases s<;>first|exact trivial|(rename_i l _;cases l<;>first|exact trivial|exact⟨_,rfl⟩)) h
theorem EK(h:KH s=cL x):∃p,s=.While x.1 x.2 [] p:=mz (P:=λx=>∃p,s=.While x.1 x.2 [] p) (by cases s<;>first|exact trivial|(rename_i l _;cases l<;>first|exact trivial|exact⟨_,rfl⟩)) h
end
def NQ(S:Jd TS)[o:CU T S]:CS T S where
 chk Γ b:=match b with
  |[s]=>o.chk Γ s
  |_=>OP
 ok c h:=by
  split at h
  .obtain⟨t,h1,a⟩:=o.ok c h;exact⟨_,D4 h1,a⟩
  .cases h
noncomputable instance[CU T (so f)]:CS T (so f):=NQ (so f)
noncomputable instance[CU T (Tc f)]:CS T (Tc f):=NQ (Tc f)
noncomputable instance:CS T (so bJ):=⟨λ_ b=>b.isEmpty,λ_ h=>by rw[PX.mp h];exact⟨_,uO,EV⟩⟩
noncomputable instance:CS T (Tc jz):=⟨λ_ b=>b.isEmpty,λ_ h=>by rw[PX.mp h];exact⟨_,uO,BP⟩⟩
def EZ(Y X:Jd TS)[o:CU T Y][n:CS T X](k:∀{K E t u},Y K E t->X K E u->S K E (Eu t u)):CS T S where
 chk Γ b:=match b with
  |s::r=>o.chk Γ s&&n.chk Γ r
  |_=>OP
 ok c h:=by
  split at h
  .rw[Ld]at h;obtain⟨t,h1,e⟩:=o.ok c h.1;obtain⟨f,d,a⟩:=n.ok c h.2;exact⟨_,zz h1 d,k e a⟩
  .cases h
noncomputable instance[CU T (so f)][CS T (so g)]:CS T (so (av f g)):=EZ (so f) (so g) HB
noncomputable instance[CU T (Tc f)][CS T (Tc g)]:CS T (Tc (bC f g)):=EZ (Tc f) (Tc g) Ep
def E9(Q:Jd TT)(Y X:Jd TS)[z:CT T Q][m:CS T Y][n:CS T X](k:∀{K E c t u},Q K E c->Y K E t->X K E u->S K E (Cf c t u)):CU T S where
 chk Γ s:=(Li s).any λy=>z.chk Γ y.1&&m.chk Γ y.2.1&&n.chk Γ y.2.2
 ok c h:=by obtain⟨y,q,a⟩:=aR h;obtain⟨_,rfl⟩:=Ez q;simp only[Ld]at a;obtain⟨t,i,g⟩:=z.ok c a.1.1;obtain⟨l,f,e⟩:=m.ok c a.1.2;obtain⟨j,d,b⟩:=n.ok c a.2;exact⟨_,Ko i f d,k g e b⟩
noncomputable instance[CT T (lF q)][CS T (so f)][CS T (so g)]:CU T (so (iP q f g)):=E9 (lF q) (so f) (so g) Lh
noncomputable instance[CT T (kf q)][CS T (Tc f)][CS T (Tc g)]:CU T (Tc (ja q f g)):=E9 (kf q) (Tc f) (Tc g) Ht
def Fh(A:Jd TE)[x:CE T A](k:∀{K E t},A K E t->S K E (Cv t)):CU T S where
 chk Γ s:=(Gg s).any λy=>y.any (x.chk Γ)
 ok c h:=by obtain⟨y,q,g⟩:=aR h;obtain⟨e,a,f⟩:=aR g;obtain⟨_,rfl⟩:=AZ q;subst a;obtain⟨t,d,b⟩:=x.ok c f;exact⟨_,Jt d,k b⟩
noncomputable instance[CE T (eo a)]:CU T (so (bX a)):=Fh (eo a) IL
noncomputable instance[CE T (es a)]:CU T (Tc (L10.jR a)):=Fh (es a) DE
def y3(A:Jd TE)[x:CE T A](k:∀{K E t},A K E t->S K E (vM t)):CU T S where
 chk Γ s:=(FH s).any λe=>(fZ e&& !Jq e)&&x.chk Γ e
 ok c h:=by obtain⟨y,q,a⟩:=aR h;obtain⟨_,rfl⟩:=y0 q;have a:=(Ld _ _).mp a;obtain⟨t,d,b⟩:=x.ok c a.2;exact⟨_,DT d (uj a.1),k b⟩
noncomputable instance[CE T (eo a)]:CU T (so (bQ a)):=y3 (eo a) Di
noncomputable instance[CE T (es a)]:CU T (Tc (je a)):=y3 (es a) yU
def FJ(i:Nat)(A:Jd TE)[x:CE T A](k:∀{K E t},A K E t->S K E (Cu t (jp i))):CU T S where
 chk Γ s:=(yX s).any λy=>(fZ y.2&& !Jq y.2)&&(DS i Γ y.1&&x.chk Γ y.2)
 ok c h:=by obtain⟨⟨d,e⟩,q,a⟩:=aR h;obtain⟨_,rfl⟩:=rH q;have a:=(Ld _ _).mp a;have b:=(Ld _ _).mp a.2;obtain⟨t,g,f⟩:=x.ok c b.2;obtain⟨y,p,z,k1,k2,k3⟩:=oh c b.1;have z:d=_:=z;subst z;exact⟨_,Hn c.nd k1 k2 g (uj a.1) k3,k f⟩
noncomputable instance[CE T (eo a)]:CU T (so (aJ a (gN i))):=FJ i (eo a) λh=>Gp h ve
noncomputable instance[CE T (es a)]:CU T (Tc (fQ a (jB i))):=FJ i (es a) λh=>Ej h lq
def E5(I:Jd TI)(G:Jd TG)(Y:Jd TS)[v:CI T I][y:CG T G][m:CS T Y](k:∀{K E wi g t},I K E wi->G K E g->Y K E t->S K E (wP wi g t)):CU T S where
 chk Γ s:=Γ.fa&&(yi s).any λz=>v.chk Γ (z.1,z.2.1)&&y.chk Γ z.1&&m.chk Γ z.2.2
 ok c h:=by rw[Ld]at h;obtain⟨z,q,a⟩:=aR h.2;obtain⟨_,rfl⟩:=rN q;simp only[Ld]at a;obtain⟨t,⟨e,b⟩,d⟩:=v.ok c a.1.1;obtain⟨i,⟨k1,_⟩,k2⟩:=y.ok c a.1.2;obtain⟨f,k3,k4⟩:=m.ok c a.2;exact⟨_,zY (c.po h.1) c.cm e k1 k3 (nQ b),k d k2 k4⟩
noncomputable instance[CI T (io f)][CG T (go g)][CS T (so b)]:CU T (so (dG f g b)):=E5 (io f) (go g) (so b) HL
noncomputable instance[CI T (JW f)][CG T (xO g)][CS T (Tc b)]:CU T (Tc (wV f g b)):=E5 (JW f) (xO g) (Tc b) C2
def gm(M:Md)(N:cc Str)(st:Rk)(lv top:Nat)(rz:Bool):Gm:=⟨M,N,(aw st).names,lv,rz,OG,IS (aw st).names,top⟩
def MN(N ps:cc Str)(sc:Q1):Bool:=decide (sc.kind=.function)&& !sc.isCoroutine&& !sc.isGenerator&&decide N.Nodup&&decide (N.take ps.length=ps)&&ps.all (λx=>sc.names.lookup x==cL .local||sc.names.lookup x==cL .cell)&&sc.names.all (λy=> !(y.2==.free))
theorem yo{N ps:cc Str}{sc:Q1}(h:MN N ps sc=OG):Sa N ps sc:=by
 unfold MN at h;simp only[Ld,decide_eq_true_eq,RO]at h;obtain⟨⟨⟨⟨⟨⟨h1,k⟩,j⟩,i⟩,g⟩,f⟩,d⟩:=h;refine⟨h1,k,j,i,g,λx b=>?_,λy a e=>?_⟩
 .have:=PF.mp f x b;rw[Rf]at this;exact this.imp dM dM
 .have:=PF.mp d y a;rw[e]at this;cases this
section
variable{P:Pa}{w:Pz}{K:Bn}{mg:Str->cj OC}{base:Heap}{f:OL}{fd:Qx}{M:Md}{Z x:Str}{N Y:cc Str}{k n top:Nat}{st:Rk}
def Uk(T:cc Fd)(S:Jd TS)[c:CS T S](M:Md)(N Y:cc Str)(st:Rk)(k top:Nat)(rz:Bool):Bool:=MN N Y (aw st)&&c.chk (gm M N st k top rz) (cF st)
theorem NL(a:WW K mg M)(fs:∀i fd,i<top->T[i]?=cL fd->fd P w K mg base)(S:Sa N Y (aw st)){RD A outer s H E}(b:RK k (A.deeper (P5 Z (aw st) s.heap.objs.size f RD))):Ct T (gm M N st k top OP) (iz jC P w K mg base N Z (aw st) f RD A outer s H E).Xp E:=
 ⟨rfl,S.nd,rfl,S.kind,rfl,b,λ_=>We.never,λz=>Um z,λ_ _=>rfl,a,fs⟩
theorem Tb{g:FS}{b:FN}[c:CS T (so g)](d:WW K mg M)(fs:∀i fd,i<top->T[i]?=cL fd->fd P w K mg base)(F:Vk K x Z st f fd)(h:Uk T (so g) M N Y st k top OP=OG)(hn:Y.length=n:=by rfl)(j:b=dF N.length g:=by rfl):FnOk P w K mg base jC (k+1) f fd Y (xF K n b):=by have h:=(Ld _ _).mp h;have S:=yo h.1;exact NS F S hn rfl j λl A a s H E e=>c.ok (NL d fs S e) h.2
theorem W3{g:fR}{b:kh}[c:CS T (Tc g)](d:WW K mg M)(fs:∀i fd,i<top->T[i]?=cL fd->fd P w K mg base)(F:Vk K x Z st f fd)(h:Uk T (Tc g) M N Y st k top OP=OG)(hn:Y.length=n:=by rfl)(j:b=jN N.length g:=by rfl):FnOk P w K mg base jC (k+1) f fd Y (x9 K n b):=by have h:=(Ld _ _).mp h;have S:=yo h.1;exact NU F S hn rfl j λl A a s H E e=>c.ok (NL d fs S e) h.2
end
section
variable{T:cc Fd}{P:Pa}{w:Pz}{K:Bn}{mg:Str->cj OC}{base:Heap}
theorem fs0:∀i fd,i<0->T[i]?=cL fd->fd P w K mg base:=λ_ _ h=>cb h (Nat.not_lt_zero _)
theorem Uw{n:Nat}{x:Fd}(h:∀i fd,i<n->T[i]?=cL fd->fd P w K mg base)(e:T[n]?=cL x)(a:x P w K mg base):∀i fd,i<n+1->T[i]?=cL fd->fd P w K mg base:=λi fd hi q=>by
 rcases Nat.lt_succ_iff_lt_or_eq.mp hi with z|rfl
 .exact h i fd z q
 .rw[e]at q;cases q;exact a
abbrev Oo(K:Bn)(mg:Str->cj OC):Str->D->Prop:=λx d=>∃v u,mg x=cL u/\RelV v u/\∀O H,DV O K H v d
theorem csN:∀x d,([]:cc (Str×D)).lookup x=cL d->Oo K mg x d:=λ_ _ h=>nomatch h
theorem clN:∀C L,([]:cc (Str×cc Str)).lookup C=cL L->KS K C L:=λ_ _ h=>nomatch h
abbrev Oj(K:Bn)(mg:Str->cj OC)(x:Str):Prop:=∃C,Qr K PK x=cL (cL (.ref C))/\mg x=cL (.ref C)/\Uz K C KB "ValueError.__new__"=OG
theorem exN:∀x∈([]:cc Str),Oj K mg x:=λ_ h=>nomatch h
end
end CC
set_option warn.classDefReducibility false
namespace CC
open PySem L2 L3 L10
variable{T:cc Fd}
def Ni(n:String):Bool:=n== "int"||n== "bool"||n== "str"||n== "list"||n== "tuple"
theorem Jx{n:String}(h:Ni n=OG):(n= "int"\/n= "bool"\/n= "str"\/n= "list"\/n= "tuple")/\Qd (Str.ofString n)=cL (.type n):=by unfold Ni at h;simp only[Rf,beq_iff_eq]at h;rcases h with(((rfl|rfl)|rfl)|rfl)|rfl<;>exact⟨by simp,rfl⟩
noncomputable instance[x:CE T (eo a)]:CE T (eo (kX n a)) where
 chk Γ e:=(B3 Γ "isinstance" e).any λy=>match y.2.1 with
  |[b]=>(vN b).any (λz=>z.1==Str.ofString n)&&blt Γ (Str.ofString n)&&Ni n&&x.chk Γ y.1
  |_=>OP
 ok {Γ X E e} c h:=by
  obtain⟨⟨e,l,I,H⟩,q,i⟩:=aR h;obtain⟨rfl,g,f⟩:=gO q
  match l,f,i with
  |[b],f,i=>simp only[Ld]at i;obtain⟨⟨⟨d,w⟩,u⟩,r⟩:=i;obtain⟨z,m,d⟩:=aR d;have j:=ny m;obtain⟨k,G⟩:=z;have d:=beq_iff_eq.mp d;have d:k=_:=d;subst d;have j:b=_:=j;subst j;obtain⟨k1,k2⟩:=Jx u;obtain⟨F,B,C,A⟩:=pW c w;obtain⟨t,p,o⟩:=x.ok c r;simp only[QZ,Ld]at f;exact⟨_,jL c g o7 (.inl ⟨_,rfl⟩) xJ (by simp only[QZ,Ld];exact f) (eP p (eP (Eh (v:=.ty _) F B k2 rfl A C) iX (gl f.2.1)) (gl f.1)),Jw k1 o⟩
noncomputable instance:Vl jD:=DK .Pow ⟨_,JN,D1⟩
noncomputable instance[z:CE T (eo a)]:CE T (eo (xq a)) where
 chk Γ e:=(Mg e).any λy=>(match y.1 with|.Not=>OG|_=>OP)&&z.chk Γ y.2
 ok c h:=by obtain⟨⟨o,e⟩,q,b⟩:=aR h;obtain⟨_,rfl⟩:=ub q;rw[Ld]at b;obtain⟨t,f,d⟩:=z.ok c b.2;cases o<;>first|exact⟨_,Gz f,Jr d⟩|cases b.1
end CC
set_option warn.classDefReducibility false
namespace CC
open PySem L2 L3 L10
variable{T:cc Fd}{A B C J:Jd TE}{U Z:Jd TA}{Q R:Jd TT}
def MR:Jd TI:=λ_ _ _=>True
end CC
set_option warn.classDefReducibility false
namespace CC
open PySem L2 L3 L10
variable{T:cc Fd}{A B C J:Jd TE}{U Z:Jd TA}{Q R:Jd TT}
theorem iQ{Γ:Gm}{X:Cx}{E:XK}(c:Ct T Γ X E):X.A.units+64<cLine:=c.rm.units
noncomputable instance:CE T (es lG) where
 chk _ e:=(ME e).any λy=>y.1.isEmpty&&y.2.isEmpty
 ok _ h:=by obtain⟨⟨k,v⟩,q,a⟩:=aR h;obtain⟨_,rfl⟩:=Bj q;simp only[Ld,PX]at a;obtain⟨rfl,rfl⟩:=a;exact⟨_,LD.pe_ddnew,xz⟩
noncomputable instance[x:CE T (es d)][y:CE T (es k)]:CE T (es (lC d k)) where
 chk Γ e:=(rJ e).any λp=>fZ p.2.1&&x.chk Γ p.1&&y.chk Γ p.2.1
 ok c h:=by obtain⟨p,q,a⟩:=aR h;simp only[Ld]at a;obtain⟨ta,i,g⟩:=x.ok c a.1.2;obtain⟨tb,f,b⟩:=y.ok c a.2;rw[gu q];exact⟨_,LD.pe_ddget (iQ c) i f (pP a.1.1),xC g b⟩
def Bl(op:Wc)(x y:Gm->Po->Bool)(Γ:Gm)(e:Po):Bool:=(Lm op e).any λp=>x Γ p.1&&y Γ p.2
def IC(neg:Bool):Wc:=if neg then .NotIn else .In
theorem qz{neg:Bool}[x:CE T (es k)][y:CE T (es d)]{Γ X E e}(c:Ct T Γ X E)(h:Bl (IC neg) x.chk y.chk Γ e=OG):∃t,PE X e t/\PT X e (tB t)/\c7 X.K E t (gL neg k d):=by
 obtain⟨p,q,g⟩:=aR h;rw[Ld]at g;obtain⟨_,rfl,a⟩:=o4 q;obtain⟨ta,f,j⟩:=x.ok c g.1;obtain⟨tb,b,i⟩:=y.ok c g.2;cases neg with
 |false=>exact⟨_,tN (LD.pc_ddin (iQ c) f b) a,tQ (LD.pc_ddin (iQ c) f b) a,qW j i⟩
 |true=>exact⟨_,tN (LD.pc_ddnin (iQ c) f b) a,tQ (LD.pc_ddnin (iQ c) f b) a,qW j i⟩
noncomputable instance[x:CE T (es k)][y:CE T (es d)]:CE T (es (gL neg k d)):=⟨Bl (IC neg) x.chk y.chk,λc h=>let⟨_,h1,_,h2⟩:=qz c h;⟨_,h1,h2⟩⟩
noncomputable instance[x:CE T (es k)][y:CE T (es d)]:CT T (kf (d5 (gL neg k d))):=⟨Bl (IC neg) x.chk y.chk,λc h=>let⟨_,_,h1,h2⟩:=qz c h;⟨_,h1,yF h2⟩⟩
noncomputable instance[x:CE T (es d)][y:CE T (es k)][z:CE T (es f)]:CE T (es (jd d k f)) where
 chk Γ e:=(LK "get" e).any λw=>x.chk Γ w.1&&match w.2.1 with
  |[e,f]=>y.chk Γ e&&z.chk Γ f
  |_=>OP
 ok {Γ X E e} c h:=by
  obtain⟨⟨b,l,p,q⟩,w,i⟩:=aR h;obtain⟨rfl,o,n,a,I⟩:=oH w;rw[Ld]at i;obtain⟨j,g⟩:=i;obtain⟨ta,G,F⟩:=x.ok c j
  match l,a,g with
  |[e,f],a,g=>have a:[e,f].all fZ=OG:=a;rw[Ld]at g;obtain⟨tb,v,u⟩:=y.ok c g.1;obtain⟨H,t,r⟩:=z.ok c g.2;refine⟨_,LD.pe_ddget2 (iQ c) G v t ⟨gv o,oC a (by show 2<20;decide),n,?_⟩,tq F u r⟩;have m:[f].all fZ=OG:=(Ld _ _▸a:_/\_).2;rw[da a,da m];rfl
noncomputable instance[x:CE T (es d)][y:CE T (es k)][z:CE T (es v)]:CU T (Tc (j3 d k v)) where
 chk Γ s:=(yX s).any λr=>(rJ r.1).any λw=>fZ r.2&&x.chk Γ w.1&&y.chk Γ w.2.1&&z.chk Γ r.2
 ok c h:=by obtain⟨⟨b,e⟩,q,m⟩:=aR h;obtain⟨_,rfl⟩:=rH q;obtain⟨w,f,a⟩:=aR m;have z:b=_:=gu f;subst z;simp only[Ld]at a;obtain⟨⟨⟨l,j⟩,i⟩,g⟩:=a;obtain⟨t,k1,k2⟩:=x.ok c j;obtain⟨o,k3,k4⟩:=y.ok c i;obtain⟨n,k5,k6⟩:=CK.ok c g;exact⟨_,LD.ps_ddput (iQ c) k1 k3 k5 (LV l),wT k2 k4 k6⟩
class IOp (f:D->D->cj RV) where
 op:Xv
 ok:∀{X:Cx},∃ti,Ov X op ti/\iA X.K ti f
noncomputable instance[z:CT T (kf q)][m:CS T (Tc b)]:CU T (Tc (sL q b)) where
 chk Γ s:=Γ.fa&&(KH s).any λy=>z.chk Γ y.1&&m.chk Γ y.2
 ok c h:=by rw[Ld]at h;obtain⟨y,q,a⟩:=aR h.2;obtain⟨_,rfl⟩:=EK q;rw[Ld]at a;obtain⟨t,e,d⟩:=z.ok c a.1;obtain⟨f,k1,k2⟩:=m.ok c a.2;exact⟨_,A2 (c.po h.1) e k1,xo d k2⟩
noncomputable instance[x:CE T (es d)][y:CG T (xO g)][m:CS T (Tc b)]:CU T (Tc (LD.forLS d g b)) where
 chk Γ s:=Γ.fa&&(yi s).any λz=>fZ z.2.1&&x.chk Γ z.2.1&&y.chk Γ z.1&&m.chk Γ z.2.2
 ok c h:=by rw[Ld]at h;obtain⟨z,q,a⟩:=aR h.2;obtain⟨_,rfl⟩:=rN q;simp only[Ld]at a;obtain⟨t,f,e⟩:=x.ok c a.1.1.2;obtain⟨j,⟨k1,_⟩,k2⟩:=y.ok c a.1.2;obtain⟨i,k3,k4⟩:=m.ok c a.2;exact⟨_,LD.ps_unpL (zY (c.po h.1) c.cm (LD.pi_pinL f) k1 k3 (nQ a.1.1.1)),LD.sos_forL e k2 k4⟩
def vD:D->V
 |.int i=>.int i
 |_=>.Se
class afY (l:cc D):Prop where
 h:∀K O H,QC O K H (l.map vD) l
abbrev Nk(lv:Nat)(C:Str)(ps:cc Str)(n:Nat)(F:kh):Fd:=λP w K b a=>F9 P w K b a (L4.Dm P w) lv C ps (x9 K n F)
class FKE (T:cc Fd) (C:Str) (F:kh) (n:Nat) where
 i:Nat
 lv:Nat
 ps:cc Str
 h:T[i]?=cL (Nk lv C ps n F)
abbrev On(lv:Nat)(x f:Str):Fd:=λP w K b a=>∃(C B fI:OL) (e:Obj) (d:Qx) (ps:cc Str),L9.XC K C B fI/\K.lookup fI=cL e/\SX K (.ref fI)=OG/\FnOk P w K b a jC lv fI d ps (L9.Cy C f)/\Binds K d ps []/\Qr K PK x=cL (cL (.ref C))/\b x=cL (.ref C)
class FX (T:cc Fd) (x f:Str) where
 i:Nat
 lv:Nat
 h:T[i]?=cL (On lv x f)
end CC
set_option warn.classDefReducibility false
namespace CC
open PySem L2 L3 L10
variable{T:cc Fd}{A B C J:Jd TE}{U Z:Jd TA}{Q R:Jd TT}
abbrev Mx(lv:Nat)(x f g:Str):Fd:=λP w K b a=>∃(C B fI:OL) (e:Obj) (d:Qx) (ps:cc Str),L9.XC K C B fI/\K.lookup fI=cL e/\SX K (.ref fI)=OG/\FnOk P w K b a jC lv fI d ps (L9.zD C f g)/\Binds K d ps []/\Qr K PK x=cL (cL (.ref C))/\b x=cL (.ref C)
class FX2 (T:cc Fd) (x f g:Str) where
 i:Nat
 lv:Nat
 h:T[i]?=cL (Mx lv x f g)
end CC
set_option warn.classDefReducibility false
namespace CC
open PySem L2 L3 L10
variable{T:cc Fd}{A B C J:Jd TE}{U Z:Jd TA}{Q R:Jd TT}
noncomputable instance:Vl xK:=DK .Add ⟨_,CJ,BN⟩
end CC
set_option warn.classDefReducibility false
namespace CC
open PySem L2 L3 L10
variable{T:cc Fd}
def NY:CE T (eo (pC .none)):=inferInstance
def Nh:Po:=.Constant .none 0 ⟨0,0,0,0⟩
end CC
set_option warn.classDefReducibility false
namespace CC
open PySem L2 L3 L10
variable{T:cc Fd}{A B:Jd TE}
end CC
set_option warn.classDefReducibility false
namespace CC
open PySem L2 L3 L10
variable{T:cc Fd}
end CC
set_option warn.classDefReducibility false
namespace CC
open PySem L2 L3 L10
variable{T:cc Fd}
noncomputable instance:Vl L9.rE:=DK .Mult ⟨_,L9.DA,L9.yx⟩
noncomputable instance:Wo LD.geT:=⟨.GtE,λh=>⟨_,LD.op_geT (by ext),LD.opp_geT⟩⟩
noncomputable instance[u:CA T (ao a)]:CI T (io (fH wQ a)) where
 chk Γ p:=(B3 Γ "range" p.2).any λy=>match y.2.1 with
  |[b]=>u.chk Γ [y.1,b]
  |_=>OP
 ok {Γ X E p} c h:=by
  obtain⟨⟨e,l,w,v⟩,q,f⟩:=aR h;obtain⟨z,g,d⟩:=gO q;obtain⟨o,n,_⟩:=pW c g;obtain⟨r,j⟩:=p;have z:j=_:=z;subst z
  match l,d,f with
  |[b],d,f=>have d:[e,b].all fZ=OG:=d;have i:[b].all fZ=OG:=(Ld _ _▸d:_/\_).2;obtain⟨t,m,k⟩:=u.ok c f;exact⟨_,⟨xw o n m (by rw[da d,da i];rfl) (da i),rfl⟩,Cr k⟩
def Lj(x:Gm->Po->Bool)(Γ:Gm)(e:Po):Bool:=(Lm .NotEq e).any λp=>x Γ p.1&&(ME p.2).any λy=>y.1.isEmpty&&y.2.isEmpty
theorem Ce[x:CE T (es d)]{Γ X E e}(c:Ct T Γ X E)(h:Lj x.chk Γ e=OG):∃t,PE X e t/\PT X e (tB t)/\c7 X.K E t (mF d):=by obtain⟨⟨a,b⟩,q,f⟩:=aR h;rw[Ld]at f;obtain⟨_,rfl,g⟩:=o4 q;obtain⟨ta,i,j⟩:=x.ok c f.1;obtain⟨⟨k,v⟩,k1,k2⟩:=aR f.2;obtain⟨_,k3⟩:=Bj k1;have k3:b=_:=k3;subst k3;simp only[Ld,PX]at k2;obtain⟨rfl,rfl⟩:=k2;exact⟨_,tN (LD.pc_ddne (iQ c) i) g,tQ (LD.pc_ddne (iQ c) i) g,A1 j⟩
noncomputable instance[x:CE T (es d)]:CT T (kf (d5 (mF d))):=⟨Lj x.chk,λc h=>let⟨_,_,h1,h2⟩:=Ce c h;⟨_,h1,yF h2⟩⟩
noncomputable instance[x:CE T (es d)][y:CE T (es k)]:CE T (es (lQ d k)) where
 chk Γ e:=(LK "pop" e).any λz=>x.chk Γ z.1&&match z.2.1 with
  |[e]=>y.chk Γ e
  |_=>OP
 ok {Γ X E e} c h:=by
  obtain⟨⟨o,l,p,q⟩,z,f⟩:=aR h;obtain⟨rfl,j,i,a,_⟩:=oH z;rw[Ld]at f;obtain⟨g,b⟩:=f;obtain⟨ta,t,r⟩:=x.ok c g
  match l,a,b with
  |[e],a,b=>have a:[e].all fZ=OG:=a;obtain⟨tb,n,m⟩:=y.ok c b;refine⟨_,LD.pe_ddpop (iQ c) t n ⟨gv j,oC a (by show 1<20;decide),i,?_⟩,xL r m⟩;rw[da a];rfl
noncomputable instance[x:CE T (es d)]:CE T (es (lR d)) where
 chk Γ e:=(B3 Γ "min" e).any λy=>y.2.1.isEmpty&&(LK "values" y.1).any λz=>z.2.1.isEmpty&&x.chk Γ z.1
 ok c h:=by obtain⟨⟨e,l,w,v⟩,q,f⟩:=aR h;obtain⟨rfl,g,i⟩:=gO q;simp only[Ld,PX]at f;obtain⟨rfl,n⟩:=f;obtain⟨⟨b,l,u,r⟩,z,a⟩:=aR n;obtain⟨rfl,p,o,B,A⟩:=oH z;simp only[Ld,PX]at a;obtain⟨rfl,m⟩:=a;obtain⟨t,k,j⟩:=x.ok c m;exact⟨_,jL c g F8 (.inl ⟨_,rfl⟩) (LD.call_minV c.cm (iQ c)) i (eP (LD.pe_ddvals k (gv p) o) iX (gl rfl)),wF j⟩
noncomputable instance[u:CA T (as a)]:CE T (es (BF se a)) where
 chk Γ e:=(B3 Γ "min" e).any λy=>u.chk Γ (y.1::y.2.1)
 ok c h:=by obtain⟨y,q,f⟩:=aR h;obtain⟨rfl,g,b⟩:=gO q;obtain⟨t,h1,d⟩:=u.ok c f;exact⟨_,jL c g F8 (.inl ⟨_,rfl⟩) (LD.call_min2 c.cm (iQ c)) b h1,zC yQ d⟩
noncomputable instance[x:CE T (es a)]:CE T (es (LD.ddlS a)) where
 chk Γ e:=(B3 Γ "dict" e).any λy=>y.2.1.isEmpty&&x.chk Γ y.1
 ok c h:=by obtain⟨⟨e,l,m,k⟩,q,d⟩:=aR h;obtain⟨rfl,g,b⟩:=gO q;simp only[Ld,PX]at d;obtain⟨rfl,j⟩:=d;obtain⟨t,i,f⟩:=x.ok c j;exact⟨_,jL c g L10.JR (.inr ⟨_,rfl⟩) (LD.call_dictLD c.cm (iQ c)) b (eP i iX (da b)),LD.eos_ddl f⟩
def NT(a:cI):Jd TI:=λK E t=>∃td,c7 K E td a/\t=LD.iPinL td
noncomputable instance[CE T (es a)]:CI T (NT a):=Gv (es a) (f:=λ_=>LD.iPinL) LD.pi_pinL λh=>⟨_,h,rfl⟩
def N0(f:cI):Jd TE:=λK E t=>c7 K E (LD.tUnpL t) f
noncomputable instance[CE T (es f)][CG T (xO g)][CQ T (kf q)][CE T (es a)]:CE T (es (LD.compLS n l f g q a)):=
 let i:CE T (N0 (LD.compLS n l f g q a)):=GW (NT f) (xO g) (kf q) (es a) n l λh1 m j e d b=>by obtain⟨o,k,rfl⟩:=j;exact LD.eos_compL h1 m k e d b
 ⟨i.chk,λc h=>let⟨_,p,q⟩:=i.ok c h;⟨_,LD.pe_unpL p,q⟩⟩
def Oq(j:Nat):CI T MR:=⟨λΓ p=>fZ p.2&&pp j Γ p.2,λc h=>by rw[Ld]at h;exact⟨_,⟨LD.pi_keysD (gJ c h.2),h.1⟩,trivial⟩⟩
def KG(Γ:Gm)(e:Po):Bool:=(zQ e).any λl=>match l with
 |[a,b]=>fZ b&&pp 0 Γ a&&(rJ b).any λu=>fZ u.2.1&&((vC u.2.1).bind cD).any (λz=>dq 2 z (.int 0))&&(rJ u.1).any λv=>fZ v.2.1&&pp 1 Γ v.1&&pp 0 Γ v.2.1
 |_=>OP
theorem Dw{Γ:Gm}{X:Cx}{E:XK}{e:Po}(c:Ct T Γ X E)(h:KG Γ e=OG):PE X e (wH (c8 (fY 0) (c8 (wA (wM X.K) (LD.tPDGet X.K (fY 1) (fY 0)) (tC (.int 0))) iI))):=by
 obtain⟨l,q,h⟩:=aR h;obtain⟨_,_,rfl⟩:=oB q
 match l,h with
 |[a,b],h=>
  have h:=(Ld _ _).mp h;obtain⟨h1,F⟩:=h;have h1:=((Ld _ _).mp h1).2;obtain⟨u,i,j⟩:=aR F;have i:=gu i;subst i;simp only[Ld]at j;obtain⟨⟨C,B⟩,A⟩:=j;obtain⟨d,t,r⟩:=aR B;obtain⟨k,p,o⟩:=P7.mp t;obtain rfl:=vK _ _ _ r;obtain⟨_,_,n⟩:=zA p;cases k<;>cases o;obtain⟨v,m,f⟩:=aR A;simp only[Ld]at f;have w:PE X (.Subscript u.1 u.2.1 u.2.2) (wA (wM X.K) (LD.tPDGet X.K (fY 1) (fY 0)) (tC (.int 0))):=by refine Ff zS ?_ (by rw[n];exact tj) (pP C);rw[gu m];exact LD.pe_pdget (iQ c) (gJ c f.1.2) (gJ c f.2) (pP f.1.1)
  have g:[.Subscript u.1 u.2.1 u.2.2].all fZ=OG:=rfl;exact zE (eP (gJ c h1) (eP w iX (da g)) (da (show[a,.Subscript u.1 u.2.1 u.2.2].all fZ=OG by rw[QZ,Ld];refine⟨?_,g⟩;obtain⟨x,z,_⟩:=aR h1;rw[ny z];rfl)))
def Oc:CQ T (kf rX):=inferInstance
def N6:CG T (xO (jB 0)):=HX 0 lq
noncomputable instance:CE T (es (LD.sortS (LD.restK j))) where
 chk Γ e:=(B3 Γ "sorted" e).any λy=>y.2.1.isEmpty&&(Jb y.1).any λz=>z.2.1.ifs.isEmpty&&D9 1 [j] (Oq (T:=T) j) N6 Oc NY Γ Nh z.2.1 z.2.2.1&&DS 0 (Γ.YZ (Ec z.2.1.target) (nX Γ [j]) z.2.2.1.names) z.2.1.target&&pp j Γ z.2.1.iter&&KG (Γ.YZ (Ec z.2.1.target) (nX Γ [j]) z.2.2.1.names) z.1
 ok {Γ X E e} c h:=by
  obtain⟨⟨e,l,P,O⟩,q,v⟩:=aR h;obtain⟨rfl,g,t⟩:=gO q;simp only[Ld,PX]at v;obtain⟨rfl,J⟩:=v;obtain⟨⟨elt,L,m,p⟩,d,u⟩:=aR J;simp only[Ld,PX,decide_eq_true_eq]at u;obtain⟨⟨⟨⟨o,I⟩,G⟩,B⟩,F⟩:=u;obtain⟨l⟩:=vU c I;obtain⟨b,iter,n,r⟩:=L;obtain rfl:r=0:=l.e;have o:n=[]:=o;subst o;have M:=vh (X:=X) (elt:=elt) (tg:=b) (iter:=iter) (pos:=p) l.own l.fv c.cm (LD.pi_keysD (gJ c B)) (g:=jp 0) (te:=wH (c8 (fY 0) (c8 (wA (wM X.K) (LD.tPDGet X.K (fY 1) (fY 0)) (tC (.int 0))) iI))) (λs H C a=>by obtain⟨N,Q,z,k1,k2,k3⟩:=oh (l.ct s H C a (bf X s H m C (b7 l.own l.fv) a).xe E0) G;have z:b=_:=z;subst z;exact uu (l.ct s H C a (bf X s H m C (b7 l.own l.fv) a).xe E0).nd k1 k2 k3) (λ_ _ _ _=>lW) (λs H C a=>Dw (l.ct s H C a (bf X s H m C (b7 l.own l.fv) a).xe E0) F) l.fvk l.fr l.kd l.nd l.nm l.fold;obtain⟨x,A⟩:=List.length_eq_one_iff.mp l.ln;obtain⟨y,w⟩:∃y,l.fv=[(y,j)]:=by
   have i:=l.fj;generalize l.fv=f at i
   match f,i with
   |[(y,k)],i=>cases i;exact⟨y,rfl⟩
  have d:=u6 d;have d:e=_:=d;subst d;exact⟨_,jL c g yw (.inl ⟨_,rfl⟩) (LD.call_sortP (iQ c)) t (eP (LD.pe_unpD M) iX (da t)),LD.eos_sortS (by rw[A,w];exact LD.eos_restK)⟩
end CC
local macro_rules| `(tactic|walk_at "nm")=> `(tactic|first|((simp only[TZ,Wj]);rfl)|rfl)| `(tactic|walk_at "evf")=> `(tactic|first|with_reducible assumption|with_reducible exact L3.nS _ _|with_reducible exact L3.BT _ _|with_reducible exact L3.Bp _ _|with_reducible exact L3.Zw _ _|with_reducible exact L3.BD _ _|with_reducible exact L3.Fy _ _|with_reducible exact L3.ach _ _|with_reducible exact L3.abH _ _|with_reducible exact L3.ik _ _|with_reducible exact L3.XO _ _|with_reducible exact L3.W0 _ _|with_reducible exact L3.WV _ _|with_reducible exact L3.aaX _ _|with_reducible exact L3.aau _ _|with_reducible exact L3.aaN _ _|with_reducible exact L3.aay _ _|with_reducible exact L3.aaR _ _|with_reducible exact L3.Z7 _ _|with_reducible exact L3.aaY _ _|with_reducible exact L3.aad _ _|with_reducible exact L3.ZC _ _|with_reducible exact L3.aa4 _ _|with_reducible exact L3.abq _ _|with_reducible exact L3.ad4|with_reducible exact L3.aeR|with_reducible exact L3.afp|with_reducible exact L3.HM|with_reducible exact L3.aeg|with_reducible exact L3.Ag|with_reducible exact L3.WY _|with_reducible exact L3.lm _|(with_reducible rfl))| `(tactic|walk_at "ev")=> `(tactic|first
 |with_reducible exact L3.cf
 |((with_reducible apply L3.ae);rfl)
 |((with_reducible apply L3.cV);rfl)
 |with_reducible exact L3.ar
 |with_reducible exact L3.bG
 |((with_reducible apply L3.aK);(·walk_at "ev");(·walk_at "ev");(·rfl);(·rfl);(·walk_at "evf"))
 |((with_reducible apply L3.FR);(·walk_at "ev");(·rfl);(·rfl))
 |((with_reducible apply L3.aj);(·walk_at "ev");(·walk_at "ev"))
 |((with_reducible apply L3.aO);(·walk_at "ev");(·rfl))
 |((with_reducible apply L3.bD);(·walk_at "ev");(·rfl);(·first|walk_at "evf"|rfl))
 |((with_reducible apply L3.cN);(·walk_at "ev");(·rfl);(·rfl);(·with_reducible assumption))
 |((with_reducible apply L3.bP);(·walk_at "ev");(·rfl);(·exact Pl rfl))
 |((with_reducible apply L3.A0);(·walk_at "ev");(·rfl);(·exact Pl rfl))
 |((with_reducible apply L3.ll);(·walk_at "ev");(·rfl);(·rfl))
 |((with_reducible apply L3.bI);(·walk_at "ev");(·rfl))
 |((with_reducible apply L3.fU);(·walk_at "ev");(·walk_at "ev");(·walk_at "ev");(·rfl);(·first|with_reducible assumption|rfl))
 |((with_reducible apply L3.fG);(·walk_at "ev"))
 |((with_reducible apply L3.oD);(·walk_at "ev");(·intro _;walk_at "ev"))
 |((with_reducible apply L3.lB);(·walk_at "ev");(·intro _;walk_at "ev"))
 |((with_reducible apply L3.CN);(·walk_at "ev"))
 |((with_reducible apply L3.u9);(·walk_at "ev");(·intro _;walk_at "ev"))
 |((with_reducible apply L3.Yl);(·walk_at "ev");(·intro _;walk_at "ev"))
 |((with_reducible apply L3.jx);(·walk_at "ev");(·rfl);(·first|with_reducible assumption|rfl))
 |((with_reducible apply L3.b5);(·walk_at "ev");(·rfl);(·rfl))
 |((with_reducible apply L3.ZV);(·walk_at "ev");(·rfl);(·rfl))
 |((with_reducible apply L3.eB);(·rfl);(·walk_at "ev");(·rfl);(·rfl);(·first|with_reducible assumption|(simp only[RI,OQ,L3.eO] at*;ext));(·walk_at "nm"))
 |((with_reducible apply L3.acw);(·rfl);(·walk_at "ev");(·rfl);(·rfl);(·with_reducible assumption);(·with_reducible assumption);(·with_reducible assumption);(·walk_at "nm"))
 |((with_reducible apply L3.nV);(·walk_at "ev");(·rfl);(·walk_at "nm"))
 |((with_reducible apply L3.nW);(·walk_at "ev"))
 |((with_reducible apply L3.tR);(·walk_at "ev");(·rfl)))
local macro_rules| `(tactic|walk_at "evb")=> `(tactic|first
 |((with_reducible apply L3.dr);(·walk_at "ev");(·walk_at "ev");(·rfl);(·rfl);(·walk_at "evf"))
 |((with_reducible apply L3.gk);(·walk_at "ev");(·rfl);(·rfl);(·with_reducible assumption))
 |((with_reducible apply L3.zU);(·walk_at "ev");(·rfl);(·first|walk_at "evf"|rfl))
 |walk_at "ev")
local macro_rules| `(tactic|walk_at "ev")=> `(tactic|first
 |with_reducible assumption
 |((with_reducible apply L3.u9);(·walk_at "ev");(·intro _;walk_at "evb"))
 |((with_reducible apply L3.Yl);(·walk_at "ev");(·intro _;walk_at "evb"))
 |((with_reducible apply L3.Zx);(·walk_at "ev");(·walk_at "ev");(·walk_at "ev");(·rfl);(·rfl);(·rfl);(·walk_at "evf");(·intro _;walk_at "evf"))
 |((with_reducible apply L3.aaA);(·walk_at "ev");(·rfl);(·rfl);(·rfl)))
local macro_rules| `(tactic|walk_at "go")=> `(tactic|first
 |((with_reducible apply L3.aI);(·walk_at "ev");(·rfl);(·walk_at "nm");try walk_at "go")
 |((with_reducible apply L3.pN);(·walk_at "ev");try walk_at "go")
 |((with_reducible apply L3.zc);try walk_at "go")
 |((with_reducible apply L3.cz);try walk_at "go")
 |((with_reducible apply L3.lz);(·walk_at "ev");(·rfl))
 |((with_reducible apply L3.iG);(·walk_at "ev"))
 |((with_reducible apply L3.zT);(·walk_at "ev");(·rfl);(·walk_at "nm"))
 |((with_reducible apply L3.dz);(·walk_at "ev"))
 |((with_reducible apply L3.bL);(·walk_at "ev");(·rfl))
 |((with_reducible apply L3.gF);(·walk_at "ev"))
 |(with_reducible apply L3.dU))
local macro_rules| `(tactic|walk_at "evp")=> `(tactic|((apply Eq.trans);(·walk_at "ev");(·rfl)))
local macro_rules(kind:=«term{_}»)|`({$a})=>`(L3.af $a L3.am)|`({$a,$b})=>`(L3.af $a (L3.af $b L3.am))|`({$a,$b,$c})=>`(L3.af $a (L3.af $b (L3.af $c L3.am)))|`({$a,$b,$c,$d})=>`(L3.af $a (L3.af $b (L3.af $c (L3.af $d L3.am))))
local macro_rules|`(~~~$n)=>`(L3.pC (.int $n))
local macro_rules|`(-($x))=>`(Option.some (.fz $x))
namespace K63
open PySem L2 L3
def eg:FS:=(bX (az dZ (az bi (mZ L0 (aa 0) (cS (aa 1)) (cS (az bi (aa 1) (~~~1)))) (eI {~~~0})) (~~~0)))
def bw:FN:=dF 2 eg
def ci:FS:=(av (aJ (az bi (az aU (aa 0) (~~~1000000007)) (az dX (~~~13) (aa 1))) (gN 2))
 (av (aJ (az aU (az bi (az bi (az dX (aa 2) (az bi (az bi (aa 2) (az dX (aa 1) (aa 1))) (~~~11))) (az dX (~~~40487) (aa 1))) (~~~7)) (~~~1000000033)) (gN 2))
 (bX (az bM (az aU (az bi (az dX (aa 2) (az bi (az bM (aa 2) (~~~7)) (~~~31))) (~~~90001)) (~~~999999937)) (~~~3)))))
def bq:FN:=dF 3 ci
def bV:FS:=(av (aJ (eI am) (gN 2))
 (av (aJ (gb lc {aa 0,az lZ (~~~0) (aa 0)}) (gN 3))
 (av (dG (fH dL {aa 1}) (gN 4) (av (aJ (~~~0) (gN 5))
 (av (dG (fH dL {~~~3}) (gN 6) (aJ (az bi (az dX (aa 5) (az jD (~~~10) (~~~8))) (az aU (bH bq 2 {aa 0,az bi (az dX (~~~3) (aa 4)) (aa 6)}) (az jD (~~~10) (~~~8)))) (gN 5)))
 (av (iP (pJ (aF (az Hz (aa 3) (~~~0))) (ya (aF (az II (aa 0) (~~~0))) (aF (az J1 (aa 0) (az jD (~~~10) (~~~18)))))) (av (aJ (az aU (aa 3) (az jD (~~~10) (~~~24))) (gN 5))
 (aJ (az bM (aa 3) (az jD (~~~10) (~~~24))) (gN 3))) bJ)
 (bQ (eR 2 (aa 5)))))))
 (bX (aa 2)))))
def dQ:FN:=dF 7 bV
def bF:FS:=(av (aJ (pC (.str "")) (gN 1))
 (av (aJ (az bi (~~~1) (az aU (aa 0) (~~~8))) (gN 2))
 (av (aJ (az bM (aa 0) (~~~8)) (gN 0))
 (av (dG (fH dL {aa 2}) (gN 3) (av (aJ (az sI (aa 1) (az IX (pC (.str "abcdefghijklmnopqrstuvwxyz")) (az aU (aa 0) (~~~26)))) (gN 1))
 (aJ (az bM (aa 0) (~~~26)) (gN 0))))
 (bX (aa 1))))))
def dA:FN:=dF 4 bF
def bp:FS:=(av (aJ (az bi (~~~1) (aa 0)) (gN 1))
 (av (aJ (eI am) (gN 2))
 (av (dG (fH dL {~~~12}) (gN 3) (av (iP (aF (az ko (az aU (aa 1) (~~~2)) (~~~1))) (bQ (eR 2 (aa 3))) bJ)
 (aJ (az bM (aa 1) (~~~2)) (gN 1))))
 (bX (gb jt {aa 2})))))
def cG:FN:=dF 4 bp
def bj:FS:=(av (aJ (eI am) (gN 1))
 (av (dG (fH dL {az bi (~~~1) (az aU (az dZ (aa 0) (~~~0)) (~~~20))}) (gN 2) (av (aJ (bH dA 1 {az dZ (aa 0) (az bi (~~~1) (az dX (~~~2) (aa 2)))}) (gN 3))
 (av (aJ (eI am) (gN 4))
 (av (aJ (az bM (az dZ (aa 0) (az bi (~~~2) (az dX (~~~2) (aa 2)))) (~~~6)) (gN 5))
 (av (dG (fH dL {az bi (~~~1) (az aU (az dZ (aa 0) (az bi (~~~2) (az dX (~~~2) (aa 2)))) (~~~6))}) (gN 6) (av (bQ (eR 4 (bH cG 1 {az aU (aa 5) (~~~4095)})))
 (aJ (az bM (aa 5) (~~~4095)) (gN 5))))
 (iP (aF (az Ar (aa 3) (gP 2 [] (uM 1) (gT 2 (li (gN 0) (li (gN 1) xt))) dH (aa 0)))) (bQ (eR 1 (cP {aa 3,gb jt {aa 4}}))) bJ))))))
 (bX (gb jt {aa 1}))))
def cr:FN:=dF 7 bj
def cX:FS:=(av (iP (ya (aF (az II (aa 0) (~~~0))) (aF (az J1 (aa 0) (az jD (~~~10) (~~~18))))) (bX (gb lc {aa 0,az lZ (~~~0) (aa 0)})) bJ)
 (bX (bH bq 2 {bH bq 2 {aa 0,aa 1},~~~3})))
def bz:FN:=dF 2 cX
def cK:FS:=(av (aJ (pC (.str "abcdefghijklmnopqrstuvwxyz")) (gN 2))
 (av (aJ (az IX (aa 2) (az aU (az bM (aa 0) (~~~3)) (~~~26))) (gN 3))
 (av (iP (pJ (aF (az ko (az aU (aa 0) (~~~3)) (~~~0))) (aF (az II (aa 1) (~~~9)))) (bX (gP 1 [3] (fH dL {aa 1}) (gN 0) dH (az L9.rE (aa 1) (az bi (aa 0) (~~~1))))) bJ)
 (av (aJ (az aU (az bM (aa 0) (~~~78)) (~~~8)) (gN 4))
 (av (aJ (az aU (az bM (aa 0) (~~~624)) (az bi (aa 4) (~~~1))) (gN 5))
 (av (aJ (eI am) (gN 6))
 (av (dG (fH dL {aa 1}) (gN 7) (av (aJ (az IX (aa 2) (az aU (az bi (az dX (aa 7) (~~~7)) (az bM (aa 0) (~~~5616))) (~~~26))) (gN 8))
 (bQ (eR 6 (az sI (az sI (az L9.rE (aa 3) (aa 5)) (aa 8)) (az L9.rE (aa 3) (az lZ (aa 4) (aa 5))))))))
 (bX (aa 6)))))))))
def df:FN:=dF 9 cK
def bS:FS:=(av (aJ (eI {cP {~~~0},cP {~~~1},cP {~~~0,~~~1},cP {~~~2,~~~11}}) (gN 2))
 (av (iP (aF (aa 1)) (av (aJ (az bM (aa 0) (~~~4)) (gN 3))
 (av (aJ (eI am) (gN 4))
 (av (dG (fH dL {~~~12}) (gN 5) (av (iP (aF (az ko (az aU (aa 3) (~~~2)) (~~~1))) (bQ (eR 4 (aa 5))) bJ)
 (aJ (az bM (aa 3) (~~~2)) (gN 3))))
 (iP (aF (az Hz (gb cU {aa 4}) (~~~0))) (bX (gb jt {aa 4})) bJ)))) bJ)
 (bX (az dZ (aa 2) (az aU (aa 0) (~~~4))))))
def cO:FN:=dF 6 bS
def cZ:FS:=(av (aJ (bH bw 2 {aa 0,aa 1}) (gN 2))
 (av (iP (ya (aF (az II (aa 2) (~~~0))) (aF (az J1 (aa 2) (az jD (~~~10) (~~~18))))) (bX (bH cr 1 {bH dQ 2 {aa 2,~~~41}})) bJ)
 (av (aJ (bH bz 2 {aa 2,~~~1}) (gN 2))
 (av (aJ (az aU (az bM (aa 2) (~~~6)) (~~~4)) (gN 3))
 (av (aJ (az bi (~~~1) (az aU (aa 2) (~~~6))) (gN 4))
 (av (aJ (~~~4) (gN 5))
 (av (iP (aF (az ko (az aU (az bM (aa 2) (~~~24)) (~~~8)) (~~~3))) (av (aJ (az bi (~~~12) (az aU (az bM (aa 2) (~~~192)) (~~~9))) (gN 4))
 (aJ (~~~6) (gN 5))) bJ)
 (av (aJ (bH df 2 {bH bz 2 {bH bw 2 {aa 0,az bi (aa 1) (~~~1)},~~~2},aa 4}) (gN 6))
 (av (aJ (eI am) (gN 7))
 (av (dG (fH dL {aa 4}) (gN 8) (av (aJ (bH bz 2 {bH bw 2 {aa 0,az bi (az bi (aa 1) (~~~2)) (az aU (aa 8) (~~~6))},az bi (~~~3) (aa 8)}) (gN 9))
 (av (aJ (eI am) (gN 10))
 (av (dG (fH dL {az bi (~~~1) (az aU (aa 9) (aa 5))}) (gN 11) (av (aJ (az bM (aa 9) (~~~4)) (gN 9))
 (bQ (eR 10 (bH cO 2 {az dZ (eI {az aU (aa 9) (~~~2),aa 9,aa 9,aa 9}) (aa 3),az ko (aa 3) (~~~1)})))))
 (bQ (eR 7 (cP {az dZ (aa 6) (aa 8),gb jt {aa 10}})))))))
 (bX (gb jt {aa 7}))))))))))))
def fu:FN:=dF 12 cZ
def gG:FS:=(bX (az ko (mZ kt (aa 1) dJ (cS (gb cU {aa 0}))) (aa 0)))
def ff:FN:=dF 2 gG
def dC:FS:=(av (aJ (eI am) (gN 1))
 (av (dG (fT (aa 0)) (gT 2 (li (gN 2) (li (gN 3) xt))) (dG (fT (aa 0)) (gT 2 (li (gN 4) (li (gN 5) xt))) (iP (pJ (aF (az yd (aa 2) (aa 4))) (aF (bH ff 2 {aa 3,aa 5}))) (bQ (eR 1 (cP {gb cU {aa 5},mZ kt (aa 5) (cS (gb cU {aa 3})) dJ,cP {aa 4},cP {aa 2}}))) bJ)))
 (bX (aa 1))))
def c9:FN:=dF 6 dC
def d7:FS:=(av (aJ (az dZ (aa 1) (~~~0)) (gN 2))
 (av (aJ (az dZ (aa 1) (~~~1)) (gN 3))
 (av (iP (aF (az ko (aa 3) (cP am))) (bX (eI am)) bJ)
 (av (aJ (eI am) (gN 4))
 (av (dG (fT (aa 0)) (gT 2 (li (gN 5) (li (gN 6) xt))) (iP (aF (bH ff 2 {aa 6,aa 3})) (bQ (eR 4 (cP {aa 2,mZ kt (aa 3) (cS (gb cU {aa 6})) dJ,az dZ (aa 1) (~~~2),az bi (az dZ (aa 1) (~~~3)) (cP {aa 5})}))) (iP (aF (bH ff 2 {aa 3,aa 6})) (av (aJ (mZ kt (aa 6) (cS (gb cU {aa 3})) dJ) (gN 7))
 (bQ (eR 4 (cP {az bi (aa 2) (gb cU {aa 7}),aa 7,az bi (az dZ (aa 1) (~~~3)) (cP {aa 5}),az dZ (aa 1) (~~~2)})))) bJ)))
 (bX (aa 4)))))))
def d9:FN:=dF 8 d7
def dB:FS:=(av (aJ (eI am) (gN 1))
 (av (dG (fT (aa 0)) (gT 2 (li (gN 2) (li (gN 3) xt))) (dG (fT (aa 0)) (gT 2 (li (gN 4) (li (gN 5) xt))) (iP (pJ (aF (az yd (aa 2) (aa 4))) (aF (az ko (mZ kt (aa 5) dJ (cS (gb cU {aa 3}))) (aa 3)))) (bQ (eR 1 (cP {mZ kt (aa 5) (cS (gb cU {aa 3})) dJ,gb cU {aa 5}}))) bJ)))
 (bX (aa 1))))
def eE:FN:=dF 6 dB
def dY:FS:=(av (aJ (eI am) (gN 3))
 (av (dG (fT (aa 0)) (gT 2 (li (gN 4) (li (gN 5) xt))) (av (iP (aF (az ko (mZ kt (aa 1) dJ (cS (gb cU {aa 5}))) (aa 5))) (bQ (eR 3 (cP {mZ kt (aa 1) (cS (gb cU {aa 5})) dJ,aa 2}))) bJ)
 (iP (aF (az ko (mZ kt (aa 5) dJ (cS (gb cU {aa 1}))) (aa 1))) (bQ (eR 3 (cP {mZ kt (aa 5) (cS (gb cU {aa 1})) dJ,az lZ (az bi (aa 2) (gb cU {aa 5})) (gb cU {aa 1})}))) bJ)))
 (bX (aa 3))))
def fD:FN:=dF 6 dY
def dw:FS:=(bX (wR (kX "int" (aa 0)) (xq (kX "bool" (aa 0)))))
def bO:FN:=dF 1 dw
def ce:FS:=(av (iP (km (aF (kX "tuple" (aa 0)))) (bX (pC (.bool OP))) bJ)
 (av (dG (fT (aa 0)) (gN 1) (iP (ya (km (aF (kX "tuple" (aa 1)))) (km (aF (gb wJ {gP 1 [] (fT (aa 1)) (gN 0) dH (bH bO 1 {aa 0})})))) (bX (pC (.bool OP))) bJ))
 (bX (pC (.bool OG)))))
def dD:FN:=dF 2 ce
def cR:FS:=(av (iP (km (aF (kX "list" (aa 0)))) (bX (pC (.bool OP))) bJ)
 (av (dG (fT (aa 0)) (gN 1) (iP (ya (km (aF (kX "tuple" (aa 1)))) (ya (aF (az yd (gb cU {aa 1}) (~~~2))) (ya (km (aF (bH dD 1 {az dZ (aa 1) (~~~0)}))) (km (aF (bH bO 1 {az dZ (aa 1) (~~~1)})))))) (bX (pC (.bool OP))) bJ))
 (av (dG (fH wQ {~~~1,gb cU {aa 0}}) (gN 2) (iP (aF (az LD.geT (az dZ (az dZ (aa 0) (az lZ (aa 2) (~~~1))) (~~~0)) (az dZ (az dZ (aa 0) (aa 2)) (~~~0)))) (bX (pC (.bool OP))) bJ))
 (bX (pC (.bool OG))))))
def dS:FN:=dF 3 cR
end K63
namespace K63
open PySem L2 L3 L10
def iw:fR:=(wV (sj (bA 1)) (jB 2) (bC (fQ (aD (az dZ (aa 2) (~~~1))) (jB 3))
 (j3 (bA 0) (aD (aa 3)) (BF se (cY (aD (aa 2)) (cY (jd (bA 0) (aD (aa 3)) (aD (aa 2))) iB))))))
def i6:kh:=jN 4 iw
def bv:fR:=(bC (fQ lG (jB 1))
 (bC (fQ lG (jB 2))
 (bC (je (lL i6 2 (cY (bA 2) (cY (aD (bH c9 1 {aa 0})) iB))))
 (bC (sL (d5 (mF (bA 2))) (bC (fQ (lR (bA 2)) (jB 3))
 (bC (j3 (bA 1) (aD (az dZ (aa 3) (~~~1))) (lQ (bA 2) (aD (az dZ (aa 3) (~~~1)))))
 (je (lL i6 2 (cY (bA 2) (cY (r8 1 [1] (j6 (fT (bH d9 2 {aa 0,aa 3}))) (jB 0) (d5 (gL OG (aD (az dZ (aa 0) (~~~1))) (bA 1))) (aD (aa 0))) iB)))))))
 (jR (bA 1))))))
def cT:kh:=jN 4 bv
def jk:fR:=(bC (fQ (lL cT 1 (cY (aD (aa 0)) iB)) (jB 1))
 (jR (LD.sortS (LD.restK 1))))
def eL:kh:=jN 2 jk
def bU:fR:=(bC (fQ (ji eL 1 (cY (aD (aa 0)) iB)) (jB 1))
 (bC (ja (wO (d5 (zk dS 1 (cY (bA 1) iB)))) (jR (aD (pC .none))) jz)
 (bC (fQ (LD.ddlS (bA 1)) (jB 2))
 (bC (fQ (sB (aD (bH eE 1 {aa 0}))) (jB 3))
 (bC (LD.forLS (bA 1) (Ml 2 (wX (jB 4) (wX (jB 5) Dr))) (ja (mL (aF (az yd (aa 4) (cP am)))) (fQ (sB (aD (az bi (aa 3) (bH fD 3 {aa 0,aa 4,aa 5})))) (jB 3)) jz))
 (bC (wV (j6 (fT (aa 3))) (Ml 2 (wX (jB 4) (wX (jB 5) Dr))) (ja (JT (d5 (gL OG (aD (aa 4)) (bA 2))) (d5 (yG Hz (lC (bA 2) (aD (aa 4))) (aD (aa 5))))) (jR (aD (pC .none))) jz))
 (bC (fQ (LD.ddlS (aD (gP 1 [] (fT (aa 3)) (gN 0) dH (cP {aa 0,pC (.bool OG)})))) (jB 6))
 (bC (ja (wO (d5 (BF wJ (cY (LD.compLS 1 [6] (bA 1) (jB 0) rX (gL OP (aD (aa 0)) (bA 1))) iB)))) (jR (aD (pC .none))) jz)
 (bC (fQ (BF wK (cY (bA 1) iB)) (jB 7))
 (bC (je (Bo (bA 1) (aD (cP {cP am,~~~0}))))
 (jR (bA 7))))))))))))
def bT:kh:=jN 8 bU
def qC:fR:=(bC (fQ (aD (bH fu 2 {aa 0,~~~0})) (jB 1))
 (bC (fQ (aD (gb jt {gP 2 [] (fT (az xK (mZ kt (aa 1) (cS (~~~1)) dJ) (mZ kt (aa 1) dJ (cS (~~~1))))) (gT 2 (li (gN 0) (li (gN 1) xt))) dH (cP {aa 0,Ih L9.xB (aa 1)})})) (jB 2))
 (bC (fQ (ji bT 1 (cY (aD (aa 1)) iB)) (jB 3))
 (bC (ja (JT (d5 (yG su (bA 3) (aD (pC .none)))) (d5 (yG su (ji bT 1 (cY (aD (aa 2)) iB)) (aD (pC .none))))) (jR (aD (pC (.bool OP)))) jz)
 (jR (yG ko (ji eL 1 (cY (aD (aa 1)) iB)) (bA 3)))))))
def F_law:kh:=jN 4 qC
def AR(a:cc Int)(lo hi:cj Int):cc Int:=(a.drop (HT.sIx a.length 0 lo)).take (HT.sIx a.length a.length hi - HT.sIx a.length 0 lo)
theorem nN(a:cc Int)(k:Int)(f:0<=k)(e:a.length<=63):∃c:Int,bw [.list (a.map .int),.int k]=.ok (.fz (.int c)):=by
 unfold bw eg;have e1:L0 (.list (a.map .int)) (cL k) (cL (k+1))=cL (.ow (gC (a.map .int) (cL k) (cL (k+1)))):=rfl;have d:gC (a.map OD.int) (cL k) (cL (k+1))=(AR a (cL k) (cL (k+1))).map .int:=by unfold gC AR;rw[OH,SU,TR]
 rw[d]at e1;have b:(AR a (cL k) (cL (k+1))).length<=63:=by unfold AR;rw[P4,Qy];ext
 generalize AR a (cL k) (cL (k+1))=cs at e1 b;have e2:bi (.list (cs.map .int)) (.list [.int 0])=cL (.ow (cs.map .int++[.int 0])):=by show(if(cs.map OD.int).length+1<=1000000 then _ else _)=_;rw[OH,ai (by ext)]
 cases cs with
 |nil=>have e3:dZ (.list (([]:cc Int).map OD.int++[.int 0])) (.int 0)=-(.int 0):=HM;exact⟨0,fM (ρ:=[-(.list (a.map .int)),-(.int k)]) rfl (bL (by walk_at "ev") rfl rfl)⟩
 |cons c r=>have e3:dZ (.list ((c::r).map OD.int++[.int 0])) (.int 0)=-(.int c):=HM;exact⟨c,fM (ρ:=[-(.list (a.map .int)),-(.int k)]) rfl (bL (by walk_at "ev") rfl rfl)⟩
theorem iU(c s:Int)(h0:0<=s)(h1:s<=1000):∃r:Int,0<=r/\bq [.int c,.int s]=.ok (.fz (.int r)):=by unfold bq ci;have i:0<=c % 1000000007/\c % 1000000007<1000000007:=⟨Px _ (by decide),PB _ (by decide)⟩;have g:aU (.int c) (.int 1000000007)=-(.int (c % 1000000007)):=a5 (by decide);have m:dX (.int 13) (.int s)=-(.int (13*s)):=eY ⟨by ext,by ext⟩;generalize c % 1000000007=x at i g;have e:dX (.int s) (.int s)=-(.int (s*s)):=eY ⟨by ext,by ext⟩;generalize s*s=ss at e;have d:dX (.int (x+13*s)) (.int (x+13*s+ss+11))=-(.int ((x+13*s)*(x+13*s+ss+11))):=eY ⟨by ext,by ext⟩;generalize (x+13*s)*(x+13*s+ss+11)=y at d;have l:dX (.int 40487) (.int s)=-(.int (40487*s)):=eY ⟨by ext,by ext⟩;have h:0<=(y+40487*s+7) % 1000000033/\(y+40487*s+7) % 1000000033<1000000033:=⟨Px _ (by decide),PB _ (by decide)⟩;have b:aU (.int (y+40487*s+7)) (.int 1000000033)=-(.int ((y+40487*s+7) % 1000000033)):=a5 (by decide);generalize (y+40487*s+7) % 1000000033=z at h b;have k:bM (.int z) (.int 7)=-(.int (z/7)):=bZ ⟨by ext,by ext⟩;have a:dX (.int z) (.int (z/7+31))=-(.int (z*(z/7+31))):=eY ⟨by ext,by ext⟩;generalize z*(z/7+31)=u at a;have n:0<=(u+90001) % 999999937:=Px _ (by decide);have j:aU (.int (u+90001)) (.int 999999937)=-(.int ((u+90001) % 999999937)):=a5 (by decide);have f:bM (.int ((u+90001) % 999999937)) (.int 3)=-(.int ((u+90001) % 999999937/3)):=bZ ⟨by ext,by ext⟩;refine⟨(u+90001) % 999999937/3,by ext,fM (ρ:=[-(.int c),-(.int s),CL]) rfl (oA (zr (by walk_at "ev") rfl (oA (zr (by walk_at "ev") rfl (bL (by walk_at "ev") rfl rfl)))))⟩
theorem B1(c:Int):0<=if 0 - c>c then 0 - c else c:=by split<;>ext
theorem oj(c s:Int)(h0:0<=s)(h1:s<=1000):∃r:Int,0<=r/\bz [.int c,.int s]=.ok (.fz (.int r)):=by
 unfold bz cX;obtain⟨r,f,er⟩:=iU c s h0 h1;obtain⟨q,b,eq⟩:=iU r 3 (by decide) (by decide);have d:lc [.int c,.int (0 - c)]=-(.int (if 0 - c>c then 0 - c else c)):=rfl;have a:=B1 c;generalize (if 0 - c>c then 0 - c else c)=mx at d a;obtain⟨rv,e,t⟩:=gn (ds:=[.int c,.int s]) (ρ:=[-(.int c),-(.int s)]) (n:=2) (g:=cX) (T:=λv=>∃r:Int,0<=r/\v=.fz (.int r)) rfl
  (oA (gF (by walk_at "ev") (λ_=>bL (by walk_at "ev") rfl ⟨mx,a,rfl⟩) (λ_=>dU (bL (by walk_at "ev") rfl ⟨q,b,rfl⟩))))
 obtain⟨r,h,rfl⟩:=t;exact⟨r,h,e⟩
theorem xx(c:Int):∃xs:cc Int,xs.length=41/\(∀x∈xs,0<=x)/\dQ [.int c,.int 41]=.ok (.ow (xs.map .int)):=by
 have o:=B1 c;have J:lc [.int c,.int (0 - c)]=-(.int (if 0 - c>c then 0 - c else c)):=rfl;generalize (if 0 - c>c then 0 - c else c)=mx at J o;have O:=M7;have A:=Kz;have w:dL [.int 41]=cL (my (PH 41)):=gM (n:=41) (by decide) (by decide);have N:dL [.int 3]=cL (my (PH 3)):=gM (n:=3) (by decide) (by decide);obtain⟨rv,e,xs,h1,I,rfl⟩:=gn (ds:=[.int c,.int 41]) (ρ:=[-(.int c),-(.int 41),CL,CL,CL,CL,CL]) (n:=7) (g:=bV) (T:=λv=>∃xs:cc Int,xs.length=41/\(∀x∈xs,0<=x)/\v=.ow (xs.map .int)) rfl (by
  unfold bV;walk_at "go"
  with_reducible apply cg (λi ρ=>∃(xs:cc Int) (l:Int) (f b a:cj PV),ρ=[-(.int c),-(.int 41),cL (.ow (xs.map .int)),-(.int l),f,b,a]/\xs.length=i/\(∀x∈xs,0<=x)/\0<=l)
  .walk_at "ev"
  .exact⟨[],mx,CL,CL,CL,rfl,rfl,λx h=>(by cases h),o⟩
  .rintro i d ρ hi ⟨xs,l,f,b,a,rfl,hxl,hx,hl⟩
   obtain⟨k,u,rfl⟩:=dR hi;have L:k<41:=QK.mp (O9 u);have K:i<41:=by have:=(OI.mp u).1;simpa using this
   refine⟨[-(.int c),-(.int 41),cL (.ow (xs.map .int)),-(.int l),-(nd k),b,a],rfl,?_⟩;refine aI (ρ3:=[-(.int c),-(.int 41),cL (.ow (xs.map .int)),-(.int l),-(nd k),-(.int 0),a]) cf rfl rfl ?_
   with_reducible apply cg (λi ρ=>∃(x:Int) (a:cj PV),ρ=[-(.int c),-(.int 41),cL (.ow (xs.map .int)),-(.int l),-(nd k),-(.int x),a]/\0<=x)
   .walk_at "ev"
   .exact⟨0,a,rfl,by decide⟩
   .rintro j d ρ H ⟨x,a,rfl,Z9⟩;obtain⟨q,M,rfl⟩:=dR H;have G:q<3:=QK.mp (O9 M);obtain⟨r,U,er⟩:=iU c (3*(k:Int)+(q:Int)) (by ext) (by ext);have S:dX (.int 3) (nd k)=-(.int (3*(k:Int))):=eY ⟨by ext,by ext⟩;have Q:dX (.int x) (.int (10^8))=-(.int (x*10^8)):=rG ⟨by decide,by decide⟩;have E:aU (.int r) (.int (10^8))=-(.int (r % 10^8)):=a5 (by decide);have p:0<=r % 10^8:=Px _ (by decide);refine⟨_,rfl,?_⟩;walk_at "go";refine⟨x*10^8+r % 10^8,_,rfl,?_⟩;have:0<=x*10^8:=Int.mul_nonneg Z9 (by decide);ext
   .rintro ρ ⟨x,a,rfl,Z9⟩
    have E:aU (.int l) (.int (10^24))=-(.int (l % 10^24)):=a5 (by decide);have P:bM (.int l) (.int (10^24))=-(.int (l/10^24)):=bZ ⟨by decide,by decide⟩;have p:0<=l % 10^24:=Px _ (by decide);have C:0<=l/10^24:=Rh hl (by decide)
    have m:∀(x l:Int) (a:cj PV),0<=x->0<=l->Go (bQ (eR 2 (aa 5)) [-(.int c),-(.int 41),cL (.ow (xs.map .int)),-(.int l),-(nd k),-(.int x),a])
      (λρ=>∃(xs:cc Int) (l:Int) (f b a:cj PV),ρ=[-(.int c),-(.int 41),cL (.ow (xs.map .int)),-(.int l),f,b,a]/\xs.length=i+1/\(∀x∈xs,0<=x)/\0<=l)
      (λρ=>∃(xs:cc Int) (l:Int) (f b a:cj PV),ρ=[-(.int c),-(.int 41),cL (.ow (xs.map .int)),-(.int l),f,b,a]/\xs.length=i+1/\(∀x∈xs,0<=x)/\0<=l)
      (λv=>∃xs:cc Int,xs.length=41/\(∀x∈xs,0<=x)/\v=.ow (xs.map .int)):=λx l a h0 h1=>by
     have t:(xs.map OD.int).length<1000000:=by rw[OH];ext
     refine dz (by walk_at "ev") ⟨xs++[x],l,_,_,_,by rw[Pm];rfl,by rw[OO,hxl];rfl,λy F=>?_,h1⟩;rcases Pf.mp F with z|z
     .exact hx y z
     .rw[OU.mp z];exact h0
    have B:=Ag;walk_at "go"
    .intro _;walk_at "go";exact m _ _ _ p C
    .intro _;exact cz (m _ _ _ Z9 hl)
  .rintro ρ ⟨xs,l,f,b,a,rfl,hxl,hx,hl⟩;exact bL (by walk_at "ev") rfl ⟨xs,hxl,hx,rfl⟩)
 exact⟨xs,h1,I,e⟩
def tx(l:cc Nat):Str:=⟨l.toArray⟩
theorem Iy(a b:cc Nat):tx a++tx b=tx (a++b):=by show(⟨a.toArray++b.toArray⟩:Str)=⟨(a++b).toArray⟩;rw[List.append_toArray]
theorem jT(l:cc Nat):(tx l).length=l.length:=by rfl
theorem mM{l:cc Nat}(h:∀c∈l,c<1114112):OD.strOk (tx l)=OG:=by show l.toArray.all (λc=>decide (c<0x110000))=OG;rw[<-WB,PF];exact λc a=>a6 (h c a)
theorem JK{a b:cc Nat}(h:tx a=tx b):a=b:=ey (λz:Str=>z.cps.toList) h
theorem nZ{a b:cc Nat}(h:a.length+b.length<=1000):sI (.str (tx a)) (.str (tx b))=-(.str (tx (a++b))):=by show(if(tx a).length+(tx b).length<=1000000 then cL (RV.fz (.str (tx a++tx b)))else CL)=_;rw[jT,jT,ai (by ext),Iy]
theorem ug(c:Nat):∀(n:Nat) (a:Array Nat),(ON n (#[c]:Array Nat)).foldl (·++·) a=a++(ON n c).toArray
 |0,a=>by simp
 |n+1,a=>by rw[Qh,Th,ug c n,Qh];apply Array.toList_inj.mp;simp
theorem GY(c:Nat)(n:Nat):Txt.mul (tx [c]) (n:Int)=tx (ON n c):=by
 unfold Txt.mul;by_cases h0:n=0
 .subst h0;rfl
 rw[ak (by ext)];by_cases h1:n=1
 .subst h1;rfl
 rw[ak (by intro z;have z:(((n:Int)==1)||((tx [c]).length==0))=OG:=z;rw[jT]at z;simp at z;ext)];show(⟨(ON (n:Int).toNat (#[c]:Array Nat)).foldl (·++·) #[]⟩:Str)=_;rw[ug,Qp];simp;rfl
theorem oU{c:Nat}{i:Int}(h0:0<=i)(h1:i<=1000):L9.rE (.str (tx [c])) (.int i)=-(.str (tx (ON i.toNat c))):=by show(if(tx [c]).length<=1000/\0<=i/\i<=1000 then cL (RV.fz (.str (Txt.mul (tx [c]) i)))else CL)=_;rw[ai ⟨by rw[jT];exact Pl rfl,h0,h1⟩];obtain⟨n,rfl⟩:∃n:Nat,i=(n:Int):=⟨i.toNat,by ext⟩;rw[GY,Qp]
abbrev Wd:=cc Nat×cc (cc Int)
def kD(ks:cc Int):D:=.tuple (ks.map .int)
def wD(e:Wd):D:=.tuple [.str (tx e.1),.tuple (e.2.map kD)]
def aW(B:cc Wd):D:=.tuple (B.map wD)
theorem n9{α:Type}{f g:α->D}{gt:FG}{fe:FE}{a:aB}(I:aB->Prop)(xs:cc α)(n:xs.length<=1000000)(h0:I a)(h:∀x∈xs,∀ρ,I ρ->∃ρ',ke gt dH fe (f x) ρ=.ok (cL (g x),ρ')/\I ρ'):jU (cW gt dH fe (xs.map f) a [])=.ok (xs.map g):=by
 obtain⟨ys,h1,m,l⟩:=yN (gt:=gt) (ft:=dH) (fe:=fe) (ds:=xs.map f) (ρ:=a) I (λi y=>∃x,xs[i]?=cL x/\y=g x) h0 (by simp_all) (by
  intro i d hi ρ j;rw[OT]at hi;cases q:xs[i]? with
  |none=>simp_all
  |some x=>
   obtain rfl:d=f x:=by simp_all
   obtain⟨ρ',e,b⟩:=h x (O9 q) ρ j;exact⟨_,_,e,b,x,rfl,rfl⟩)
 rw[h1];congr 1;refine SQ λi=>?_;rw[OT];cases q:ys[i]? with
 |none=>
  have:xs.length<=i:=by have:=List.getElem?_eq_none_iff.mp q;rw[m,OH]at this;exact this
  rw[Vv this];rfl
 |some y=>obtain⟨x,k,rfl⟩:=l i y q;rw[k];rfl
theorem o0{α:Type}{f g:α->D}{fe:FE}{cp:aB}(xs:cc α)(b:xs.length<=1000000)(e:cn cp=cp)(d:∀x∈xs,fe (-(f x)::cp)=.ok (.fz (g x),-(f x)::cp)):jU (cW (gN 0) dH fe (xs.map f) (CL::cp) [])=.ok (xs.map g):=by
 refine n9 (λρ=>∃o,ρ=o::cp) xs b ⟨CL,rfl⟩ ?_;rintro x a ρ ⟨o,rfl⟩;have h:cn (cL (PV.fz (f x))::cp)=-(f x)::cp:=by show yH _::cn cp=_;rw[e];rfl
 exact⟨_,HU rfl rfl (d x a) rfl h,_,rfl⟩
theorem rV(p:α->Bool):∀l:cc α,oW (l.map λc=>OD.bool (p c))=cL (l.map p)
 |[]=>rfl
 |c::r=>by show(oW (r.map λc=>OD.bool (p c))).map (p c::·)=_;rw[rV p r];rfl
theorem qk(p:α->Bool)(l:cc α):wJ [.list (l.map λc=>OD.bool (p c))]=-(.bool (l.all p)):=by show(oW _).map (λbs=>RV.fz (.bool (bs.all id)))=_;rw[rV];simp_all
def xE(ks:cc Int):Bool:=(ks.zip (ks.drop 1)).all λp=>decide (p.1<p.2)
def NR(k:Int):Bool:=decide (0<=k)&&decide (k<12)
def x5(ks:cc Int):Bool:=decide ((ks.length:Int)≥1)&&(xE ks&&ks.all NR)
theorem wm(a b:cc Nat):OD.eqv (.str (tx a)) (.str (tx b))=decide (a=b):=by show decide (tx a=tx b)=_;exact decide_eq_decide.mpr ⟨JK,λh=>by rw[h]⟩
theorem nO:∀{L:cc (cc Nat)},(∀l∈L,∀c∈l,c<1114112)->OD.canLayAll0 (L.map λl=>OD.str (tx l))=OG
 |[],_=>rfl
 |l::r,h=>by show(OD.strOk (tx l)&&OD.canLayAll0 (r.map λl=>OD.str (tx l)))=OG;rw[mM (h l O0),nO λm hm=>h m (OV _ hm)];rfl
theorem pI(w:cc Nat):∀L:cc (cc Nat),((L.map λl=>OD.str (tx l)).any λe=>OD.eqv e (.str (tx w)))=decide (w∈L)
 |[]=>rfl
 |l::r=>by
  rw[OM,List.any_cons,pI w r,wm];by_cases h:l=w
  .subst h;simp
  .have:¬w=l:=λz=>h z.symm;simp[h,this]
theorem CY{w:cc Nat}{L:cc (cc Nat)}(a:∀c∈w,c<1114112)(b:∀l∈L,∀c∈l,c<1114112):Ar (.str (tx w)) (.list (L.map λl=>OD.str (tx l)))=-(.bool (!decide (w∈L))):=by show(if((OD.strOk (tx w)&&decide (0<=64))&&OD.canLayAll0 (L.map λl=>OD.str (tx l)))=OG then cL (RV.fz (.bool (!(L.map λl=>OD.str (tx l)).any λe=>OD.eqv e (.str (tx w)))))else CL)=_;rw[mM a,nO b,pI];rfl
section
variable{n:Nat}{B:cc Wd}
end
theorem rc:∀ks:cc Int,xE ks=OG↔ks.Pairwise (·<·)
 |[]=>by simp[xE]
 |[a]=>by simp[xE]
 |a::b::r=>by
  have g:=rc (b::r);have e:xE (a::b::r)=(decide (a<b)&&xE (b::r)):=rfl;rw[e,Ld,decide_eq_true_iff,g];constructor
  .rintro⟨h1,f⟩
   refine QR.mpr ⟨λx d=>?_,f⟩;rcases Pe.mp d with rfl|d
   .exact h1
   .exact Zp h1 ((QR.mp f).1 x d)
  .exact λh=>have z:=QR.mp h;⟨z.1 b O0,z.2⟩
theorem NP:∀ks:cc Int,OD.canLayAll0 (ks.map OD.int)=OG
 |[]=>rfl
 |k::r=>by show(OG&&OD.canLayAll0 (r.map OD.int))=OG;rw[NP r];rfl
theorem LW:∀ks:cc Int,OD.depthAll (ks.map OD.int)=0
 |[]=>rfl
 |k::r=>by show max 0 (OD.depthAll (r.map OD.int))=0;rw[LW r];rfl
theorem Jg:∀a b:cc Int,OD.eqvAll (a.map OD.int) (b.map OD.int)=decide (a=b)
 |[],[]=>rfl
 |[],_::_=>rfl
 |_::_,[]=>rfl
 |x::r,y::t=>by show(decide (x=y)&&OD.eqvAll (r.map OD.int) (t.map OD.int))=_;rw[Jg r t];by_cases h:x=y<;>by_cases g:r=t<;>simp[h,g]
section
variable{n:Nat}{B:cc Wd}
theorem jW:∀ss:cc (cc Int),OD.canLayAll0 (ss.map kD)=OG
 |[]=>rfl
 |ks::r=>by show(OD.canLayAll0 (ks.map OD.int)&&OD.canLayAll0 (r.map kD))=OG;rw[NP,jW r];rfl
theorem gH:∀ss:cc (cc Int),OD.depthAll (ss.map kD)<=1
 |[]=>P0 _
 |ks::r=>by show max (OD.depthAll (ks.map OD.int)+1) (OD.depthAll (r.map kD))<=1;rw[LW];have:=gH r;ext
end
theorem pf{i:Int}(h0:0<=i)(h1:i<26):IX (.str "abcdefghijklmnopqrstuvwxyz") (.int i)=-(.str (tx [97+i.toNat])):=by
 have a:∀c,c<26->(("abcdefghijklmnopqrstuvwxyz":Str).cps.toList)[c]?=cL (97+c):=by decide+kernel
 have b:("abcdefghijklmnopqrstuvwxyz":Str).length<=1000000:=by decide+kernel
 show(if("abcdefghijklmnopqrstuvwxyz":Str).length<=1000000 then(mS ("abcdefghijklmnopqrstuvwxyz":Str).cps.toList i).map (λc=>RV.fz (.str ⟨#[c]⟩))else CL)=_;rw[ai b,u4 h0 (a i.toNat (by ext))];rfl
def yV(l:cc Nat):Prop:=∀c∈l,97<=c/\c<=122
theorem pR{a b:cc Nat}(h:yV a)(g:yV b):yV (a++b):=λc d=>by
 rcases Pf.mp d with z|z
 .exact h c z
 .exact g c z
theorem vR{i:Int}(h0:0<=i)(h1:i<26):yV [97+i.toNat]:=λc a=>by rw[OU.mp a];ext
theorem EI{i:Int}(h0:0<=i)(h1:i<26)(n:Nat):yV (ON n (97+i.toNat)):=λc a=>by rw[(List.mem_replicate.mp a).2];ext
theorem Ey:(OD.str "")=.str (tx []):=by
 have:("":Str)=tx []:=by decide+kernel
 rw[this]
theorem sZ{x:Int}(u:0<=x):∃l:cc Nat,yV l/\1<=l.length/\l.length<=8/\dA [.int x]=.ok (.fz (.str (tx l))):=by
 have C:0<=x % 8/\x % 8<8:=⟨Px _ (by decide),PB _ (by decide)⟩;have t:aU (.int x) (.int 8)=-(.int (x % 8)):=a5 (by decide);have r:bM (.int x) (.int 8)=-(.int (x/8)):=bZ ⟨by decide,by decide⟩;have p:dL [.int (1+x % 8)]=cL (my (PH (1+x % 8).toNat)):=gM (by ext) (by ext);have o:0<=x/8:=Rh u (by decide);generalize x/8=x8 at r o;generalize x % 8=xm at t C p;obtain⟨rv,e,l,h1,B,A,rfl⟩:=gn (ds:=[.int x]) (ρ:=[-(.int x),CL,CL,CL]) (n:=4) (g:=bF) (T:=λv=>∃l:cc Nat,yV l/\1<=l.length/\l.length<=8/\v=.fz (.str (tx l))) rfl (by
  unfold bF;rw[Ey];walk_at "go"
  with_reducible apply cg (λi ρ=>∃(y:Int) (l:cc Nat) (j:cj PV),ρ=[-(.int y),-(.str (tx l)),-(.int (1+xm)),j]/\l.length=i/\yV l/\0<=y)
  .walk_at "ev"
  .exact⟨x8,[],CL,rfl,rfl,(λc h=>by cases h),o⟩
  .rintro i d ρ hi ⟨y,l,j,rfl,hl,hL,hy⟩
   obtain⟨k,w,rfl⟩:=dR hi;have z:i<(1+xm).toNat:=by have:=(OI.mp w).1;simpa using this
   have f:0<=y % 26/\y % 26<26:=⟨Px _ (by decide),PB _ (by decide)⟩;have H:aU (.int y) (.int 26)=-(.int (y % 26)):=a5 (by decide);have G:bM (.int y) (.int 26)=-(.int (y/26)):=bZ ⟨by decide,by decide⟩;have q:0<=y/26:=Rh hy (by decide);have E:=pf f.1 f.2;have m:=vR f.1 f.2;have F:=nZ (a:=l) (b:=[97+(y % 26).toNat]) (by rw[P8];ext);generalize 97+(y % 26).toNat=c at E m F;refine⟨_,rfl,?_⟩;walk_at "go";exact⟨y/26,l++[c],_,rfl,by rw[OO,hl];rfl,pR hL m,q⟩
  .rintro ρ ⟨y,l,j,rfl,hl,hL,hy⟩;rw[eO,PD]at hl;exact bL (ae rfl) rfl ⟨l,hL,by ext,by ext,rfl⟩)
 exact⟨l,h1,B,A,e⟩
structure VR(i:Nat)(ks:cc Int):Prop where
 pw:ks.Pairwise (·<·)
 lo:∀k∈ks,0<=k/\k<i
theorem VR.nil:VR 0 []:=⟨UL,λk h=>by cases h⟩
theorem VR.same{i:Nat}{ks:cc Int}(h:VR i ks):VR (i+1) ks:=⟨h.pw,λk a=>by have:=h.lo k a;ext⟩
theorem VR.snoc{i:Nat}{ks:cc Int}(h:VR i ks):VR (i+1) (ks++[(i:Int)]):=by
 refine⟨PU.mpr ⟨h.pw,Vh _ _,λa ha b e=>?_⟩,λk d=>?_⟩
 .rw[OU.mp e];exact(h.lo a ha).2
 .rcases Pf.mp d with z|z
  .have:=h.lo k z;ext
  .rw[OU.mp z];ext
theorem ze:∀{ks:cc Int} {a b:Int},ks.Pairwise (·<·)->(∀k∈ks,a<=k/\k<b)->a<=b->(ks.length:Int)<=b - a
 |[],a,b,_,_,h=>by rw[RI];ext
 |k::r,a,b,hp,hk,h=>by obtain⟨h1,e⟩:=QR.mp hp;have f:=hk k O0;have:=ze (a:=k+1) (b:=b) e (λx d=>⟨by have:=h1 x d;ext,(hk x (OV _ d)).2⟩) (by ext);rw[OQ];ext
theorem VR.len{i:Nat}{ks:cc Int}(h:VR i ks):ks.length<=i:=by have:=ze h.pw h.lo (by ext);ext
theorem VR.st{ks:cc Int}(h:VR 12 ks)(b:1<=ks.length):x5 ks=OG:=by
 unfold x5;rw[a6 (by ext),(rc ks).mpr h.pw,PF.mpr λk a=>?_]
 .rfl
 .have:=h.lo k a;unfold NR;rw[a6 this.1,a6 (show k<12 by ext)];rfl
theorem LJ(m:Int):ko (.int (m % 2)) (.int 1)=-(.bool (decide (m % 2=1))):=ik _ _
theorem o5{x:Int}(u:0<=x)(w:x<4095):∃ks:cc Int,x5 ks=OG/\ks.length<=12/\cG [.int x]=.ok (.fz (kD ks)):=by
 have o:dL [.int 12]=cL (my (PH 12)):=gM (n:=12) (by decide) (by decide);obtain⟨rv,e,ks,h1,l,rfl⟩:=gn (ds:=[.int x]) (ρ:=[-(.int x),CL,CL,CL]) (n:=4) (g:=bp) (T:=λv=>∃ks:cc Int,x5 ks=OG/\ks.length<=12/\v=.fz (kD ks)) rfl (by
  unfold bp;walk_at "go"
  with_reducible apply cg (λi ρ=>∃(m:Int) (ks:cc Int) (a:cj PV),ρ=[-(.int x),-(.int m),cL (.ow (ks.map .int)),a]/\VR i ks/\0<=m/\m<2^(12 - i)/\(1<=ks.length\/1<=m))
  .walk_at "ev"
  .exact⟨1+x,[],CL,rfl,.nil,by ext,by show 1+x<4096;ext,.inr (by ext)⟩
  .rintro i d ρ hi ⟨m,ks,a,rfl,hU,h0,hm,Sf⟩
   obtain⟨k,j,rfl⟩:=dR hi;obtain⟨h,e⟩:=OI.mp j;rw[Ra]at e;subst e;rw[PD]at h;have t:aU (.int m) (.int 2)=-(.int (m % 2)):=a5 (by decide);have r:bM (.int m) (.int 2)=-(.int (m/2)):=bZ ⟨by decide,by decide⟩;have e2:=LJ m;have f:(2:Int)^(12 - i)=2*2^(12 - (i+1)):=by rw[show 12 - i=(12 - (i+1))+1 by ext,Int.pow_succ,Int.mul_comm]
   rw[f]at hm;generalize (2:Int)^(12 - (i+1))=p at hm;have b:(ks.map OD.int).length<1000000:=by rw[OH];have:=hU.len;ext
   refine⟨_,rfl,?_⟩;walk_at "go"
   .intro q;have q:=b9 q;walk_at "go";exact⟨m/2,ks++[(i:Int)],_,by rw[Pm];rfl,hU.snoc,by ext,by ext,.inl (by rw[OO,P8];ext)⟩
   .intro q;have q:=of_decide_eq_false q;refine cz ?_;walk_at "go";exact⟨m/2,ks,_,rfl,hU.same,by ext,by ext,Sf.imp id λz=>by ext⟩
  .rintro ρ ⟨m,ks,a,rfl,hU,h0,hm,Sf⟩;rw[eO,PD]at hm hU;have hm:m<1:=hm;exact bL (pv:=.fz (kD ks)) (bD (rv:=.fz (kD ks)) (aj (cV rfl) ar) rfl rfl) rfl ⟨ks,hU.st (by ext),hU.len,rfl⟩)
 exact⟨ks,h1,l,e⟩
theorem wE{c:Int}(J:0<=c)(w:Bool):∃ks:cc Int,x5 ks=OG/\ks.length<=12/\cO [.int c,.bool w]=.ok (.fz (kD ks)):=by
 have E:dL [.int 12]=cL (my (PH 12)):=gM (n:=12) (by decide) (by decide);have I:bM (.int c) (.int 4)=-(.int (c/4)):=bZ ⟨by decide,by decide⟩;have F:aU (.int c) (.int 4)=-(.int (c % 4)):=a5 (by decide);have t:0<=c % 4/\c % 4<4:=⟨Px _ (by decide),PB _ (by decide)⟩;obtain⟨f,k1,k2,z⟩:∃ks:cc Int,x5 ks=OG/\ks.length<=12/\dZ (.list [kD [0],kD [1],kD [0,1],kD [2,11]]) (.int (c % 4))=-(kD ks):=by
  generalize c % 4=j at t;obtain⟨n,rfl⟩:∃n:Nat,j=(n:Int):=⟨j.toNat,by ext⟩
  match n,t with
  |0,_=>exact⟨[0],rfl,by decide,B9 (i:=0) rfl⟩
  |1,_=>exact⟨[1],rfl,by decide,B9 (i:=1) rfl⟩
  |2,_=>exact⟨[0,1],rfl,by decide,B9 (i:=2) rfl⟩
  |3,_=>exact⟨[2,11],rfl,by decide,B9 (i:=3) rfl⟩
  |n+4,h=>ext
 have a:∀(p o l:cj PV),Go (bX (az dZ (aa 2) (az aU (aa 0) (~~~4))) [-(.int c),-(.bool w),cL (.ow [kD [0],kD [1],kD [0,1],kD [2,11]]),p,o,l]) (λ_=>∃ks:cc Int,x5 ks=OG/\ks.length<=12/\RV.fz OD.none=.fz (kD ks)) (λ_=>False) (λv=>∃ks:cc Int,x5 ks=OG/\ks.length<=12/\v=.fz (kD ks)):=λp o l=>
  bL (pv:=.fz (kD f)) (aK (rv:=.fz (kD f)) (cV rfl) (by walk_at "ev") rfl rfl z) rfl ⟨f,k1,k2,rfl⟩
 obtain⟨rv,e,ks,h1,C,rfl⟩:=gn (ds:=[.int c,.bool w]) (ρ:=[-(.int c),-(.bool w),CL,CL,CL,CL]) (n:=6) (g:=bS) (T:=λv=>∃ks:cc Int,x5 ks=OG/\ks.length<=12/\v=.fz (kD ks)) rfl (by
  unfold bS;refine aI (pv:=.ow [kD [0],kD [1],kD [0,1],kD [2,11]]) (ρ3:=[-(.int c),-(.bool w),cL (.ow [kD [0],kD [1],kD [0,1],kD [2,11]]),CL,CL,CL]) (by walk_at "ev") rfl rfl ?_;refine iG (aO (ae rfl) rfl) (λ_=>?_) λ_=>cz (a _ _ _);walk_at "go"
  with_reducible apply cg (λi ρ=>∃(m:Int) (ks:cc Int) (l:cj PV),ρ=[-(.int c),-(.bool w),cL (.ow [kD [0],kD [1],kD [0,1],kD [2,11]]),-(.int m),cL (.ow (ks.map .int)),l]/\VR i ks)
  .walk_at "ev"
  .exact⟨c/4,[],CL,rfl,.nil⟩
  .rintro i d ρ hi ⟨m,ks,l,rfl,hU⟩
   obtain⟨k,B,rfl⟩:=dR hi;obtain⟨A,e⟩:=OI.mp B;rw[Ra]at e;subst e;rw[PD]at A;have H:aU (.int m) (.int 2)=-(.int (m % 2)):=a5 (by decide);have G:bM (.int m) (.int 2)=-(.int (m/2)):=bZ ⟨by decide,by decide⟩;have e2:=LJ m;have r:(ks.map OD.int).length<1000000:=by rw[OH];have:=hU.len;ext
   refine⟨_,rfl,?_⟩;walk_at "go"
   .intro _;walk_at "go";exact⟨m/2,ks++[(i:Int)],_,by rw[Pm];rfl,hU.snoc⟩
   .intro _;refine cz ?_;walk_at "go";exact⟨m/2,ks,_,rfl,hU.same⟩
  .rintro ρ ⟨m,ks,l,rfl,hU⟩
   rw[eO,PD]at hU;have u:cU [.list (ks.map OD.int)]=-(.int (ks.length:Int)):=by show cL (RV.fz (.int ((ks.map OD.int).length:Int)))=_;rw[OH]
   refine iG (b:=decide ((ks.length:Int)>0)) (aO (dr (dx:=.int (ks.length:Int)) (dy:=.int 0) (bD (rv:=.fz (.int (ks.length:Int))) (aj (cV rfl) ar) rfl u) cf rfl rfl (BD _ _)) rfl) (λq=>?_) λ_=>cz (a _ _ _);have q:=b9 q;exact lz (pv:=.fz (kD ks)) (bD (rv:=.fz (kD ks)) (aj (cV rfl) ar) rfl rfl) rfl ⟨ks,hU.st (by ext),hU.len,rfl⟩)
 exact⟨ks,h1,C,e⟩
structure GE(e:Wd):Prop where
 wd:yV e.1
 w1:1<=e.1.length
 w8:e.1.length<=8
 s1:1<=e.2.length
 s6:e.2.length<=6
 st:∀ks∈e.2,x5 ks=OG/\ks.length<=12
structure Bk(B:cc Wd):Prop where
 l1:1<=B.length
 Vq:B.length<=20
 ge:∀e∈B,GE e
 nd:(B.map (·.1)).Nodup
theorem Ci{α:Type}{l:cc α}{a:α}(h:l.Nodup)(ha:a∉l):(l++[a]).Nodup:=RP.mpr ⟨h,Qj.mpr ⟨S8,Rz⟩,λx d y b z=>by rw[OU.mp b]at z;subst z;exact ha d⟩
abbrev dE(l:cc Nat):D:=.str (tx l)
theorem M9{s o p:Nat}{a b:Nat}(h:ON a s++[o]++ON b s=ON a s++[p]++ON b s):o=p:=by rw[Pj,Pj]at h;have:=List.append_cancel_left h;exact(Ss this).1
theorem yB{c:Int}(Y:0<=c){m:Nat}(hm:m<=20):∃N:cc (cc Nat),N.length=m/\N.Nodup/\(∀l∈N,yV l/\1<=l.length/\l.length<=8)/\df [.int c,nd m]=.ok (.ow (N.map dE)):=by
 have f:0<=c/3 % 26/\c/3 % 26<26:=⟨Px _ (by decide),PB _ (by decide)⟩;have d3:bM (.int c) (.int 3)=-(.int (c/3)):=bZ ⟨by decide,by decide⟩;have I:aU (.int (c/3)) (.int 26)=-(.int (c/3 % 26)):=a5 (by decide);have K:=pf f.1 f.2;have rp:=EI f.1 f.2;generalize c/3 % 26=j at f I K rp;generalize 97+j.toNat=s at K rp;have m3:aU (.int c) (.int 3)=-(.int (c % 3)):=a5 (by decide);have e3:ko (.int (c % 3)) (.int 0)=-(.bool (decide (c % 3=0))):=ik _ _;have O:=uQ (n:=m) (by ext);have d78:bM (.int c) (.int 78)=-(.int (c/78)):=bZ ⟨by decide,by decide⟩;have X:aU (.int (c/78)) (.int 8)=-(.int (c/78 % 8)):=a5 (by decide);have b8:0<=c/78 % 8/\c/78 % 8<8:=⟨Px _ (by decide),PB _ (by decide)⟩;generalize c/78 % 8=sz at X b8;have ad6:bM (.int c) (.int 624)=-(.int (c/624)):=bZ ⟨by decide,by decide⟩;have H:aU (.int (c/624)) (.int (sz+1))=-(.int (c/624 % (sz+1))):=a5 (by ext);have E:0<=c/624 % (sz+1)/\c/624 % (sz+1)<sz+1:=⟨Px _ (by ext),PB _ (by ext)⟩;generalize c/624 % (sz+1)=a at H E;have B:bM (.int c) (.int 5616)=-(.int (c/5616)):=bZ ⟨by decide,by decide⟩;have G:0<=c/5616:=Rh Y (by decide);generalize c/5616=dd at B G;have w:=oU (c:=s) E.1 (show a<=1000 by ext);have u:=oU (c:=s) (show 0<=sz - a by ext) (show sz - a<=1000 by ext);obtain⟨rv,e,N,h1,h2,Z,rfl⟩:=gn (ds:=[.int c,nd m]) (ρ:=[-(.int c),-(nd m),CL,CL,CL,CL,CL,CL,CL]) (n:=9) (g:=cK) (T:=λv=>∃N:cc (cc Nat),N.length=m/\N.Nodup/\(∀l∈N,yV l/\1<=l.length/\l.length<=8)/\v=.ow (N.map dE)) rfl (by
  unfold cK;refine aI (pv:=.fz (.str "abcdefghijklmnopqrstuvwxyz")) (ρ3:=[-(.int c),-(nd m),-(.str "abcdefghijklmnopqrstuvwxyz"),CL,CL,CL,CL,CL,CL]) cf rfl rfl ?_;refine aI (pv:=.fz (dE [s])) (ρ3:=[-(.int c),-(nd m),-(.str "abcdefghijklmnopqrstuvwxyz"),-(dE [s]),CL,CL,CL,CL,CL]) (aK (rv:=.fz (dE [s])) (ae rfl) (by walk_at "ev") rfl rfl K) rfl rfl ?_;refine iG (b:=decide (c % 3=0)&&decide ((m:Int)<9)) (by walk_at "ev") (λq=>?_) λ_=>cz ?_
  .rw[Ld,decide_eq_true_iff,decide_eq_true_iff]at q
   have J:jU (cW (gN 0) dH (az L9.rE (aa 1) (az bi (aa 0) (~~~1))) ((PH m).map nd) [CL,-(dE [s])] [])=.ok ((PH m).map λk=>dE (ON (k+1) s)):=by refine o0 (PH m) (by rw[PD];ext) rfl λk p=>?_;have p:=QK.mp p;have F:=oU (c:=s) (i:=(k:Int)+1) (by ext) (by ext);rw[show((k:Int)+1).toNat=k+1 by ext]at F;exact aK (rv:=.fz (dE (ON (k+1) s))) (ae rfl) (aK (rv:=.fz (.int ((k:Int)+1))) (ae rfl) cf rfl rfl (nS _ _)) rfl rfl F
   refine lz (jn (xs:=(PH m).map λk=>dE (ON (k+1) s)) (jx (ds:=[nd m]) (aj (ae rfl) ar) rfl O) rfl J) rfl ⟨(PH m).map λk=>ON (k+1) s,by rw[OH,PD],?_,λl A=>?_,by rw[PY];rfl⟩
   .refine UM.mpr (RQ.mpr (Xg.imp λ{x y} M z=>M ?_));have:=ey Q8 z;rw[Py,Py]at this;ext
   .obtain⟨k,p,rfl⟩:=OW.mp A;have p:=QK.mp p;rw[Py];exact⟨rp _,by ext,by ext⟩
  .refine aI (pv:=.fz (.int sz)) (ρ3:=[-(.int c),-(nd m),-(.str "abcdefghijklmnopqrstuvwxyz"),-(dE [s]),-(.int sz),CL,CL,CL,CL]) (by walk_at "evp") rfl rfl ?_
   refine aI (pv:=.fz (.int a)) (ρ3:=[-(.int c),-(nd m),-(.str "abcdefghijklmnopqrstuvwxyz"),-(dE [s]),-(.int sz),-(.int a),CL,CL,CL]) (by walk_at "evp") rfl rfl ?_;refine aI (pv:=.ow []) (ρ3:=[-(.int c),-(nd m),-(.str "abcdefghijklmnopqrstuvwxyz"),-(dE [s]),-(.int sz),-(.int a),cL (.ow []),CL,CL]) (by walk_at "evp") rfl rfl ?_;refine cg (λi ρ=>∃(t r:cj PV),ρ=[-(.int c),-(nd m),-(.str "abcdefghijklmnopqrstuvwxyz"),-(dE [s]),-(.int sz),-(.int a),cL (.ow (((PH i).map λk:Nat=>ON a.toNat s++[97+(((k:Int)*7+dd) % 26).toNat]++ON (sz - a).toNat s).map dE)),t,r]) (ds:=my (PH m)) (ρ1:=[-(.int c),-(nd m),-(.str "abcdefghijklmnopqrstuvwxyz"),-(dE [s]),-(.int sz),-(.int a),cL (.ow []),CL,CL]) (jx (ds:=[nd m]) (aj (ae rfl) ar) rfl O) ⟨CL,CL,rfl⟩ ?_ ?_
   .rintro i d ρ hi ⟨t,r,rfl⟩
    obtain⟨k,p,rfl⟩:=dR hi;obtain⟨A,e⟩:=OI.mp p;rw[Ra]at e;subst e;rw[PD]at A;have C:0<=((i:Int)*7+dd) % 26/\((i:Int)*7+dd) % 26<26:=⟨Px _ (by decide),PB _ (by decide)⟩;have F:dX (nd i) (.int 7)=-(.int ((i:Int)*7)):=rG ⟨by decide,by decide⟩;have U:aU (.int ((i:Int)*7+dd)) (.int 26)=-(.int (((i:Int)*7+dd) % 26)):=a5 (by decide);have ao:=pf C.1 C.2;rw[List.range_succ,Pm,Pm];show∃ρ1,_/\Go _ (λρ=>∃(t r:cj PV),ρ=[_,_,_,_,_,_,cL (.ow (_++[dE (ON a.toNat s++[97+(((i:Int)*7+dd) % 26).toNat]++ON (sz - a).toNat s)])),t,r]) _ _;have h:(((PH i).map λk:Nat=>ON a.toNat s++[97+(((k:Int)*7+dd) % 26).toNat]++ON (sz - a).toNat s).map dE).length<1000000:=by rw[OH,OH,PD];ext
    generalize ((PH i).map λk:Nat=>ON a.toNat s++[97+(((k:Int)*7+dd) % 26).toNat]++ON (sz - a).toNat s).map dE=pre at h;generalize 97+(((i:Int)*7+dd) % 26).toNat=o at ao;have S:=nZ (a:=ON a.toNat s) (b:=[o]) (by rw[Py,P8];ext);have L:=nZ (a:=ON a.toNat s++[o]) (b:=ON (sz - a).toNat s) (by rw[OO,Py,Py,P8];ext);generalize ON a.toNat s=ra at w S L;generalize ON (sz - a).toNat s=rb at u L;refine⟨_,rfl,?_⟩;refine aI (pv:=.fz (dE [o])) (ρ3:=[-(.int c),-(nd m),-(.str "abcdefghijklmnopqrstuvwxyz"),-(dE [s]),-(.int sz),-(.int a),cL (.ow pre),-(nd i),-(dE [o])]) (aK (rv:=.fz (dE [o])) (ae rfl) (aK (rv:=.fz (.int (((i:Int)*7+dd) % 26))) (aK (rv:=.fz (.int ((i:Int)*7+dd))) (aK (rv:=.fz (.int ((i:Int)*7))) (ae rfl) cf rfl rfl F) (aK (rv:=.fz (.int dd)) (ae rfl) cf rfl rfl B) rfl rfl (nS _ _)) cf rfl rfl U) rfl rfl ao) rfl rfl ?_;exact dz (eB (d:=dE (ra++[o]++rb)) (x:=[-(.int c),-(nd m),-(.str "abcdefghijklmnopqrstuvwxyz"),-(dE [s]),-(.int sz),-(.int a),cL (.ow (pre++[dE (ra++[o]++rb)])),-(nd i),-(dE [o])]) rfl (aK (rv:=.fz (dE (ra++[o]++rb))) (aK (rv:=.fz (dE (ra++[o]))) (aK (rv:=.fz (dE ra)) (ae rfl) (ae rfl) rfl rfl w) (ae rfl) rfl rfl S) (aK (rv:=.fz (dE rb)) (ae rfl) (by walk_at "ev") rfl rfl u) rfl rfl L) rfl rfl h rfl) ⟨_,_,rfl⟩
   .rintro ρ ⟨t,r,rfl⟩
    rw[eO,PD];refine bL (cV rfl) rfl ⟨(PH m).map λk:Nat=>ON a.toNat s++[97+(((k:Int)*7+dd) % 26).toNat]++ON (sz - a).toNat s,by rw[OH,PD],?_,λl A=>?_,rfl⟩
    .refine UM.mpr (RQ.mpr ?_);refine Zq ?_ (Xg (n:=m));intro x y Q P M z;have Q:=QK.mp Q;have P:=QK.mp P;have:=M9 z;apply M;ext
    .obtain⟨k,p,rfl⟩:=OW.mp A;have C:0<=((k:Int)*7+dd) % 26/\((k:Int)*7+dd) % 26<26:=⟨Px _ (by decide),PB _ (by decide)⟩;refine⟨pR (pR (rp _) (vR C.1 C.2)) (rp _),?_,?_⟩<;>rw[OO,OO,Py,Py,P8]<;>ext)
 exact⟨N,h1,h2,Z,e⟩
theorem nK{xs:cc Int}{i:Int}(h0:0<=i)(h:i.toNat<xs.length):dZ (.list (xs.map .int)) (.int i)=-(.int xs[i.toNat]):=He h0 (by rw[OT,OY h];rfl)
theorem oY(xs:cc Int)(L:xs.length=41)(K:∀x∈xs,0<=x):∃B,Bk B/\cr [.list (xs.map .int)]=.ok (.fz (aW B)):=by
 have e0:dZ (.list (xs.map .int)) (.int 0)=-(.int xs[0]):=nK (i:=0) (by decide) (by rw[L];decide);have Z9:0<=xs[0]:=K _ (QP _);generalize xs[0]=x0 at e0 Z9;have m1:aU (.int x0) (.int 20)=-(.int (x0 % 20)):=a5 (by decide);have b1:0<=x0 % 20/\x0 % 20<20:=⟨Px _ (by decide),PB _ (by decide)⟩;generalize x0 % 20=xm at m1 b1;have r1:dL [.int (1+xm)]=cL (my (PH (1+xm).toNat)):=gM (by ext) (by ext);obtain⟨rv,e,B,hB,rfl⟩:=gn (ds:=[.list (xs.map .int)]) (ρ:=[-(.list (xs.map .int)),CL,CL,CL,CL,CL,CL]) (n:=7) (g:=bj) (T:=λv=>∃B,Bk B/\v=.fz (aW B)) rfl (by
  unfold bj;refine aI (pv:=.ow []) (ρ3:=[-(.list (xs.map .int)),cL (.ow []),CL,CL,CL,CL,CL]) (by walk_at "evp") rfl rfl ?_;refine cg (λi ρ=>∃(B:cc Wd) (F E C u f:cj PV),ρ=[-(.list (xs.map .int)),cL (.ow (B.map wD)),F,E,C,u,f]/\B.length<=i/\(1<=i->1<=B.length)/\(∀e∈B,GE e)/\(B.map (·.1)).Nodup) (ds:=my (PH (1+xm).toNat)) (ρ1:=[-(.list (xs.map .int)),cL (.ow []),CL,CL,CL,CL,CL]) (by walk_at "ev") ⟨[],CL,CL,CL,CL,CL,rfl,OJ _,(λh=>cb h (by decide)),(λe h=>by cases h),Rz⟩ ?_ ?_
  .rintro i d ρ hi ⟨B,F,E,C,u,f,rfl,hBl,hB1,hG,hN⟩
   obtain⟨k,M,rfl⟩:=dR hi;obtain⟨N,e⟩:=OI.mp M;rw[Ra]at e;subst e;rw[PD]at N;have mu:dX (.int 2) (nd i)=-(.int (2*(i:Int))):=eY ⟨by decide,by decide⟩;have J:=nK (xs:=xs) (i:=1+2*(i:Int)) (by ext) (by ext);have A:0<=xs[(1+2*(i:Int)).toNat]:=K _ (QP _);generalize xs[(1+2*(i:Int)).toNat]=y1 at J A;obtain⟨w,U,w1,Z,en⟩:=sZ A;have I:=nK (xs:=xs) (i:=2+2*(i:Int)) (by ext) (by ext);have Y:0<=xs[(2+2*(i:Int)).toNat]:=K _ (QP _);generalize xs[(2+2*(i:Int)).toNat]=y2 at I Y;have d6:bM (.int y2) (.int 6)=-(.int (y2/6)):=bZ ⟨by decide,by decide⟩;have m6:aU (.int y2) (.int 6)=-(.int (y2 % 6)):=a5 (by decide);have b6:0<=y2 % 6/\y2 % 6<6:=⟨Px _ (by decide),PB _ (by decide)⟩;have S:0<=y2/6:=Rh Y (by decide);generalize y2/6=z6 at d6 S;generalize y2 % 6=zm at m6 b6;have r6:dL [.int (1+zm)]=cL (my (PH (1+zm).toNat)):=gM (by ext) (by ext);refine⟨_,rfl,?_⟩;refine aI (pv:=.fz (dE w)) (ρ3:=[-(.list (xs.map .int)),cL (.ow (B.map wD)),-(nd i),-(dE w),C,u,f]) (cN (rv:=.fz (dE w)) (by walk_at "ev") rfl rfl en) rfl rfl ?_;refine aI (pv:=.ow []) (ρ3:=[-(.list (xs.map .int)),cL (.ow (B.map wD)),-(nd i),-(dE w),cL (.ow []),u,f]) (by walk_at "evp") rfl rfl ?_;refine aI (pv:=.fz (.int z6)) (ρ3:=[-(.list (xs.map .int)),cL (.ow (B.map wD)),-(nd i),-(dE w),cL (.ow []),-(.int z6),f]) (by walk_at "evp") rfl rfl ?_;refine cg (λj ρ=>∃(a:cc (cc Int)) (r:Int) (f:cj PV),ρ=[-(.list (xs.map .int)),cL (.ow (B.map wD)),-(nd i),-(dE w),cL (.ow (a.map kD)),-(.int r),f]/\a.length=j/\0<=r/\∀t∈a,x5 t=OG/\t.length<=12) (ds:=my (PH (1+zm).toNat)) (ρ1:=[-(.list (xs.map .int)),cL (.ow (B.map wD)),-(nd i),-(dE w),cL (.ow []),-(.int z6),f]) (by walk_at "ev") ⟨[],z6,f,rfl,rfl,S,λt h=>by cases h⟩ ?_ ?_
   .rintro j d ρ hj ⟨a,r,f,rfl,Xq,hr,UX⟩
    obtain⟨k,M,rfl⟩:=dR hj;have hjl:j<(1+zm).toNat:=by have:=(OI.mp M).1;simpa using this
    have X:0<=r % 4095/\r % 4095<4095:=⟨Px _ (by decide),PB _ (by decide)⟩;have m4:aU (.int r) (.int 4095)=-(.int (r % 4095)):=a5 (by decide);have d4:bM (.int r) (.int 4095)=-(.int (r/4095)):=bZ ⟨by decide,by decide⟩;have n4:0<=r/4095:=Rh hr (by decide);obtain⟨t,k1,k2,ek⟩:=o5 X.1 X.2;have m:(a.map kD).length<1000000:=by rw[OH];ext
    refine⟨_,rfl,?_⟩;refine pN (eB (d:=kD t) (x:=[-(.list (xs.map .int)),cL (.ow (B.map wD)),-(nd i),-(dE w),cL (.ow (a.map kD++[kD t])),-(.int r),-(nd k)]) rfl (cN (rv:=.fz (kD t)) (by walk_at "ev") rfl rfl ek) rfl rfl m rfl) ?_;refine zT (pv:=.fz (.int (r/4095))) (ρ3:=[-(.list (xs.map .int)),cL (.ow (B.map wD)),-(nd i),-(dE w),cL (.ow (a.map kD++[kD t])),-(.int (r/4095)),-(nd k)]) (by walk_at "evp") rfl rfl ⟨a++[t],r/4095,_,by rw[Pm];rfl,by rw[OO,Xq];rfl,n4,λH Vs=>?_⟩;rcases Pf.mp Vs with z|z
    .exact UX H z
    .rw[OU.mp z];exact⟨k1,k2⟩
   .rintro ρ ⟨a,r,f,rfl,Xq,hr,UX⟩
    rw[eO,PD]at Xq;have Xl:∀l∈B.map (·.1),∀c∈l,c<1114112:=λl L c P=>by obtain⟨e,O,rfl⟩:=OW.mp L;have:=(hG e O).wd c P;ext
    have G:=CY (w:=w) (λc P=>by have:=U c P;ext) Xl;have Q:jU (cW (gT 2 (li (gN 0) (li (gN 1) xt))) dH (aa 0) (B.map wD) [CL,CL] [])=.ok ((B.map (·.1)).map λl=>OD.str (tx l)):=by rw[PY];refine n9 (λρ=>∃o p,ρ=[o,p]) B (by ext) ⟨CL,CL,rfl⟩ ?_;rintro e _ ρ ⟨o,p,rfl⟩;exact⟨_,HU rfl rfl (ae rfl) rfl rfl,_,_,rfl⟩
    have m:(B.map wD).length<1000000:=by rw[OH];ext
    refine gF (b:= !decide (w∈B.map (·.1))) (aO (dr (dx:=.str (tx w)) (dy:=.list ((B.map (·.1)).map λl=>OD.str (tx l))) (ae rfl) (jn (ds:=B.map wD) rfl rfl Q) rfl rfl G) rfl) (λq=>?_) λq=>?_
    .have q:w∉B.map (·.1):=by simpa using q
     refine dz (eB (d:=wD (w,a)) (x:=[-(.list (xs.map .int)),cL (.ow (B.map wD++[wD (w,a)])),-(nd i),-(dE w),cL (.ow (a.map kD)),-(.int r),f]) rfl (bP (ds:=[dE w,.tuple (a.map kD)]) (aj (ae rfl) (aj (bD (rv:=.fz (.tuple (a.map kD))) (aj (cV rfl) ar) rfl rfl) ar)) rfl (Pl rfl)) rfl rfl m rfl) ⟨B++[(w,a)],_,_,_,_,_,by rw[Pm];rfl,by rw[OO,P8];ext,λ_=>by rw[OO,P8];ext,λe O=>?_,?_⟩
     .rcases Pf.mp O with z|z
      .exact hG e z
      .rw[OU.mp z];exact⟨U,w1,Z,by show 1<=a.length;ext,by show a.length<=6;ext,UX⟩
     .rw[Pm];exact Ci hN q
    .refine dU ⟨B,_,_,_,_,_,rfl,by ext,λ_=>?_,hG,hN⟩
     have q:w∈B.map (·.1):=by simpa using q
     have:=Vp q;rw[OH]at this;exact this
  .rintro ρ ⟨B,F,E,C,u,f,rfl,hBl,hB1,hG,hN⟩;rw[eO,PD]at hBl hB1;exact bL (pv:=.fz (aW B)) (bD (rv:=.fz (aW B)) (aj (cV rfl) ar) rfl rfl) rfl ⟨B,⟨hB1 (by ext),by ext,hG,hN⟩,rfl⟩)
 exact⟨B,hB,e⟩
theorem L5{c:Int}(a:0<=c){s:Int}(h0:0<=s)(b:s<4):∃x:Int,0<=x/\dZ (.list [.int (c % 2),.int c,.int c,.int c]) (.int s)=-(.int x):=by
 obtain⟨n,rfl⟩:∃n:Nat,s=(n:Int):=⟨s.toNat,by ext⟩
 match n,b with
 |0,_=>exact⟨c % 2,Px _ (by decide),B9 (i:=0) rfl⟩
 |1,_=>exact⟨c,a,B9 (i:=1) rfl⟩
 |2,_=>exact⟨c,a,B9 (i:=2) rfl⟩
 |3,_=>exact⟨c,a,B9 (i:=3) rfl⟩
 |n+4,h=>ext
abbrev N4:FS:=(av (aJ (bH df 2 {bH bz 2 {bH bw 2 {aa 0,az bi (aa 1) (~~~1)},~~~2},aa 4}) (gN 6))
 (av (aJ (eI am) (gN 7))
 (av (dG (fH dL {aa 4}) (gN 8) (av (aJ (bH bz 2 {bH bw 2 {aa 0,az bi (az bi (aa 1) (~~~2)) (az aU (aa 8) (~~~6))},az bi (~~~3) (aa 8)}) (gN 9))
 (av (aJ (eI am) (gN 10))
 (av (dG (fH dL {az bi (~~~1) (az aU (aa 9) (aa 5))}) (gN 11) (av (aJ (az bM (aa 9) (~~~4)) (gN 9))
 (bQ (eR 10 (bH cO 2 {az dZ (eI {az aU (aa 9) (~~~2),aa 9,aa 9,aa 9}) (aa 3),az ko (aa 3) (~~~1)})))))
 (bQ (eR 7 (cP {az dZ (aa 6) (aa 8),gb jt {aa 10}})))))))
 (bX (gb jt {aa 7})))))
theorem xN(E:cc Int)(Vr:E.length<=63){a:Int}(ha:0<=a){x2 so:Int}(Q:0<=so)(P:so<4){m:Nat}(hm1:1<=m)(hm:m<=20){f:Int}(hmo:1<=f)(aew:f<=6){N C:aB->Prop}:
  Go (N4 [-(.list (E.map .int)),-(.int a),-(.int x2),-(.int so),-(nd m),-(.int f),CL,CL,CL,CL,CL,CL]) N C (λv=>∃B,Bk B/\v=.fz (aW B)):=by
 obtain⟨c1,e1⟩:=nN E (a+1) (by ext) Vr;obtain⟨v1,O,ev1⟩:=oj c1 2 (by decide) (by decide);obtain⟨b,n1,n2,n3,en⟩:=yB O hm;have rm:=uQ (n:=m) (by ext);have q1:ko (.int so) (.int 1)=-(.bool (decide (so=1))):=ik _ _;generalize hLD:OD.list (E.map OD.int)=LD at*;refine aI (pv:=.ow (b.map dE)) (ρ3:=[-(LD),-(.int a),-(.int x2),-(.int so),-(nd m),-(.int f),cL (.ow (b.map dE)),CL,CL,CL,CL,CL]) (cN (rv:=.ow (b.map dE)) (by walk_at "ev") rfl rfl en) rfl rfl ?_;refine aI (pv:=.ow []) (ρ3:=[-(LD),-(.int a),-(.int x2),-(.int so),-(nd m),-(.int f),cL (.ow (b.map dE)),cL (.ow []),CL,CL,CL,CL]) (by walk_at "evp") rfl rfl ?_;refine cg (λi ρ=>∃(B:cc Wd) (I H q l:cj PV),ρ=[-(LD),-(.int a),-(.int x2),-(.int so),-(nd m),-(.int f),cL (.ow (b.map dE)),cL (.ow (B.map wD)),I,H,q,l]/\B.map (·.1)=b.take i/\∀e∈B,GE e) (ds:=my (PH m)) (ρ1:=[-(LD),-(.int a),-(.int x2),-(.int so),-(nd m),-(.int f),cL (.ow (b.map dE)),cL (.ow []),CL,CL,CL,CL]) (jx (ds:=[nd m]) (aj (ae rfl) ar) rfl rm) ⟨[],CL,CL,CL,CL,rfl,rfl,λe h=>by cases h⟩ ?_ ?_
 .rintro i d ρ hi ⟨B,I,H,q,l,rfl,u,hG⟩
  obtain⟨k,T,rfl⟩:=dR hi;obtain⟨U,e⟩:=OI.mp T;rw[Ra]at e;subst e;rw[PD]at U;have X:B.length=i:=by have:=ey Q8 u;rw[OH,P4]at this;ext
  have m6:aU (nd i) (.int 6)=-(.int ((i:Int) % 6)):=a5 (by decide);have b6:0<=(i:Int) % 6:=Px _ (by decide);obtain⟨c2,e2⟩:=nN E (a+2+(i:Int) % 6) (by ext) Vr;rw[hLD]at e2;obtain⟨o,M,Y⟩:=oj c2 (3+(i:Int)) (by ext) (by ext);have mm:aU (.int o) (.int f)=-(.int (o % f)):=a5 (by ext);have bm:0<=o % f/\o % f<f:=⟨Px _ (by ext),PB _ (by ext)⟩;generalize o % f=vm at mm bm;have r6:dL [.int (1+vm)]=cL (my (PH (1+vm).toNat)):=gM (by ext) (by ext);have A:i<b.length:=by ext
  have F:dZ (.list (b.map dE)) (nd i)=-(dE b[i]):=B9 (by rw[OT,OY A];rfl);have G:=n3 _ (QP A);have Z:b.take (i+1)=b.take i++[b[i]]:=by rw[List.take_succ,OY A];rfl
  generalize b[i]=w at F G Z;refine⟨_,rfl,?_⟩;refine aI (pv:=.fz (.int o)) (ρ3:=[-(LD),-(.int a),-(.int x2),-(.int so),-(nd m),-(.int f),cL (.ow (b.map dE)),cL (.ow (B.map wD)),-(nd i),-(.int o),q,l]) (cN (rv:=.fz (.int o)) (by walk_at "ev") rfl rfl Y) rfl rfl ?_;refine aI (pv:=.ow []) (ρ3:=[-(LD),-(.int a),-(.int x2),-(.int so),-(nd m),-(.int f),cL (.ow (b.map dE)),cL (.ow (B.map wD)),-(nd i),-(.int o),cL (.ow []),l]) (by walk_at "evp") rfl rfl ?_;refine cg (λj ρ=>∃(g:cc (cc Int)) (r:Int) (l:cj PV),ρ=[-(LD),-(.int a),-(.int x2),-(.int so),-(nd m),-(.int f),cL (.ow (b.map dE)),cL (.ow (B.map wD)),-(nd i),-(.int r),cL (.ow (g.map kD)),l]/\g.length=j/\0<=r/\∀t∈g,x5 t=OG/\t.length<=12) (ds:=my (PH (1+vm).toNat)) (ρ1:=[-(LD),-(.int a),-(.int x2),-(.int so),-(nd m),-(.int f),cL (.ow (b.map dE)),cL (.ow (B.map wD)),-(nd i),-(.int o),cL (.ow []),l]) (by walk_at "ev") ⟨[],o,l,rfl,rfl,M,λt h=>by cases h⟩ ?_ ?_
  .rintro j d ρ hj ⟨g,r,l,rfl,Xq,hr,UX⟩
   obtain⟨k,T,rfl⟩:=dR hj;have hjl:j<(1+vm).toNat:=by have:=(OI.mp T).1;simpa using this
   have d4:bM (.int r) (.int 4)=-(.int (r/4)):=bZ ⟨by decide,by decide⟩;have J:0<=r/4:=Rh hr (by decide);generalize r/4=r4 at d4 J;have m2:aU (.int r4) (.int 2)=-(.int (r4 % 2)):=a5 (by decide);obtain⟨px,S,L⟩:=L5 J Q P;obtain⟨t,k1,k2,ek⟩:=wE S (decide (so=1));have p:(g.map kD).length<1000000:=by rw[OH];ext
   refine⟨_,rfl,?_⟩;refine aI (pv:=.fz (.int r4)) (ρ3:=[-(LD),-(.int a),-(.int x2),-(.int so),-(nd m),-(.int f),cL (.ow (b.map dE)),cL (.ow (B.map wD)),-(nd i),-(.int r4),cL (.ow (g.map kD)),-(nd k)]) (by walk_at "evp") rfl rfl ?_;refine dz (eB (d:=kD t) (x:=[-(LD),-(.int a),-(.int x2),-(.int so),-(nd m),-(.int f),cL (.ow (b.map dE)),cL (.ow (B.map wD)),-(nd i),-(.int r4),cL (.ow (g.map kD++[kD t])),-(nd k)]) rfl (cN (ds:=[.int px,.bool (decide (so=1))]) (rv:=.fz (kD t)) (aj (aK (rv:=.fz (.int px)) (A0 (ds:=[.int (r4 % 2),.int r4,.int r4,.int r4]) (by walk_at "ev") rfl (Pl rfl)) (ae rfl) rfl rfl L) (aj (dr (dx:=.int so) (dy:=.int 1) (ae rfl) cf rfl rfl q1) ar)) rfl rfl ek) rfl rfl p rfl) ⟨g++[t],r4,_,by rw[Pm];rfl,by rw[OO,Xq];rfl,J,λK Vs=>?_⟩;rcases Pf.mp Vs with z|z
   .exact UX K z
   .rw[OU.mp z];exact⟨k1,k2⟩
  .rintro ρ ⟨g,r,l,rfl,Xq,hr,UX⟩
   rw[eO,PD]at Xq;have p:(B.map wD).length<1000000:=by rw[OH];ext
   refine dz (eB (d:=wD (w,g)) (x:=[-(LD),-(.int a),-(.int x2),-(.int so),-(nd m),-(.int f),cL (.ow (b.map dE)),cL (.ow (B.map wD++[wD (w,g)])),-(nd i),-(.int r),cL (.ow (g.map kD)),l]) rfl (bP (ds:=[dE w,.tuple (g.map kD)]) (aj (aK (rv:=.fz (dE w)) (cV rfl) (ae rfl) rfl rfl F) (aj (bD (rv:=.fz (.tuple (g.map kD))) (aj (cV rfl) ar) rfl rfl) ar)) rfl (Pl rfl)) rfl rfl p rfl) ⟨B++[(w,g)],_,_,_,_,by rw[Pm];rfl,by rw[Pm,u,Z];rfl,λe he=>?_⟩;rcases Pf.mp he with z|z
   .exact hG e z
   .rw[OU.mp z];exact⟨G.1,G.2.1,G.2.2,by show 1<=g.length;ext,by show g.length<=6;ext,UX⟩
 .rintro ρ ⟨B,I,H,q,l,rfl,u,hG⟩
  rw[eO,PD]at u;have u:B.map (·.1)=b:=by rw[u,<-n1,Qz]
  have X:B.length=m:=by have:=ey Q8 u;rw[OH]at this;ext
  exact bL (pv:=.fz (aW B)) (bD (rv:=.fz (aW B)) (aj (cV rfl) ar) rfl rfl) rfl ⟨B,⟨by ext,by ext,hG,by rw[u];exact n2⟩,rfl⟩
theorem Dl(d:cc Int)(q:d.length<=63){a:Int}(ha:0<=a):∃B,Bk B/\fu [.list (d.map .int),.int a]=.ok (.fz (aW B)):=by
 obtain⟨f,e0⟩:=nN d a ha q;obtain⟨xs,r,x2,M⟩:=xx f;obtain⟨l,h,j⟩:=oY xs r x2;obtain⟨b,F,i⟩:=oj f 1 (by decide) (by decide);have u:=Ag;have U:bM (.int b) (.int 6)=-(.int (b/6)):=bZ ⟨by decide,by decide⟩;have E:aU (.int (b/6)) (.int 4)=-(.int (b/6 % 4)):=a5 (by decide);have k:0<=b/6 % 4/\b/6 % 4<4:=⟨Px _ (by decide),PB _ (by decide)⟩;generalize b/6 % 4=so at E k;have A:aU (.int b) (.int 6)=-(.int (b % 6)):=a5 (by decide);have Q:0<=b % 6/\b % 6<6:=⟨Px _ (by decide),PB _ (by decide)⟩;generalize b % 6=v6 at A Q;have O:bM (.int b) (.int 24)=-(.int (b/24)):=bZ ⟨by decide,by decide⟩;have z:aU (.int (b/24)) (.int 8)=-(.int (b/24 % 8)):=a5 (by decide);have t:ko (.int (b/24 % 8)) (.int 3)=-(.bool (decide (b/24 % 8=3))):=ik _ _;generalize b/24 % 8=v8 at z t;have S:bM (.int b) (.int 192)=-(.int (b/192)):=bZ ⟨by decide,by decide⟩;have w:aU (.int (b/192)) (.int 9)=-(.int (b/192 % 9)):=a5 (by decide);have P:0<=b/192 % 9/\b/192 % 9<9:=⟨Px _ (by decide),PB _ (by decide)⟩;generalize b/192 % 9=v9 at w P;have L:(OD.int (1+v6))=nd (1+v6).toNat:=by show OD.int _=.int _;congr 1;ext
 have K:(OD.int (12+v9))=nd (12+v9).toNat:=by show OD.int _=.int _;congr 1;ext
 obtain⟨rv,e,B,G,rfl⟩:=gn (ds:=[.list (d.map .int),.int a]) (ρ:=[-(.list (d.map .int)),-(.int a),CL,CL,CL,CL,CL,CL,CL,CL,CL,CL]) (n:=12) (g:=cZ) (T:=λv=>∃B,Bk B/\v=.fz (aW B)) rfl (by
  unfold cZ;have o:=λ(x2 p:Int) (m:Nat) (h1:1<=m) (J:m<=20) (I:1<=p) (H:p<=6)=>xN d q ha (x2:=x2) k.1 k.2 h1 J I H (N:=λ_=>∃B,Bk B/\RV.fz OD.none=.fz (aW B)) (C:=λ_=>False);refine aI (pv:=.fz (.int f)) (ρ3:=[-(.list (d.map .int)),-(.int a),-(.int f),CL,CL,CL,CL,CL,CL,CL,CL,CL]) (cN (rv:=.fz (.int f)) (by walk_at "ev") rfl rfl e0) rfl rfl ?_;refine iG (by walk_at "ev") (λ_=>?_) λ_=>cz ?_
  .exact lz (pv:=.fz (aW l)) (cN (ds:=[.list (xs.map .int)]) (rv:=.fz (aW l)) (aj (cN (rv:=.ow (xs.map .int)) (by walk_at "ev") rfl rfl M) ar) rfl rfl j) rfl ⟨l,h,rfl⟩
  refine aI (pv:=.fz (.int b)) (ρ3:=[-(.list (d.map .int)),-(.int a),-(.int b),CL,CL,CL,CL,CL,CL,CL,CL,CL]) (cN (rv:=.fz (.int b)) (by walk_at "ev") rfl rfl i) rfl rfl ?_;refine aI (pv:=.fz (.int so)) (ρ3:=[-(.list (d.map .int)),-(.int a),-(.int b),-(.int so),CL,CL,CL,CL,CL,CL,CL,CL]) (by walk_at "evp") rfl rfl ?_;refine aI (pv:=.fz (.int (1+v6))) (ρ3:=[-(.list (d.map .int)),-(.int a),-(.int b),-(.int so),-(.int (1+v6)),CL,CL,CL,CL,CL,CL,CL]) (by walk_at "evp") rfl rfl ?_;refine aI (pv:=.fz (.int 4)) (ρ3:=[-(.list (d.map .int)),-(.int a),-(.int b),-(.int so),-(.int (1+v6)),-(.int 4),CL,CL,CL,CL,CL,CL]) (by walk_at "evp") rfl rfl ?_;refine iG (by walk_at "ev") (λ_=>?_) λ_=>cz ?_
  .refine zc ?_;refine aI (pv:=.fz (.int (12+v9))) (ρ3:=[-(.list (d.map .int)),-(.int a),-(.int b),-(.int so),-(.int (12+v9)),-(.int 4),CL,CL,CL,CL,CL,CL]) (by walk_at "evp") rfl rfl ?_;refine aI (pv:=.fz (.int 6)) (ρ3:=[-(.list (d.map .int)),-(.int a),-(.int b),-(.int so),-(.int (12+v9)),-(.int 6),CL,CL,CL,CL,CL,CL]) (by walk_at "evp") rfl rfl ?_;rw[K];exact o _ 6 _ (by ext) (by ext) (by decide) (by decide)
  .rw[L];exact o _ 4 _ (by ext) (by ext) (by decide) (by decide))
 exact⟨B,G,e⟩
theorem IJ(xs ys:cc D)(h:xs.length+ys.length<=1000):xK (.tuple xs) (.tuple ys)=-(.tuple (xs++ys)):=by
 cases xs with
 |nil=>rfl
 |cons x r=>show(if x::r≠[]/\(x::r).length+ys.length<=1000000 then cL (RV.fz (.tuple (x::r++ys)))else CL)=_;rw[ai ⟨List.cons_ne_nil x r,by ext⟩]
theorem sJ(xs:cc D)(p:Nat):kt (.tuple xs) CL (cL (p:Int))=-(.tuple (xs.take p)):=by show cL (RV.fz (.tuple (gC xs CL (cL (p:Int)))))=_;unfold gC;rw[HT.sIx_none,XZ,HT.sIx_nat,Zl];congr 3;rw[List.take_eq_take_iff];ext
theorem r0(xs:cc D)(p:Nat):kt (.tuple xs) (cL (p:Int)) CL=-(.tuple (xs.drop p)):=by
 show cL (RV.fz (.tuple (gC xs (cL (p:Int)) CL)))=_;unfold gC;rw[HT.sIx_none,HT.sIx_nat];congr 3;by_cases h:p<=xs.length
 .rw[UH h,Qs (by rw[Qy];exact OJ _)]
 .rw[Uq (by ext),Ue,Sy,List.drop_of_length_le (by ext)]
def sD(a:cc (cc Int)):D:=.tuple (a.map kD)
def tD(w:cc Nat):D:=.str (tx w)
theorem o6:∀a b:cc (cc Int),OD.eqvAll (a.map kD) (b.map kD)=decide (a=b)
 |[],[]=>rfl
 |[],_::_=>rfl
 |_::_,[]=>rfl
 |x::r,y::t=>by
  show(OD.eqvAll (x.map OD.int) (y.map OD.int)&&OD.eqvAll (r.map kD) (t.map kD))=_;rw[Jg,o6 r t];by_cases h1:x=y
  .by_cases d:r=t
   .rw[a6 h1,a6 d,a6 (by rw[h1,d])];rfl
   .rw[a7 d,a7 (λz=>d (Ss z).2),XY]
  .rw[a7 h1,a7 (λz=>h1 (Ss z).1)];rfl
theorem FW(a b:cc (cc Int)):(B7 (sD a)&&(sD b).canLay0)=OG:=by show((OD.canLayAll0 (a.map kD)&&decide (OD.depthAll (a.map kD)+1<=64))&&OD.canLayAll0 (b.map kD))=OG;have:=gH a;rw[jW,jW,a6 (by ext)];rfl
theorem lN(a b:cc (cc Int)):ko (sD a) (sD b)=-(.bool (decide (a=b))):=by unfold ko;rw[ai (FW a b),show OD.eqv (sD a) (sD b)=_ from o6 a b]
theorem Gr(a b:cc (cc Int)):yd (sD a) (sD b)=-(.bool (!decide (a=b))):=by unfold yd;rw[ai (FW a b),show OD.eqv (sD a) (sD b)=_ from o6 a b]
theorem fL(a:cc (cc Int)):cU [sD a]=-(nd a.length):=by show cL (RV.fz (.int ((a.map kD).length:Int)))=_;rw[OH]
def iy:cc Wd->cc Nat->cj (cc (cc Int))
 |[],_=>CL
 |e::r,w=>if e.1=w then cL e.2 else iy r w
def wr(B:cc Wd)(ws:cc (cc Nat)):cc (cc Int):=(ws.map λw=>(iy B w).getD []).flatten
theorem lU:∀{B:cc Wd} {w:cc Nat} {s:cc (cc Int)},iy B w=cL s->(w,s)∈B
 |e::r,w,s,h=>by
  unfold iy at h;by_cases q:e.1=w
  .rw[ai q]at h;cases h;rw[<-q];exact O0
  .rw[ak q]at h;exact OV _ (lU h)
theorem kA:∀{B:cc Wd} {e:Wd},(B.map (·.1)).Nodup->e∈B->iy B e.1=cL e.2
 |a::r,e,hn,h=>by
  rw[OM,Qj]at hn;unfold iy;rcases Pe.mp h with h|h
  .subst h;rw[ai rfl]
  .rw[ak (λz=>hn.1 (by rw[z];exact OW.mpr ⟨e,h,rfl⟩))];exact kA hn.2 h
theorem DF{B:cc Wd}{w:cc Nat}(h:w∈B.map (·.1)):∃s,iy B w=cL s:=by
 cases q:iy B w with
 |some s=>exact⟨s,rfl⟩
 |none=>
  exfalso;revert h q
  induction B with
  |nil=>intro h;simp at h
  |cons a r b=>
   intro h q;unfold iy at q;by_cases z:a.1=w
   .rw[ai z]at q;cases q
   .rw[ak z]at q;rw[OM,Pe]at h;exact b (h.resolve_left λy=>z y.symm) q
theorem BE(B:cc Wd):wr B []=[]:=rfl
theorem Dh(B:cc Wd)(ws:cc (cc Nat))(w:cc Nat):wr B (ws++[w])=wr B ws++(iy B w).getD []:=by unfold wr;rw[Pm,List.flatten_append,List.map_singleton,List.flatten_singleton]
theorem kF(B:cc Wd)(ws:cc (cc Nat))(w:cc Nat):wr B (w::ws)=(iy B w).getD []++wr B ws:=rfl
def Ll(B:cc Wd)(ws:cc (cc Nat)):Prop:=∀w∈ws,w∈B.map (·.1)
structure BB(B:cc Wd):Prop where
 Vq:B.length<=20
 nd:(B.map (·.1)).Nodup
 s1:∀e∈B,1<=e.2.length
 s6:∀e∈B,e.2.length<=6
 wc:∀e∈B,∀c∈e.1,c<1114112
theorem Bk.bb{B:cc Wd}(h:Bk B):BB B:=⟨h.Vq,h.nd,λe a=>(h.ge e a).s1,λe a=>(h.ge e a).s6,λe a c b=>by have:=(h.ge e a).wd c b;ext⟩
abbrev Rs:=cc (cc Int)
structure Wy where
 p:Nat
 r:Rs
 lo:cc (cc Nat)
 sh:cc (cc Nat)
def bg(a b:Rs):Bool:=decide (b.take a.length=a)
def aM(e f:Wd):cj Wy:=if e.1≠f.1/\bg e.2 f.2=OG then cL ⟨f.2.length,f.2.drop e.2.length,[f.1],[e.1]⟩else CL
def br(B:cc Wd):cc Wy:=B.flatMap λe=>B.filterMap (aM e)
def nx(w:Wy)(e:Wd):cj Wy:=if bg e.2 w.r=OG then cL ⟨w.p,w.r.drop e.2.length,w.lo,w.sh++[e.1]⟩else if bg w.r e.2=OG then cL ⟨w.p+(e.2.drop w.r.length).length,e.2.drop w.r.length,w.sh++[e.1],w.lo⟩else CL
def cM(B:cc Wd)(w:Wy):cc Wy:=if w.r=[]then[]else B.filterMap (nx w)
theorem jQ{a b:Rs}:bg a b=OG↔∃c,b=a++c:=by
 unfold bg;rw[decide_eq_true_iff];constructor
 .intro h;exact⟨b.drop a.length,by have:=Sd a.length b;rw[h]at this;exact this.symm⟩
 .rintro⟨c,rfl⟩;simp
def aZ(w:Wy):D:=.tuple [nd w.p,sD w.r,.tuple (w.lo.map tD),.tuple (w.sh.map tD)]
theorem u5:∀a b:cc Int,∃r,LD.ltds (a.map OD.int) (b.map OD.int)=cL r
 |[],[]=>⟨_,by rw[Pq,LD.ltds]⟩
 |[],_::_=>⟨_,by rw[Pq,OM,LD.ltds]⟩
 |_::_,[]=>⟨_,by rw[Pq,OM,LD.ltds]⟩
 |x::a,y::b=>by
  obtain⟨r,h⟩:=u5 a b;rw[OM,OM,LD.ltds];split
  .exact⟨r,h⟩
  .exact⟨_,by rw[LD.ltd]⟩
theorem F4:∀a b:Rs,∃r,LD.ltds (a.map kD) (b.map kD)=cL r
 |[],[]=>⟨_,by rw[Pq,LD.ltds]⟩
 |[],_::_=>⟨_,by rw[Pq,OM,LD.ltds]⟩
 |_::_,[]=>⟨_,by rw[Pq,OM,LD.ltds]⟩
 |x::a,y::b=>by
  obtain⟨r,h⟩:=F4 a b;rw[OM,OM,LD.ltds];split
  .exact⟨r,h⟩
  .obtain⟨q,d⟩:=u5 x y;exact⟨q,by unfold kD;rw[LD.ltd];exact d⟩
theorem tf:∀a b:cc (cc Nat),∃r,LD.ltds (a.map tD) (b.map tD)=cL r
 |[],[]=>⟨_,by rw[Pq,LD.ltds]⟩
 |[],_::_=>⟨_,by rw[Pq,OM,LD.ltds]⟩
 |_::_,[]=>⟨_,by rw[Pq,OM,LD.ltds]⟩
 |x::a,y::b=>by
  obtain⟨r,h⟩:=tf a b;rw[OM,OM,LD.ltds];split
  .exact⟨r,h⟩
  .exact⟨_,by unfold tD;rw[LD.ltd]⟩
theorem AH(a b:Wy):∃r,LD.ltd (aZ a) (aZ b)=cL r/\(r=OG->a.p<=b.p)/\(r=OP->b.p<=a.p):=by
 unfold aZ;rw[LD.ltd,LD.ltds];by_cases e:a.p=b.p
 .rw[e]
  have:OD.eqv (nd b.p) (nd b.p)=OG:=by unfold nd;rw[OD.eqv];simp
  rw[ai this];have d:∃r,LD.ltds [sD a.r,.tuple (a.lo.map tD),.tuple (a.sh.map tD)] [sD b.r,.tuple (b.lo.map tD),.tuple (b.sh.map tD)]=cL r:=by
   rw[LD.ltds];split
   .rw[LD.ltds]
    split
    .rw[LD.ltds]
     split
     .exact⟨_,by rw[LD.ltds]⟩
     .rw[LD.ltd];exact tf _ _
    .rw[LD.ltd];exact tf _ _
   .unfold sD;rw[LD.ltd];exact F4 _ _
  obtain⟨r,h⟩:=d;exact⟨r,h,λ_=>OJ _,λ_=>OJ _⟩
 .have:¬OD.eqv (nd a.p) (nd b.p)=OG:=by unfold nd;rw[OD.eqv];simp;ext
  rw[ak this];refine⟨decide ((a.p:Int)<b.p),by unfold nd;rw[LD.ltd],λh=>?_,λh=>?_⟩
  .have:=b9 h;ext
  .have:=of_decide_eq_false h;ext
def jc(a b:Wy):Wy:=if LD.ltd (aZ b) (aZ a)=cL OG then b else a
theorem wz(a b:Wy):jc a b=a\/jc a b=b:=by unfold jc;split<;>simp
theorem uL(a b:Wy):(jc a b).p<=a.p/\(jc a b).p<=b.p:=by
 obtain⟨r,h,h1,d⟩:=AH b a;unfold jc;rw[h];cases r with
 |true=>rw[ai rfl];exact⟨h1 rfl,OJ _⟩
 |false=>rw[ak (by simp)];exact⟨OJ _,d rfl⟩
abbrev Mp:=cc (Rs×Wy)
def iO(M:Mp)(r:Rs):cj Wy:=(M.find? λq=>decide (q.1=r)).map (·.2)
def iR(M:Mp)(r:Rs)(w:Wy):Mp:=if(M.find? λq=>decide (q.1=r)).isSome=OG then M.map (λq=>if q.1=r then(q.1,w)else q)else M++[(r,w)]
def fw(M:Mp)(r:Rs):Mp:=M.filter λq=> !decide (q.1=r)
def Gt(M:Mp)(r:Rs)(p:Nat):Prop:=∃q∈M,q.1=r/\q.2.p<=p
def iM(O:Mp)(w:Wy):Mp:=iR O w.r (jc w ((iO O w.r).getD w))
theorem jo{M:Mp}{r:Rs}{w:Wy}(h:iO M r=cL w):(r,w)∈M:=by unfold iO at h;obtain⟨q,h1,b⟩:=PM.mp h;have e:=XA h1;have d:=US h1;have a:q.1=r:=b9 e;obtain⟨g,f⟩:=q;dsimp only at b a;subst b a;exact d
theorem xI{M:Mp}{r:Rs}(h:(M.find? λq=>decide (q.1=r)).isSome≠OG):∀q∈M,q.1≠r:=λq a e=>h (by rw[Rn];exact⟨q,a,a6 e⟩)
theorem Dk{M:Mp}{r:Rs}{w:Wy}{q:Rs×Wy}(h:q∈iR M r w):q=(r,w)\/(q∈M/\q.1≠r):=by
 unfold iR at h;split at h
 .obtain⟨z,a,e⟩:=OW.mp h
  by_cases k:z.1=r
  .rw[ai k]at e;subst e;exact .inl (by rw[k])
  .rw[ak k]at e;subst e;exact .inr ⟨a,k⟩
 .rename_i hn
  rcases Pf.mp h with h|h
  .exact .inr ⟨h,xI hn q h⟩
  .exact .inl (OU.mp h)
theorem pH{M:Mp}{r:Rs}{w:Wy}:(r,w)∈iR M r w/\∀q∈M,q.1≠r->q∈iR M r w:=by
 unfold iR;split
 .rename_i h;rw[Rn]at h;obtain⟨z,b,e⟩:=h;have e:=b9 e;exact⟨OW.mpr ⟨z,b,by rw[ai e,e]⟩,λq a k=>OW.mpr ⟨q,a,by rw[ak k]⟩⟩
 .exact⟨Ph _ (OU.mpr rfl),λq a _=>PR _ a⟩
theorem yC(M:Mp)(r:Rs)(w:Wy):(iR M r w).map (·.1)=if r∈M.map (·.1)then M.map (·.1)else M.map (·.1)++[r]:=by
 unfold iR;have b:(M.find? λq=>decide (q.1=r)).isSome=OG↔r∈M.map (·.1):=by rw[Rn,OW];exact⟨λ⟨q,h1,a⟩=>⟨q,h1,b9 a⟩,λ⟨q,h1,a⟩=>⟨q,h1,a6 a⟩⟩
 by_cases h:r∈M.map (·.1)
 .rw[ai (b.mpr h),ai h,PY];apply TL;intro q _;show(if q.1=r then(q.1,w)else q).1=q.1;split<;>rfl
 .rw[ak (λz=>h (b.mp z)),ak h,Pm];rfl
theorem HD{M:Mp}{r:Rs}{w:Wy}(h:(M.map (·.1)).Nodup):((iR M r w).map (·.1)).Nodup:=by
 rw[yC];split
 .exact h
 .rename_i hn;exact RP.mpr ⟨h,Qj.mpr ⟨S8,Rz⟩,λa ha b d e=>hn (by rw[<-OU.mp d,<-e];exact ha)⟩
theorem CW{M:Mp}{r:Rs}{w:Wy}(h:r∉M.map (·.1)):iR M r w=M++[(r,w)]:=by unfold iR;rw[ak];rw[Rn];rintro⟨q,h1,a⟩;exact h (OW.mpr ⟨q,h1,b9 a⟩)
theorem sR{M:Mp}(h:(M.map (·.1)).Nodup){a b:Rs×Wy}(ha:a∈M)(hb:b∈M)(e:a.1=b.1):a=b:=by
 induction M with
 |nil=>cases ha
 |cons c r d=>
  rw[OM,Qj]at h;rcases Pe.mp ha with ka|ka<;>rcases Pe.mp hb with kb|kb
  .rw[ka,kb]
  .exact cb (OW.mpr ⟨b,kb,by rw[<-e,ka]⟩) h.1
  .exact cb (OW.mpr ⟨a,ka,by rw[e,kb]⟩) h.1
  .exact d h.2 ka kb
structure Xr(B:cc Wd)(q:Rs×Wy):Prop where
 k:q.2.r=q.1
 p:q.2.p=(wr B q.2.lo).length
 i:Ll B q.2.lo
 j:Ll B q.2.sh
 s:∃e∈B,∃c,e.2=c++q.1
 e:wr B q.2.lo=wr B q.2.sh++q.1
 n:q.2.lo≠[]/\q.2.sh≠[]
structure Iv(B:cc Wd)(W O:Mp):Prop where
 wk:∀q∈W,Xr B q
 ok:∀q∈O,Xr B q
 wn:(W.map (·.1)).Nodup
 on:(O.map (·.1)).Nodup
 dj:∀a∈W,∀b∈O,a.1≠b.1
 le:∀a∈W,∀b∈O,a.2.p<=b.2.p
theorem Ij{O:Mp}{w:Wy}(hn:(O.map (·.1)).Nodup):Gt (iM O w) w.r w.p/\∀r p,Gt O r p->Gt (iM O w) r p:=by
 unfold iM;refine⟨⟨_,pH.1,rfl,(uL _ _).1⟩,?_⟩;rintro r p ⟨q,a,rfl,hp⟩;by_cases e:q.1=w.r
 .refine⟨_,pH.1,e.symm,?_⟩
  cases g:iO O w.r with
  |none=>exfalso;unfold iO at g;rw[Option.map_eq_none_iff,List.find?_eq_none]at g;exact g q a (a6 e)
  |some z=>have:=sR hn a (jo g) e;subst this;exact OZ (uL _ _).2 hp
 .exact⟨q,pH.2 q a e,rfl,hp⟩
theorem jv{O:Mp}{w:Wy}{q:Rs×Wy}(h:q∈iM O w):q=(w.r,w)\/q∈O:=by
 unfold iM at h;rcases Dk h with h|h
 .cases g:iO O w.r with
  |none=>
   rw[g]at h;have:jc w (Option.getD (CL:cj Wy) w)=w:=by rcases wz w w with z|z<;>exact z
   rw[this]at h;exact .inl h
  |some z=>
   rw[g]at h;have:jc w ((cL z:cj Wy).getD w)=w\/jc w ((cL z:cj Wy).getD w)=z:=wz w z;rcases this with e|e
   .rw[e]at h;exact .inl h
   .rw[e]at h;subst h;exact .inr (jo g)
 .exact .inr h.1
def fP(O:Mp)(ws:cc Wy):Mp:=ws.foldl iM O
theorem pQ{B:cc Wd}{W:Mp}:∀{ws:cc Wy} {O:Mp},Iv B W O->(∀w∈ws,Xr B (w.r,w)/\(∀a∈W,a.1≠w.r)/\∀a∈W,a.2.p<=w.p)->Iv B W (fP O ws)/\(∀w∈ws,Gt (fP O ws) w.r w.p)/\∀r p,Gt O r p->Gt (fP O ws) r p
 |[],O,h,_=>⟨h,λ_ z=>(by cases z),λ_ _ z=>z⟩
 |w::ws,O,h,g=>by
  obtain⟨t,o,n⟩:=g w (O0 ..);have j:Iv B W (iM O w):=by
   refine⟨h.wk,λq m=>?_,h.wn,HD h.on,λa ha b f=>?_,λa ha b f=>?_⟩
   .rcases jv m with e|e
    .subst e;exact t
    .exact h.ok q e
   .rcases jv f with e|e
    .subst e;exact o a ha
    .exact h.dj a ha b e
   .rcases jv f with e|e
    .subst e;exact n a ha
    .exact h.le a ha b e
  obtain⟨k1,k2⟩:=Ij (O:=O) (w:=w) h.on;obtain⟨l,k,i⟩:=pQ (ws:=ws) j λz d=>g z (OV _ d);refine⟨l,λz d=>?_,λr p z=>i r p (k2 r p z)⟩;rcases Pe.mp d with e|e
  .subst e;exact i _ _ k1
  .exact k z e
theorem jY{B:cc Wd}(j:BB B){w:Wy}(h:w∈br B):Xr B (w.r,w):=by
 obtain⟨e,g,h⟩:=QQ.mp h;obtain⟨f,b,h⟩:=Qw.mp h;unfold aM at h;split at h
 .rename_i m
  cases h;obtain⟨c,i⟩:=jQ.mp m.2;have l:=kA j.nd b;have le:=kA j.nd g;have d:wr B [f.1]=f.2:=by rw[kF,l,BE,Pu];rfl
  have k:wr B [e.1]=e.2:=by rw[kF,le,BE,Pu];rfl
  refine⟨rfl,by show f.2.length=_;rw[d],λx a=>?_,λx a=>?_,⟨f,b,e.2,?_⟩,?_,⟨by simp,by simp⟩⟩
  .rw[OU.mp a];exact OW.mpr ⟨f,b,rfl⟩
  .rw[OU.mp a];exact OW.mpr ⟨e,g,rfl⟩
  .show f.2=e.2++f.2.drop e.2.length;rw[i,RT]
  .show wr B [f.1]=wr B [e.1]++f.2.drop e.2.length;rw[d,k,i,RT]
 .cases h
theorem lH{B:cc Wd}(C:BB B){a w:Wy}(ha:Xr B (a.r,a))(h:w∈cM B a):Xr B (w.r,w)/\a.p<=w.p:=by
 unfold cM at h;split at h
 .cases h
 .obtain⟨e,j,h⟩:=Qw.mp h
  have le:=kA C.nd j;obtain⟨E,t,q,z,⟨g,A,c,v⟩,n,m⟩:=ha;dsimp only at t q z v n m;have d:wr B (a.sh++[e.1])=wr B a.sh++e.2:=by rw[Dh,le];rfl
  have f:Ll B (a.sh++[e.1]):=λx i=>by
   rcases Pf.mp i with i|i
   .exact z x i
   .rw[OU.mp i];exact OW.mpr ⟨e,j,rfl⟩
  unfold nx at h;split at h
  .rename_i k
   cases h;obtain⟨o,b⟩:=jQ.mp k;refine⟨⟨rfl,t,q,f,⟨g,A,c++e.2,?_⟩,?_,⟨m.1,by simp⟩⟩,OJ _⟩
   .show g.2=c++e.2++a.r.drop e.2.length;rw[v,b,RT,Pj]
   .show wr B a.lo=wr B (a.sh++[e.1])++a.r.drop e.2.length;rw[n,d,b,RT,Pj]
  .split at h
   .rename_i k
    cases h;obtain⟨o,b⟩:=jQ.mp k;have l:e.2.drop a.r.length=o:=by rw[b,RT]
    have u:wr B (a.sh++[e.1])=wr B a.lo++o:=by rw[d,b,n,Pj]
    refine⟨⟨rfl,?_,f,q,⟨e,j,a.r,?_⟩,?_,⟨by simp,m.1⟩⟩,Ur _ _⟩
    .show a.p+(e.2.drop a.r.length).length=_;rw[l];show a.p+o.length=(wr B (a.sh++[e.1])).length;rw[u,OO,t]
    .show e.2=a.r++e.2.drop a.r.length;rw[l];exact b
    .show wr B (a.sh++[e.1])=wr B a.lo++e.2.drop a.r.length;rw[l];exact u
   .cases h
structure Full(B:cc Wd)(W O:Mp):Prop where
 iv:Iv B W O
 fst:∀f∈br B,Gt (W++O) f.r f.p
 Y2:∀a∈W,∀n∈cM B a.2,Gt (W++O) n.r n.p
theorem Gt.app{W O b:Mp}(h:∀r p,Gt O r p->Gt b r p){r:Rs}{p:Nat}(g:Gt (W++O) r p):Gt (W++b) r p:=by
 obtain⟨q,a,e,l⟩:=g;rcases Pf.mp a with a|a
 .exact⟨q,PR _ a,e,l⟩
 .obtain⟨z,f,e2,d⟩:=h r p ⟨q,a,e,l⟩;exact⟨z,Ph _ f,e2,d⟩
theorem BS{B:cc Wd}(h:BB B):Full B [] (fP [] (br B)):=by have a:Iv B [] []:=⟨λ_ z=>(by cases z),λ_ z=>(by cases z),Rz,Rz,λ_ z=>(by cases z),λ_ z=>(by cases z)⟩;obtain⟨d,b,i⟩:=pQ (ws:=br B) a λw e=>⟨jY h e,λ_ z=>(by cases z),λ_ z=>(by cases z)⟩;exact⟨d,λf g=>b f g,λ_ z=>(by cases z)⟩
def tX(B:cc Wd)(W:Mp)(b:Rs×Wy):cc Wy:=(cM B b.2).filter λn=> !decide (n.r∈(W++[b]).map (·.1))
theorem DH{B:cc Wd}(E:BB B){W O:Mp}(h:Full B W O){b:Rs×Wy}(hb:b∈O)(hm:∀q∈O,b.2.p<=q.2.p):Full B (W++[b]) (fP (fw O b.1) (tX B W b)):=by
 have u:=h.iv.ok b hb;have v:Iv B (W++[b]) (fw O b.1):=by
  have o:∀q∈fw O b.1,q∈O/\q.1≠b.1:=λq d=>by obtain⟨h1,m⟩:=Qi.mp d;exact⟨h1,λe=>by rw[a6 e]at m;cases m⟩
  refine⟨λq d=>?_,λq d=>h.iv.ok q (o q d).1,?_,h.iv.on.sublist ((VX).map _),λa ha c j=>?_,λa ha c j=>?_⟩
  .rcases Pf.mp d with d|d
   .exact h.iv.wk q d
   .rw[OU.mp d];exact u
  .rw[Pm];exact RP.mpr ⟨h.iv.wn,Qj.mpr ⟨S8,Rz⟩,λx J y A e=>by obtain⟨a,ha,rfl⟩:=OW.mp J;have A:y=b.1:=OU.mp A;exact h.iv.dj a ha b hb (e.trans A)⟩
  .rcases Pf.mp ha with ha|ha
   .exact h.iv.dj a ha c (o c j).1
   .rw[OU.mp ha];exact ee (o c j).2
  .rcases Pf.mp ha with ha|ha
   .exact h.iv.le a ha c (o c j).1
   .rw[OU.mp ha];exact hm c (o c j).1
 have i:Xr B (b.2.r,b.2):=by rw[u.k];exact u
 obtain⟨I,H,G⟩:=pQ (ws:=tX B W b) v λw K=>by
  obtain⟨h1,m⟩:=Qi.mp K;obtain⟨F,t⟩:=lH E i h1;refine⟨F,λa ha e=>?_,λa ha=>OZ ?_ t⟩
  .rw[a6 (OW.mpr ⟨a,ha,e⟩)]at m;cases m
  .rcases Pf.mp ha with ha|ha
   .exact h.iv.le a ha b hb
   .rw[OU.mp ha];exact OJ _
 have C:∀r p,Gt (W++O) r p->Gt (W++[b]++fP (fw O b.1) (tX B W b)) r p:=λr p g=>by
  refine Gt.app G ?_;obtain⟨q,d,e,l⟩:=g;rcases Pf.mp d with d|d
  .exact⟨q,PR _ (PR _ d),e,l⟩
  .by_cases z:q.1=b.1
   .have:=sR h.iv.on d hb z;subst this;exact⟨q,PR _ (Ph _ (OU.mpr rfl)),e,l⟩
   .exact⟨q,Ph _ (Qi.mpr ⟨d,by rw[a7 z];rfl⟩),e,l⟩
 refine⟨I,λf L=>C _ _ (h.fst f L),λa ha n hn=>?_⟩;rcases Pf.mp ha with ha|ha
 .exact C _ _ (h.Y2 a ha n hn)
 .rw[OU.mp ha]at hn
  obtain⟨_,t⟩:=lH E i hn;by_cases z:n.r∈(W++[b]).map (·.1)
  .obtain⟨q,d,e⟩:=OW.mp z
   refine⟨q,PR _ d,e,OZ ?_ t⟩;rcases Pf.mp d with d|d
   .exact h.iv.le q d b hb
   .rw[OU.mp d];exact OJ _
  .obtain⟨q,d,e,l⟩:=H n (Qi.mpr ⟨hn,by rw[a7 z];rfl⟩);exact⟨q,Ph _ d,e,l⟩
def sA(B:cc Wd):cc Rs:=B.flatMap λe=>[e.2,e.2.drop 1,e.2.drop 2,e.2.drop 3,e.2.drop 4,e.2.drop 5,e.2.drop 6]
theorem sN{B:cc Wd}(f:BB B){q:Rs×Wy}(h:Xr B q):q.1∈sA B:=by
 obtain⟨e,a,c,b⟩:=h.s;have g:=f.s6 e a;have i:q.1=e.2.drop c.length:=by rw[b,RT]
 have d:c.length<=6:=by rw[b,OO]at g;ext
 refine QQ.mpr ⟨e,a,?_⟩;rw[i]
 match c.length,d with
 |0,_=>simp
 |1,_=>simp
 |2,_=>simp
 |3,_=>simp
 |4,_=>simp
 |5,_=>simp
 |6,_=>simp
 |n+7,h=>ext
theorem rS{α:Type}[DecidableEq α]:∀{a b:cc α},a.Nodup->(∀x∈a,x∈b)->a.length<=b.length
 |[],_,_,_=>P0 _
 |x::a,b,hn,hs=>by rw[Qj]at hn;have:=rS (a:=a) (b:=b.erase x) hn.2 λy d=>(List.mem_erase_of_ne (λe:y=x=>hn.1 (by rw[<-e];exact d))).mpr (hs y (OV _ d));have f:=hs x (O0 ..);rw[List.length_erase_of_mem f]at this;have:0<b.length:=Vp f;rw[OQ];ext
theorem qw:∀B:cc Wd,(sA B).length=7*B.length
 |[]=>rfl
 |e::r=>by have:=qw r;unfold sA at*;rw[WC,OO,this,OQ];simp;ext
theorem nG{B:cc Wd}(g:BB B){W O:Mp}(h:Iv B W O):W.length+O.length<=140:=by
 have nd:((W++O).map (·.1)).Nodup:=by rw[Pm];refine RP.mpr ⟨h.wn,h.on,λx f y i e=>?_⟩;obtain⟨a,ha,rfl⟩:=OW.mp f;obtain⟨b,j,rfl⟩:=OW.mp i;exact h.dj a ha b j e
 have:=rS (b:=sA B) nd λx f=>by
  obtain⟨q,d,rfl⟩:=OW.mp f;rcases Pf.mp d with d|d
  .exact sN g (h.wk q d)
  .exact sN g (h.ok q d)
 rw[qw,OH,OO]at this;have:=g.Vq;ext
theorem j0(a b:Rs):ff [sD a,sD b]=.ok (.fz (.bool (bg a b))):=by
 unfold ff gG;have d:=fL a;have ct:kt (sD b) CL (cL (a.length:Int))=-(sD (b.take a.length)):=by unfold sD;rw[sJ,SU]
 have eq:=lN (b.take a.length) a;exact fM (ρ:=[-(sD a),-(sD b)]) rfl (bL (dr (b:=bg a b) (fU (rv:=.fz (sD (b.take a.length))) (ae rfl) bG (bI (bD (rv:=.fz (nd a.length)) (aj (ae rfl) ar) rfl d) rfl) rfl ct) (ae rfl) rfl rfl eq) rfl rfl)
theorem iu(b:Rs)(n:Nat):kt (sD b) (cL (n:Int)) CL=-(sD (b.drop n)):=by unfold sD;rw[r0,TR]
theorem F6{a b:cc Nat}(ha:∀c∈a,c<1114112)(hb:∀c∈b,c<1114112):yd (tD a) (tD b)=-(.bool (!decide (a=b))):=by unfold yd tD;rw[ai,wm];unfold B7;rw[OD.canLay0,OD.canLay0,mM ha,mM hb];rfl
theorem jZ{B:cc Wd}{i:Nat}{d:D}(h:(B.map wD)[i]?=cL d):∃e,B[i]?=cL e/\d=wD e:=by rw[OT]at h;obtain⟨e,h1,a⟩:=PM.mp h;exact⟨e,h1,a.symm⟩
theorem d8{α:Type}{l:cc α}{i:Nat}{e:α}(h:l[i]?=cL e):l.take (i+1)=l.take i++[e]:=by rw[Ua,h];rfl
theorem iT{α a:Type}(f:α->cj a)(l:cc α):(l.filterMap f).length<=l.length:=List.length_filterMap_le f l
theorem sT{α a:Type}(f:α->cj a)(x:α):[x].filterMap f=match f x with|some w=>[w]|none=>[]:=by rw[Q2,T1];cases f x<;>rfl
theorem eZ{α a:Type}(f:α->cc a)(n:Nat)(h:∀x,(f x).length<=n):∀l:cc α,(l.flatMap f).length<=n*l.length
 |[]=>by simp
 |x::r=>by have:=eZ f n h r;have:=h x;rw[WC,OO,OQ,Nat.mul_add,Nat.mul_one];ext
theorem kM{B:cc Wd}(b:BB B):(br B).length<=400:=by have:=eZ (λe=>B.filterMap (aM e)) B.length (λe=>iT _ _) B;have a:=b.Vq;have:B.length*B.length<=20*20:=RZ a a;unfold br;ext
theorem yy{B:cc Wd}(l:BB B):c9 [aW B]=.ok (.ow ((br B).map aZ)):=by
 refine fM (ρ:=[-(aW B),CL,CL,CL,CL,CL]) rfl ?_;unfold dC;refine aI (pv:=.ow []) (ρ3:=[-(aW B),cL (.ow []),CL,CL,CL,CL]) (by walk_at "evp") rfl rfl ?_;refine cg (λi ρ=>∃n m g a,ρ=[-(aW B),cL (.ow (((B.take i).flatMap λe=>B.filterMap (aM e)).map aZ)),n,m,g,a]) (ds:=B.map wD) (ρ1:=[-(aW B),cL (.ow []),CL,CL,CL,CL]) (b5 (d:=aW B) (ae rfl) rfl rfl) ⟨CL,CL,CL,CL,rfl⟩ ?_ ?_
 .rintro i d ρ o ⟨n,m,g,a,rfl⟩
  obtain⟨e,r,rfl⟩:=jZ o;have A:=O9 r;refine⟨_,rfl,?_⟩;have C:((B.take i).flatMap λe=>B.filterMap (aM e)).length<=400:=by
   have h1:=eZ (λe=>B.filterMap (aM e)) B.length (λe=>iT _ _) (B.take i);have u:=l.Vq;have t:(B.take i).length<=20:=by rw[P4];ext
   have:B.length*(B.take i).length<=20*20:=RZ u t;ext
  have v:(B.take (i+1)).flatMap (λe=>B.filterMap (aM e))=((B.take i).flatMap λe=>B.filterMap (aM e))++B.filterMap (aM e):=by rw[d8 r,Sj];simp
  generalize ((B.take i).flatMap λe=>B.filterMap (aM e))=P at C v;refine sY (λj ρ=>∃g a,ρ=[-(aW B),cL (.ow ((P++(B.take j).filterMap (aM e)).map aZ)),-(tD e.1),-(sD e.2),g,a]) (ds:=B.map wD) (ρ1:=[-(aW B),cL (.ow (P.map aZ)),-(tD e.1),-(sD e.2),g,a]) (b5 (d:=aW B) (ae rfl) rfl rfl) ⟨g,a,by rw[Sy,T1,Pu]⟩ ?_ ?_
  .rintro j d ρ o ⟨g,a,rfl⟩
   obtain⟨f,q,rfl⟩:=jZ o;have z:=O9 q;refine⟨_,rfl,?_⟩;have k:P++(B.take (j+1)).filterMap (aM e)=P++(B.take j).filterMap (aM e)++(match aM e f with|some w=>[w]|none=>[]):=by rw[d8 q,Tu,Pj];rw[sT];cases aM e f<;>rfl
   have E:(P++(B.take j).filterMap (aM e)).length<=420:=by
    have h1:=iT (aM e) (B.take j);have u:=l.Vq;have t:(B.take j).length<=20:=by rw[P4];ext
    rw[OO];ext
   generalize P++(B.take j).filterMap (aM e)=M at k E;have ne:=F6 (l.wc e A) (l.wc f z);have H:=j0 e.2 f.2;refine gF (b:= !decide (e.1=f.1)&&bg e.2 f.2) (oD (aO (dr (ae rfl) (ae rfl) rfl rfl ne) rfl) λ_=>aO (gk (aj (ae rfl) (aj (ae rfl) ar)) rfl rfl H) rfl) (λh=>?_) λh=>?_
   .rw[Ld,RO,decide_eq_false_iff_not]at h
    have p:aM e f=cL ⟨f.2.length,f.2.drop e.2.length,[f.1],[e.1]⟩:=by unfold aM;rw[ai h]
    rw[p]at k;have l1:=fL f.2;have F:=fL e.2;have ct:=iu f.2 e.2.length;refine dz (eB (d:=aZ ⟨f.2.length,f.2.drop e.2.length,[f.1],[e.1]⟩) (x:=[-(aW B),cL (.ow (M.map aZ++[aZ ⟨f.2.length,f.2.drop e.2.length,[f.1],[e.1]⟩])),-(tD e.1),-(sD e.2),-(tD f.1),-(sD f.2)]) rfl (bP (ds:=[nd f.2.length,sD (f.2.drop e.2.length),.tuple [tD f.1],.tuple [tD e.1]]) (aj (bD (rv:=.fz (nd f.2.length)) (aj (ae rfl) ar) rfl l1) (aj (fU (rv:=.fz (sD (f.2.drop e.2.length))) (ae rfl) (bI (bD (rv:=.fz (nd e.2.length)) (aj (ae rfl) ar) rfl F) rfl) bG rfl ct) (aj (bP (ds:=[tD f.1]) (aj (ae rfl) ar) rfl (Pl rfl)) (aj (bP (ds:=[tD e.1]) (aj (ae rfl) ar) rfl (Pl rfl)) ar)))) rfl (Pl rfl)) rfl rfl (by rw[OH];ext) rfl) ⟨_,_,by rw[k,Pm];rfl⟩
   .have p:aM e f=CL:=by
     unfold aM;rw[ak];rintro⟨h1,G⟩;rw[a7 h1,G]at h;cases h
    rw[p]at k;exact dU ⟨_,_,by rw[k,Pu];rfl⟩
  .rintro ρ ⟨g,a,rfl⟩;refine⟨-(tD e.1),-(sD e.2),g,a,?_⟩;rw[v,OH,Qz]
 .rintro ρ ⟨n,m,g,a,rfl⟩;rw[OH,Qz];exact bL (cV rfl) rfl rfl
theorem Mo(w:Wy):dZ (aZ w) (.int 0)=-(nd w.p)/\dZ (aZ w) (.int 1)=-(sD w.r)/\dZ (aZ w) (.int 2)=-(.tuple (w.lo.map tD))/\dZ (aZ w) (.int 3)=-(.tuple (w.sh.map tD)):=⟨rfl,rfl,rfl,rfl⟩
theorem Bv(a b:Nat):bi (nd a) (nd b)=-(nd (a+b)):=rfl
theorem Cd{B:cc Wd}(F:BB B){w:Wy}(h1:w.sh≠[])(P:w.sh.length<=1000):d9 [aW B,aZ w]=.ok (.ow ((cM B w).map aZ)):=by
 obtain⟨t,q,n,m⟩:=Mo w;refine fM (ρ:=[-(aW B),-(aZ w),CL,CL,CL,CL,CL,CL]) rfl ?_;unfold d7;refine aI (pv:=.fz (nd w.p)) (ρ3:=[-(aW B),-(aZ w),-(nd w.p),CL,CL,CL,CL,CL]) (aK (rv:=.fz (nd w.p)) (ae rfl) cf rfl rfl t) rfl rfl ?_;refine aI (pv:=.fz (sD w.r)) (ρ3:=[-(aW B),-(aZ w),-(nd w.p),-(sD w.r),CL,CL,CL,CL]) (aK (rv:=.fz (sD w.r)) (ae rfl) cf rfl rfl q) rfl rfl ?_;have G:=lN w.r [];refine iG (b:=decide (w.r=[])) (aO (dr (dy:=sD []) (ae rfl) (bP (ds:=[]) ar rfl (P0 _)) rfl rfl G) rfl) (λa=>?_) λa=>cz ?_
 .have e:cM B w=[]:=by unfold cM;rw[ai (b9 a)]
  rw[e];exact lz (pv:=.ow []) (by walk_at "evp") rfl rfl
 have H:cM B w=B.filterMap (nx w):=by unfold cM;rw[ak (of_decide_eq_false a)]
 rw[H];refine aI (pv:=.ow []) (ρ3:=[-(aW B),-(aZ w),-(nd w.p),-(sD w.r),cL (.ow []),CL,CL,CL]) (by walk_at "evp") rfl rfl ?_;refine cg (λi ρ=>∃k j h,ρ=[-(aW B),-(aZ w),-(nd w.p),-(sD w.r),cL (.ow (((B.take i).filterMap (nx w)).map aZ)),k,j,h]) (ds:=B.map wD) (ρ1:=[-(aW B),-(aZ w),-(nd w.p),-(sD w.r),cL (.ow []),CL,CL,CL]) (b5 (d:=aW B) (ae rfl) rfl rfl) ⟨CL,CL,CL,rfl⟩ ?_ ?_
 .rintro i d ρ E ⟨k,j,h,rfl⟩
  obtain⟨e,C,rfl⟩:=jZ E;refine⟨_,rfl,?_⟩;have f:(B.take (i+1)).filterMap (nx w)=(B.take i).filterMap (nx w)++(match nx w e with|some w=>[w]|none=>[]):=by rw[d8 C,Tu];rw[sT];cases nx w e<;>rfl
  have u:((B.take i).filterMap (nx w)).length<=20:=by have h1:=iT (nx w) (B.take i);have O:=F.Vq;rw[P4]at h1;ext
  generalize (B.take i).filterMap (nx w)=M at f u;have L:=j0 e.2 w.r;have K:=j0 w.r e.2;have l1:=fL e.2;have A:=fL w.r;have J:=iu w.r e.2.length;have I:=iu e.2 w.r.length;have v:=fL (e.2.drop w.r.length);have o:bi (.tuple (w.sh.map tD)) (.tuple [tD e.1])=-(.tuple ((w.sh++[e.1]).map tD)):=by show(if w.sh.map tD≠[]/\(w.sh.map tD).length+1<=1000000 then _ else _)=_;rw[ai ⟨by intro z;exact h1 (List.map_eq_nil_iff.mp z),by rw[OH];ext⟩,Pm];rfl
  have N:=Bv w.p (e.2.drop w.r.length).length;refine gF (b:=bg e.2 w.r) (aO (gk (aj (ae rfl) (aj (ae rfl) ar)) rfl rfl L) rfl) (λa=>?_) λa=>?_
  .have g:nx w e=cL ⟨w.p,w.r.drop e.2.length,w.lo,w.sh++[e.1]⟩:=by unfold nx;rw[ai a]
   rw[g]at f;refine dz (eB (d:=aZ ⟨w.p,w.r.drop e.2.length,w.lo,w.sh++[e.1]⟩) (x:=[-(aW B),-(aZ w),-(nd w.p),-(sD w.r),cL (.ow (M.map aZ++[aZ ⟨w.p,w.r.drop e.2.length,w.lo,w.sh++[e.1]⟩])),-(tD e.1),-(sD e.2),h]) rfl (bP (ds:=[nd w.p,sD (w.r.drop e.2.length),.tuple (w.lo.map tD),.tuple ((w.sh++[e.1]).map tD)]) (aj (ae rfl) (aj (fU (rv:=.fz (sD (w.r.drop e.2.length))) (ae rfl) (bI (bD (rv:=.fz (nd e.2.length)) (aj (ae rfl) ar) rfl l1) rfl) bG rfl J) (aj (aK (rv:=.fz (.tuple (w.lo.map tD))) (ae rfl) cf rfl rfl n) (aj (aK (rv:=.fz (.tuple ((w.sh++[e.1]).map tD))) (dx:=.tuple (w.sh.map tD)) (dy:=.tuple [tD e.1]) (aK (rv:=.fz (.tuple (w.sh.map tD))) (ae rfl) cf rfl rfl m) (bP (ds:=[tD e.1]) (aj (ae rfl) ar) rfl (Pl rfl)) rfl rfl o) ar)))) rfl (Pl rfl)) rfl rfl (by rw[OH];ext) rfl) ⟨_,_,_,by rw[f,Pm];rfl⟩
  .refine gF (b:=bg w.r e.2) (aO (gk (aj (ae rfl) (aj (ae rfl) ar)) rfl rfl K) rfl) (λl=>?_) λl=>?_
   .have g:nx w e=cL ⟨w.p+(e.2.drop w.r.length).length,e.2.drop w.r.length,w.sh++[e.1],w.lo⟩:=by unfold nx;rw[ak (by rw[a];simp),ai l]
    rw[g]at f;refine aI (pv:=.fz (sD (e.2.drop w.r.length))) (ρ3:=[-(aW B),-(aZ w),-(nd w.p),-(sD w.r),cL (.ow (M.map aZ)),-(tD e.1),-(sD e.2),-(sD (e.2.drop w.r.length))]) (fU (rv:=.fz (sD (e.2.drop w.r.length))) (ae rfl) (bI (bD (rv:=.fz (nd w.r.length)) (aj (ae rfl) ar) rfl A) rfl) bG rfl I) rfl rfl ?_;refine dz (eB (d:=aZ ⟨w.p+(e.2.drop w.r.length).length,e.2.drop w.r.length,w.sh++[e.1],w.lo⟩) (x:=[-(aW B),-(aZ w),-(nd w.p),-(sD w.r),cL (.ow (M.map aZ++[aZ ⟨w.p+(e.2.drop w.r.length).length,e.2.drop w.r.length,w.sh++[e.1],w.lo⟩])),-(tD e.1),-(sD e.2),-(sD (e.2.drop w.r.length))]) rfl (bP (ds:=[nd (w.p+(e.2.drop w.r.length).length),sD (e.2.drop w.r.length),.tuple ((w.sh++[e.1]).map tD),.tuple (w.lo.map tD)]) (aj (aK (rv:=.fz (nd (w.p+(e.2.drop w.r.length).length))) (ae rfl) (bD (rv:=.fz (nd (e.2.drop w.r.length).length)) (aj (ae rfl) ar) rfl v) rfl rfl N) (aj (ae rfl) (aj (aK (rv:=.fz (.tuple ((w.sh++[e.1]).map tD))) (dx:=.tuple (w.sh.map tD)) (dy:=.tuple [tD e.1]) (aK (rv:=.fz (.tuple (w.sh.map tD))) (ae rfl) cf rfl rfl m) (bP (ds:=[tD e.1]) (aj (ae rfl) ar) rfl (Pl rfl)) rfl rfl o) (aj (aK (rv:=.fz (.tuple (w.lo.map tD))) (ae rfl) cf rfl rfl n) ar)))) rfl (Pl rfl)) rfl rfl (by rw[OH];ext) rfl) ⟨_,_,_,by rw[f,Pm];rfl⟩
   .have g:nx w e=CL:=by unfold nx;rw[ak (by rw[a];simp),ak (by rw[l];simp)]
    rw[g]at f;exact dU ⟨_,_,_,by rw[f,Pu];rfl⟩
 .rintro ρ ⟨k,j,h,rfl⟩;rw[OH,Qz];exact bL (cV rfl) rfl rfl
def Nq:cj D->SV->SV
 |some d,_=>.fz d
 |none,z=>z
section
variable{ρ ρ1:aE}{ω ω1 Z X:aG}{x y z:SV}{i:Nat}{d:D}{Y:cc (D×D)}
theorem iH(h:ω[i]?=cL (.dd Y)):fX ω (.rf i)=cL (i,Y):=by unfold fX;dsimp only;rw[h]
theorem nM(a:fk ρ ω=.ok x ω1)(hd:fd ρ ω1=.ok (.rf i) Z)(h1:fE x=cL k)(b:Z[i]?=cL (.dd Y)):gL neg fk fd ρ ω=.ok (.fz (.bool ((aV Y k).isSome !=neg))) Z:=by unfold gL;rw[a,eN,hd,eN,h1];show((RS.Qf Z (fX Z (.rf i))).bind _)=_;rw[iH b];rfl
theorem yT(hd:fd ρ ω=.ok (.rf i) ω1)(a:fk ρ ω1=.ok x Z)(h1:fE x=cL k)(e:Z[i]?=cL (.dd Y))(b:aV Y k=cL d):lC fd fk ρ ω=.ok (.fz d) Z:=by unfold lC;rw[hd,eN,a,eN,h1];show((RS.Qf Z (fX Z (.rf i))).bind _)=_;rw[iH e];show((RS.Qf Z (aV Y k)).bind _)=_;rw[b];rfl
theorem qD(a:fv ρ ω=.ok (.fz d) ω1)(hd:fd ρ ω1=.ok (.rf i) Z)(e:fk ρ Z=.ok x X)(h1:fE x=cL k)(f:X[i]?=cL (.dd Y))(b:Y.length<1000000):j3 fd fk fv ρ ω=.ok (.nx ρ) (X.set i (.dd (fC Y k d))):=by unfold j3;rw[a,eN,hd,eN,e,eN,h1];show((RS.Qf X (fX X (.rf i))).bind _)=_;rw[iH f];show(if Y.length<1000000 then _ else _)=_;rw[ai b]
theorem xu{fd fk fx:cI}{k:D}{f:cc (D×D)}(hd:fd ρ ω=.ok (.rf i) ω1)(h0:ω1[i]?=cL (.dd f))(b:fk ρ ω1=.ok x Z)(a:fx ρ Z=.ok z X)(h1:fE x=cL k)(e:X[i]?=cL (.dd Y)):jd fd fk fx ρ ω=.ok (Nq (aV Y k) z) X:=by unfold jd;rw[hd,eN,iH h0];show((fk ρ ω1).bind _)=_;rw[b,eN,a,eN,h1];show((RS.Qf X (fX X (.rf i))).bind _)=_;rw[iH e];show RS.ok (match aV Y k with|some d=>SV.fz d|none=>z) X=_;cases aV Y k<;>rfl
theorem zN{fd fk:cI}{k:D}{f:cc (D×D)}(hd:fd ρ ω=.ok (.rf i) ω1)(h0:ω1[i]?=cL (.dd f))(a:fk ρ ω1=.ok x Z)(h1:fE x=cL k)(e:Z[i]?=cL (.dd Y))(b:aV Y k=cL d):lQ fd fk ρ ω=.ok (.fz d) (Z.set i (.dd (iY Y k))):=by unfold lQ;rw[hd,eN,iH h0];show((fk ρ ω1).bind _)=_;rw[a,eN,h1];show((RS.Qf Z (fX Z (.rf i))).bind _)=_;rw[iH e];show((RS.Qf Z (aV Y k)).bind _)=_;rw[b];rfl
theorem D0{fd:cI}(hd:fd ρ ω=.ok (.rf i) ω1)(a:ω1[i]?=cL (.dd Y)):mF fd ρ ω=.ok (.fz (.bool (!Y.isEmpty))) ω1:=by unfold mF;rw[hd,eN,iH a];rfl
theorem BI{fd:cI}(hd:fd ρ ω=.ok (.rf i) ω1)(b:ω1[i]?=cL (.dd Y))(a:LD.okO (Y.map (·.2))=OG)(hm:(Y.map (·.2))[LD.minI (Y.map (·.2))]?=cL d):lR fd ρ ω=.ok (.fz d) ω1:=by unfold lR;rw[hd,eN,iH b];show(if LD.okO (Y.map (·.2))=OG then((RS.Qf ω1 ((Y.map (·.2))[LD.minI (Y.map (·.2))]?)).bind _)else _)=_;rw[ai a,hm];rfl
theorem oQ(ha:fa ρ ω=.ok xs ω1)(hn:xs.length=n)(a:F xs ω1=.ok x Z):lL F n fa ρ ω=.ok x Z:=by unfold lL;rw[ha,eN,ai hn,a,qS]
end
def ei(M:Mp):cc (D×D):=M.map λq=>(sD q.1,aZ q.2)
theorem fO(a b:Rs):OD.eqv (sD a) (sD b)=decide (a=b):=by unfold sD;rw[OD.eqv];exact o6 a b
theorem kC(M:Mp)(r:Rs):aV (ei M) (sD r)=(iO M r).map aZ:=by
 unfold aV iO ei
 induction M with
 |nil=>rfl
 |cons q M a=>
  rw[OM,P6,P6,fO];by_cases e:q.1=r
  .rw[a6 e];rfl
  .rw[a7 e];exact a
theorem zK(M:Mp)(r:Rs):((ei M).find? λkv=>OD.eqv kv.1 (sD r)).isSome=(M.find? λq=>decide (q.1=r)).isSome:=by
 unfold ei
 induction M with
 |nil=>rfl
 |cons q M a=>
  rw[OM,P6,P6,fO];by_cases e:q.1=r
  .rw[a6 e];rfl
  .rw[a7 e];exact a
theorem wb(M:Mp)(r:Rs)(w:Wy):fC (ei M) (sD r) (aZ w)=ei (iR M r w):=by
 unfold fC iR;rw[zK];split
 .unfold ei
  rw[PY,PY];apply TL;intro q _;show(if OD.eqv (sD q.1) (sD r)=OG then(sD q.1,aZ w)else(sD q.1,aZ q.2))=_;rw[fO];by_cases e:q.1=r
  .rw[ai (a6 e)];show _=(sD (if q.1=r then(q.1,w)else q).1,aZ (if q.1=r then(q.1,w)else q).2);rw[ai e]
  .rw[ak (by simpa using e)];show _=(sD (if q.1=r then(q.1,w)else q).1,aZ (if q.1=r then(q.1,w)else q).2);rw[ak e]
 .unfold ei;rw[Pm];rfl
theorem BK(M:Mp)(r:Rs):iY (ei M) (sD r)=ei (fw M r):=by unfold iY fw ei;rw[List.filter_map];congr 1;apply List.filter_congr;intro q _;show(!OD.eqv (sD q.1) (sD r))=_;rw[fO]
theorem vf:∀l:cc Int,LD.kds (l.map OD.int)=OG
 |[]=>by rw[Pq,LD.kds]
 |i::r=>by rw[OM,LD.kds,LD.kd,vf r];rfl
theorem AF:∀l:Rs,LD.kds (l.map kD)=OG
 |[]=>by rw[Pq,LD.kds]
 |i::r=>by rw[OM,LD.kds,AF r];unfold kD;rw[LD.kd,vf];rfl
theorem gU(r:Rs):fE (.fz (sD r))=cL (sD r):=by show(if LD.keyD (sD r)=OG then cL (sD r)else CL)=_;rw[ai];unfold sD;rw[LD.keyD,AF,Rg];apply a6;rw[OD.depth];have:=gH r;ext
theorem pU:∀{L:cc (cc Nat)},(∀l∈L,∀c∈l,c<1114112)->OD.canLayAll0 (L.map tD)=OG
 |[],_=>by rw[Pq,OD.canLayAll0]
 |l::r,h=>by rw[OM,OD.canLayAll0,pU λx a=>h x (OV _ a)];unfold tD;rw[OD.canLay0,mM (h l (O0 ..))];rfl
theorem pc:∀L:cc (cc Nat),OD.depthAll (L.map tD)=0
 |[]=>by rw[Pq,OD.depthAll]
 |l::r=>by rw[OM,OD.depthAll,pc r];unfold tD;rw[OD.depth];rfl
def jK(L:cc (cc Nat)):Prop:=∀l∈L,∀c∈l,c<1114112
theorem gZ{B:cc Wd}(f:BB B){L:cc (cc Nat)}(h:Ll B L):jK L:=λl a c d=>by obtain⟨e,b,rfl⟩:=OW.mp (h l a);exact f.wc e b c d
theorem IU{w:Wy}(h1:jK w.lo)(a:jK w.sh):(aZ w).canLay0=OG/\(aZ w).depth<=32:=by
 unfold aZ sD nd;constructor
 .rw[OD.canLay0,OD.canLayAll0,OD.canLayAll0,OD.canLayAll0,OD.canLayAll0,OD.canLayAll0,OD.canLay0,OD.canLay0,OD.canLay0,OD.canLay0,jW,pU h1,pU a];rfl
 .rw[OD.depth,OD.depthAll,OD.depthAll,OD.depthAll,OD.depthAll,OD.depthAll,OD.depth,OD.depth,OD.depth,OD.depth,pc,pc];have:=gH w.r;ext
theorem yP{L:cc Wy}(h:∀w∈L,jK w.lo/\jK w.sh):LD.okO (L.map aZ)=OG:=by unfold LD.okO;rw[PF];intro a ha;obtain⟨w,d,rfl⟩:=OW.mp ha;obtain⟨h1,g⟩:=IU (h w d).1 (h w d).2;rw[h1,a6 g,Rg,Rg,PF];intro b f;obtain⟨v,_,rfl⟩:=OW.mp f;obtain⟨r,e,_⟩:=AH w v;rw[e];rfl
theorem uI(L:cc Wy):∀k,k<L.length->∃(m:Nat) (b:Wy),argBest (LD.btD (L.map aZ)) k=m/\m<=k/\L[m]?=cL b/\∀(j:Nat) (w:Wy),j<=k->L[j]?=cL w->b.p<=w.p
 |0,h=>⟨0,L[0],rfl,OJ _,OY h,λj w f e=>by
   have:j=0:=by ext
   subst this;rw[OY h]at e;cases e;exact OJ _⟩
 |k+1,h=>by
  obtain⟨m,b,e1,e2,e3,e4⟩:=uI L k (by ext);have a:L[k+1]?=cL L[k+1]:=OY h;have g:LD.btD (L.map aZ) (k+1) m=(LD.ltd (aZ L[k+1]) (aZ b)).getD OP:=by unfold LD.btD;rw[Ry,Ry,OT,OT,a,e3];rfl
  obtain⟨r,n,l,i⟩:=AH L[k+1] b;rw[n]at g;have d:argBest (LD.btD (L.map aZ)) (k+1)=if r=OG then k+1 else m:=by show(if LD.btD (L.map aZ) (k+1) (argBest (LD.btD (L.map aZ)) k)=OG then k+1 else argBest (LD.btD (L.map aZ)) k)=_;rw[e1,g];rfl
  cases r with
  |true=>
   rw[ai rfl]at d;refine⟨k+1,L[k+1],d,OJ _,a,λj w f e=>?_⟩;by_cases z:j=k+1
   .subst z;rw[a]at e;cases e;exact OJ _
   .exact OZ (l rfl) (e4 j w (by ext) e)
  |false=>
   rw[ak (by simp)]at d;refine⟨m,b,d,by ext,e3,λj w f e=>?_⟩;by_cases z:j=k+1
   .subst z;rw[a]at e;cases e;exact i rfl
   .exact e4 j w (by ext) e
theorem GV{O:Mp}(f:O≠[]):∃b∈O,((ei O).map (·.2))[LD.minI ((ei O).map (·.2))]?=cL (aZ b.2)/\∀q∈O,b.2.p<=q.2.p:=by
 have g:(ei O).map (·.2)=(O.map (·.2)).map aZ:=by unfold ei;rw[PY,PY];rfl
 rw[g];have h:0<O.length:=List.length_pos_iff.mpr f;obtain⟨m,b,e1,e2,e3,e4⟩:=uI (O.map (·.2)) (O.length - 1) (by rw[OH];ext);rw[OT]at e3;obtain⟨q,a,rfl⟩:=PM.mp e3;refine⟨q,O9 a,?_,λz e=>?_⟩
 .unfold LD.minI;rw[OH,OH,e1,OT,OT,a];rfl
 .obtain⟨j,d⟩:=Sb.mp e;have:=(OI.mp d).1;exact e4 j z.2 (by ext) (by rw[OT,d];rfl)
theorem nU(M:Mp):(ei M).length=M.length:=by unfold ei;rw[OH]
theorem zb(M:Mp)(r:Rs)(w:Wy):(iR M r w).length<=M.length+1:=by
 unfold iR;split
 .rw[OH];ext
 .rw[OO];exact OJ _
theorem qL:∀(ws:cc Wy) (O:Mp),(fP O ws).length<=O.length+ws.length
 |[],O=>OJ _
 |w::ws,O=>by have h1:=qL ws (iM O w);have a:=zb O w.r (jc w ((iO O w.r).getD w));show(fP (iM O w) ws).length<=_;unfold iM at h1⊢;rw[OQ];ext
theorem eW{α:Type}{l:cc α}{i j:Nat}{x:α}(h:i≠j):(l.set i x)[j]?=l[j]? :=Rx h
theorem lK{α:Type}{l:cc α}{i:Nat}{x y:α}(h:l[i]?=cL y):(l.set i x)[i]?=cL x:=by rw[Q9 (OI.mp h).1]
theorem AB{α:Type}{l:cc α}{i:Nat}{x:α}(h:l[i]?=cL x):l.set i x=l:=by obtain⟨a,rfl⟩:=OI.mp h;exact List.set_getElem_self a
theorem tE{α b:Type}(f:α->b->α)(a:α)(l:cc b)(x:b):(l++[x]).foldl f a=f (l.foldl f a) x:=by rw[WA];rfl
theorem IW{L:cc Wy}{i:Nat}{d:D}(h:(L.map aZ)[i]?=cL d):∃w,L[i]?=cL w/\d=aZ w:=by rw[OT]at h;obtain⟨e,h1,a⟩:=PM.mp h;exact⟨e,h1,a.symm⟩
theorem DP{O:Mp}{w:Wy}(a:jK w.lo/\jK w.sh)(d:∀q∈O,jK q.2.lo/\jK q.2.sh):∀q∈iM O w,jK q.2.lo/\jK q.2.sh:=λq b=>by
 rcases jv b with e|e
 .subst e;exact a
 .exact d q e
theorem rq:∀{ws:cc Wy} {O:Mp},(∀w∈ws,jK w.lo/\jK w.sh)->(∀q∈O,jK q.2.lo/\jK q.2.sh)->∀q∈fP O ws,jK q.2.lo/\jK q.2.sh
 |[],_,_,h=>h
 |w::ws,O,hw,hO=>rq (ws:=ws) (O:=iM O w) (λz a=>hw z (OV _ a)) (DP (hw w (O0 ..)) hO)
theorem qU{O:Mp}{ws:cc Wy}{ω:aG}{i j:Nat}(b:i≠j)(hi:ω[i]?=cL (.dd (ei O)))(I:ω[j]?=cL (.lst ((ws.map aZ).map .fz)))(C:∀w∈ws,jK w.lo/\jK w.sh)(M:∀q∈O,jK q.2.lo/\jK q.2.sh)(S:O.length+ws.length<=1000):
  i6 [.rf i,.rf j] ω=.ok (.fz .none) ((ω.set j .dead).set i (.dd (ei (fP O ws)))):=by
 obtain⟨x,a,e,rfl,rfl⟩:=o9 (n:=4) (g:=iw) (xs:=[.rf i,.rf j]) (ω:=ω) (ρ:=[cL (.rf i),cL (.rf j),CL,CL]) (T:=λx a=>x=.fz .none/\a=(ω.set j .dead).set i (.dd (ei (fP O ws)))) rfl (by
  unfold iw;refine yt (λn ρ a=>(∃m l,ρ=[cL (.rf i),cL (.rf j),m,l])/\a=(ω.set j .dead).set i (.dd (ei (fP O (ws.take n))))) (ds:=ws.map aZ) (ω1:=ω.set j .dead) (Im (i:=j) (bh rfl) I) ⟨⟨CL,CL,rfl⟩,?_⟩ ?_ ?_
  .rw[Sy];show ω.set j .dead=(ω.set j .dead).set i (.dd (ei O));have h:(ω.set j .dead)[i]?=cL (.dd (ei O)):=(eW (ee b)).trans hi;exact(AB h).symm
  .rintro n d ρ a K ⟨⟨m,l,rfl⟩,rfl⟩
   obtain⟨w,A,rfl⟩:=IW K;have U:=(OI.mp A).1;have f:=rq (ws:=ws.take n) (O:=O) (λw hm=>C w (TB hm)) M;have p:(fP O (ws.take n)).length<=1000:=by have:=qL (ws.take n) O;rw[P4]at this;ext
   have N:fP O (ws.take (n+1))=iM (fP O (ws.take n)) w:=by rw[d8 A];unfold fP;rw[tE]
   rw[N];generalize fP O (ws.take n)=P at f p;have t:((ω.set j .dead).set i (.dd (ei P)))[i]?=cL (.dd (ei P)):=lK ((eW (ee b)).trans hi);refine⟨[cL (.rf i),cL (.rf j),-(aZ w),l],_,rfl,?_⟩;have F:=(Mo w).2.1;refine ej (x:=.fz (sD w.r)) (ω1:=(ω.set j .dead).set i (.dd (ei P))) (ρ1:=[cL (.rf i),cL (.rf j),-(aZ w),-(sD w.r)]) (aL (aK (rv:=.fz (sD w.r)) (ae rfl) cf rfl rfl F)) rfl ?_;have B:=C w (O9 A);have J:∃v:Wy,Nq (aV (ei P) (sD w.r)) (.fz (aZ w))=.fz (aZ v)/\v=(iO P w.r).getD w/\jK v.lo/\jK v.sh:=by
    rw[kC];cases g:iO P w.r with
    |none=>exact⟨w,rfl,rfl,B⟩
    |some v=>exact⟨v,rfl,rfl,f _ (jo g)⟩
   obtain⟨v,ev,u,Q⟩:=J;have E:=xu (ρ:=[cL (.rf i),cL (.rf j),-(aZ w),-(sD w.r)]) (fd:=bA 0) (fk:=aD (aa 3)) (fx:=aD (aa 2)) (bh rfl) t (aL (ae rfl)) (aL (ae rfl)) (gU w.r) t;rw[ev]at E;have G:se [aZ w,aZ v]=-(aZ (jc w v)):=by
    have H:LD.okO [aZ w,aZ v]=OG:=yP (L:=[w,v]) λz o=>by
     rcases Pe.mp o with e|o
     .subst e;exact B
     .rw[OU.mp o];exact Q
    show(if LD.okO [aZ w,aZ v]=OG then cL (RV.fz (if LD.ltd (aZ v) (aZ w)=cL OG then aZ v else aZ w))else CL)=_;rw[ai H];unfold jc;split<;>rfl
   refine yY (qD (d:=aZ (jc w v)) (k:=sD w.r) (Fv (xs:=[.fz (aZ w),.fz (aZ v)]) (ds:=[aZ w,aZ v]) (bN (aL (ae rfl)) (bN E eC)) rfl G) (bh rfl) (aL (ae rfl)) (gU w.r) t (by rw[nU];ext)) ⟨⟨_,_,rfl⟩,?_⟩;rw[List.set_set,wb];unfold iM;rw[<-u]
  .rintro ρ a ⟨⟨m,l,rfl⟩,rfl⟩;rw[OH,Qz];exact⟨rfl,rfl⟩)
 exact e
def Mb(B:cc Wd)(W:Mp)(w:Wy):Prop:=w∈br B\/∃a∈W,w∈cM B a.2
inductive Rc(B:cc Wd):Wy->Prop
 |fst {w}:w∈br B->Rc B w
 |Y2 {a w}:Rc B a->w∈cM B a->Rc B w
structure Bd(B:cc Wd)(W O:Mp):Prop where
 w:∀q∈W,q.2.p<=6+6*W.length
 o:∀q∈O,q.2.p<=6+6*W.length
 gw:∀q∈W,Mb B W q.2/\Rc B q.2
 go:∀q∈O,Mb B W q.2/\Rc B q.2
theorem AI{B:cc Wd}(b:BB B):∀{L:cc (cc Nat)},Ll B L->L.length<=(wr B L).length
 |[],_=>P0 _
 |w::L,h=>by obtain⟨s,a⟩:=DF (h w (O0 ..));have h1:1<=s.length:=b.s1 _ (lU a);have e:=AI b (L:=L) λz d=>h z (OV _ d);rw[kF,a,OQ,OO];show L.length+1<=s.length+_;ext
theorem Cj{B:cc Wd}(a:BB B){q:Rs×Wy}(h:Xr B q):q.2.lo.length<=q.2.p/\q.2.sh.length<=q.2.p:=by have h1:=AI a h.i;have d:=AI a h.j;have b:=ey Q8 h.e;rw[OO]at b;have:=h.p;ext
theorem Jn{B:cc Wd}(d:BB B){a w:Wy}(h:w∈cM B a):w.p<=a.p+6:=by
 unfold cM at h;split at h
 .cases h
 .obtain⟨e,b,h⟩:=Qw.mp h
  have f:=d.s6 e b;unfold nx at h;split at h
  .cases h;exact Ur _ _
  .split at h
   .cases h;show a.p+(e.2.drop a.r.length).length<=_;rw[Qy];ext
   .cases h
theorem gS:∀{ws:cc Wy} {O:Mp} {q:Rs×Wy},q∈fP O ws->q∈O\/∃w∈ws,q=(w.r,w)
 |[],_,_,h=>.inl h
 |w::ws,O,q,h=>by
  rcases gS (ws:=ws) (O:=iM O w) h with h|⟨z,hz,e⟩
  .rcases jv h with e|e
   .exact .inr ⟨w,O0 ..,e⟩
   .exact .inl e
  .exact .inr ⟨z,OV _ hz,e⟩
theorem wY{B:cc Wd}(g:BB B):∀q∈fP [] (br B),q.2.p<=6+6*([]:Mp).length:=λq b=>by
 rcases gS b with h|⟨w,a,rfl⟩
 .cases h
 .obtain⟨e,i,a⟩:=QQ.mp a
  obtain⟨f,d,a⟩:=Qw.mp a;unfold aM at a;split at a
  .cases a;have:=g.s6 f d;show f.2.length<=6+6*0;ext
  .cases a
theorem Bh{B:cc Wd}(b:BB B):Bd B [] (fP [] (br B)):=⟨λ_ z=>(by cases z),(wY b),λ_ z=>(by cases z),λq a=>by
 rcases gS a with h|⟨w,hw,rfl⟩
 .cases h
 .exact⟨.inl hw,.fst hw⟩⟩
theorem Dv{B:cc Wd}(j:BB B){W O:Mp}(h:Bd B W O){b:Rs×Wy}(hb:b∈O):Bd B (W++[b]) (fP (fw O b.1) (tX B W b)):=by
 have g:(W++[b]).length=W.length+1:=by rw[OO];rfl
 have f:∀{w:Wy},Mb B W w->Mb B (W++[b]) w:=λh=>h.imp id λ⟨a,h1,i⟩=>⟨a,PR _ h1,i⟩;refine⟨λq d=>?_,λq d=>?_,λq d=>?_,λq d=>?_⟩
 .rw[g]
  rcases Pf.mp d with d|d
  .have:=h.w q d;ext
  .rw[OU.mp d];have:=h.o b hb;ext
 .rw[g]
  rcases gS d with d|⟨w,e,rfl⟩
  .have:=h.o q (Qi.mp d).1;ext
  .have h1:=Jn j (Qi.mp e).1;have i:=h.o b hb;show w.p<=_;ext
 .rcases Pf.mp d with d|d
  .exact⟨f (h.gw q d).1,(h.gw q d).2⟩
  .rw[OU.mp d];exact⟨f (h.go b hb).1,(h.go b hb).2⟩
 .rcases gS d with d|⟨w,e,rfl⟩
  .have:=h.go q (Qi.mp d).1;exact⟨f this.1,this.2⟩
  .have e:=(Qi.mp e).1;exact⟨.inr ⟨b,Ph _ (OU.mpr rfl),e⟩,.Y2 (h.go b hb).2 e⟩
theorem Hm{B:cc Wd}(b:BB B){W O:Mp}(h:Iv B W O):(∀q∈W,jK q.2.lo/\jK q.2.sh)/\∀q∈O,jK q.2.lo/\jK q.2.sh:=
 ⟨λq a=>⟨gZ b (h.wk q a).i,gZ b (h.wk q a).j⟩,λq a=>⟨gZ b (h.ok q a).i,gZ b (h.ok q a).j⟩⟩
theorem Aw{c:lY}{b:fR}{N C:aE->aG->Prop}{T:SV->aG->Prop}(I:Nat->aE->aG->Prop)(f:∀m ρ ω,I m ρ ω->(c ρ ω=.ok OP ω/\N ρ ω)\/(c ρ ω=.ok OG ω/\Sk (b ρ ω) (λρ' ω'=>∃m',m'<m/\I m' ρ' ω') (λ_ _=>False) T)):∀(n m:Nat) (ρ:aE) (ω:aG),m<n->I m ρ ω->Sk (l7 c b n ρ ω) N C T
 |0,m,_,_,h,_=>by ext
 |n+1,m,ρ,ω,h,h0=>by
  rcases f m ρ ω h0 with⟨h1,a⟩|⟨h1,a⟩
  .refine⟨?_⟩;unfold l7;rw[h1,eN,ak OX];exact a
  .have a:=a.out
   unfold l7;refine .eq (r':=(b ρ ω).bind λe d=>match e with
    |.nx ρ2=>l7 c b n ρ2 d
    |.ct ρ2=>l7 c b n ρ2 d
    |.bk ρ2=>.ok (.nx ρ2) d
    |.rt x=>.ok (.rt x) d) (by rw[h1,eN,ai rfl]<;>rfl) ?_
   cases q:b ρ ω with
   |bad=>rw[q]at a;exact a.elim
   |er x o=>rw[q]at a;exact a.elim
   |ok e o=>
    rw[q]at a;cases e with
    |nx r=>obtain⟨m',hm,g⟩:=a;exact Aw I f n m' r o (by ext) g
    |ct r=>exact a.elim
    |rt v=>exact⟨a⟩
    |bk r=>exact a.elim
theorem iS{gt:kR}{ft:lY}{fe:cI}{ω:aG}{α:Type}(e:α->D)(f:α->SV)(p:α->Bool)(I:aE->Prop):∀(xs:cc α) (ρ:aE) (acc:cc SV),I ρ->acc.length+xs.length<=1000000->(∀x∈xs,∀ρ,I ρ->∃ρ',gt (.fz (e x)) ρ ω=.ok ρ' ω/\ft ρ' ω=.ok (p x) ω/\fe ρ' ω=.ok (f x) ω/\I ρ')->bu gt ft fe (xs.map e) ρ ω acc=.ok (acc++(xs.filter p).map f) ω
 |[],ρ,acc,_,_,_=>by show RS.ok acc ω=_;rw[List.filter_nil,Pq,Pu]
 |x::r,ρ,acc,h0,hl,hs=>by
  obtain⟨ρ',h1,g,d,b⟩:=hs x O0 ρ h0;rw[OQ]at hl;show((gt (.fz (e x)) ρ ω).bind _)=_;rw[h1,eN,g,eN];cases hp:p x with
  |true=>rw[ai rfl,d,eN,ai (by ext),iS e f p I r ρ' _ b (by rw[OO,P8];ext) λy a=>hs y (OV _ a),Qm,ai hp,Pj];rfl
  |false=>rw[ak OX,iS e f p I r ρ' _ b (by ext) λy a=>hs y (OV _ a),Qm,ak (by rw[hp];exact OX)]
theorem v5(M:Mp)(r:Rs):(iO M r).isSome=decide (r∈M.map (·.1)):=by
 unfold iO;rw[QU];by_cases h:r∈M.map (·.1)
 .rw[a6 h,Rn];obtain⟨q,h1,a⟩:=OW.mp h;exact⟨q,h1,a6 a⟩
 .rw[a7 h]
  cases q:(M.find? λq=>decide (q.1=r)).isSome with
  |false=>rfl
  |true=>rw[Rn]at q;obtain⟨z,h1,a⟩:=q;exact cb (OW.mpr ⟨z,h1,b9 a⟩) h
theorem uf{M:Mp}(h:(M.map (·.1)).Nodup){q:Rs×Wy}(a:q∈M):iO M q.1=cL q.2:=by
 cases g:iO M q.1 with
 |none=>have:=v5 M q.1;rw[g,a6 (OW.mpr ⟨q,a,rfl⟩)]at this;cases this
 |some w=>have:=sR h a (jo g) rfl;rw[this]
theorem iW{α:Type}{l m:cc α}{i:Nat}{x:α}(h:l[i]?=cL x):(l++m)[i]?=cL x:=by rw[Pc (OI.mp h).1];exact h
theorem lA{α:Type}{l:cc α}{i:Nat}{x:α}(h:l[i]?=cL x):i<l.length:=(OI.mp h).1
theorem xS{B:cc Wd}(a:BB B)(w:Wy):(cM B w).length<=20:=by
 unfold cM;split
 .exact P0 _
 .exact OZ (iT _ _) a.Vq
structure Tn(B:cc Wd)(a b m:Nat)(ρ:aE)(ω:aG):Prop where
 ex:∃(W O:Mp) (t3:cj SV),ρ=[-(aW B),cL (.rf a),cL (.rf b),t3]/\ω[a]?=cL (.dd (ei W))/\ω[b]?=cL (.dd (ei O))/\Full B W O/\Bd B W O/\m=150 - W.length
theorem qM{B:cc Wd}(f:BB B)(b:aG):∃(W:Mp) (h:aG),cT [.fz (aW B)] b=.ok (.rf b.length) h/\h[b.length]?=cL (.dd (ei W))/\Full B W []/\Bd B W []:=by
 have fo:=yy f;obtain⟨x,h,e,W,rfl,h1,M,h3⟩:=o9 (n:=4) (g:=bv) (xs:=[.fz (aW B)]) (ω:=b) (ρ:=[-(aW B),CL,CL,CL]) (T:=λx h=>∃W,x=.rf b.length/\h[b.length]?=cL (.dd (ei W))/\Full B W []/\Bd B W []) rfl (by
  unfold bv;refine ej (x:=.rf b.length) (ω1:=b++[.dd []]) (ρ1:=[-(aW B),cL (.rf b.length),CL,CL]) rfl rfl ?_;have l1:(b++[Cell.dd []]).length=b.length+1:=by rw[OO];rfl
  refine ej (x:=.rf (b.length+1)) (ω1:=b++[.dd []]++[.dd []]) (ρ1:=[-(aW B),cL (.rf b.length),cL (.rf (b.length+1)),CL]) (by unfold lG;rw[l1]) rfl ?_;have l2:(b++[Cell.dd []]++[Cell.dd []]).length=b.length+2:=by rw[OO,l1];rfl
  have X:(b++[Cell.dd []]++[Cell.dd []])[b.length]?=cL (.dd (ei [])):=iW aH;have P:(b++[Cell.dd []]++[Cell.dd []])[b.length+1]?=cL (.dd (ei [])):=by rw[<-l1];exact aH
  generalize b++[Cell.dd []]++[Cell.dd []]=ω1 at l2 X P;have lf:=kM f;have fl:aD (bH c9 1 {aa 0}) [-(aW B),cL (.rf b.length),cL (.rf (b.length+1)),CL] ω1=.ok (.rf ω1.length) (ω1++[.lst (((br B).map aZ).map .fz)]):=lO (cN (rv:=.ow ((br B).map aZ)) (aj (ae rfl) ar) rfl rfl fo);have N:(ω1++[Cell.lst (((br B).map aZ).map .fz)])[ω1.length]?=cL (.lst (((br B).map aZ).map .fz)):=aH;have of:=qU (i:=b.length+1) (j:=ω1.length) (ω:=ω1++[Cell.lst (((br B).map aZ).map .fz)]) (O:=[]) (ws:=br B) (by ext) (iW P) N (λw t=>⟨gZ f (jY f t).i,gZ f (jY f t).j⟩) (λ_ z=>(by cases z)) (by show 0+_<=_;ext);refine vT (x:=.fz .none) (oQ (xs:=[.rf (b.length+1),.rf ω1.length]) (bN (bh rfl) (bN fl eC)) rfl of) ?_;refine iJ (Aw (Tn B b.length (b.length+1)) (λm ρ ω hT=>?_) 1000000 150 _ _ (by ext) ⟨[],_,CL,rfl,?_,?_,BS f,Bh f,rfl⟩)
  .obtain⟨W,O,t3,rfl,ha,E,v,L,rfl⟩:=hT.ex
   have l16:=nG f v.iv;have ne:=D0 (fd:=bA 2) (ρ:=[-(aW B),cL (.rf b.length),cL (.rf (b.length+1)),t3]) (bh rfl) E;cases O with
   |nil=>exact .inl ⟨dW ne,sV (bh rfl) ⟨W,rfl,ha,v,L⟩⟩
   |cons Q Z=>
    refine .inr ⟨dW ne,?_⟩;obtain⟨q,A,hm,hp⟩:=GV (O:=Q::Z) (by simp);generalize Q::Z=O at*;obtain⟨cw,U⟩:=Hm f v.iv;have C:=v.iv.ok q A;obtain⟨_,G,_,_⟩:=Mo q.2;rw[C.k]at G;have H:LD.okO ((ei O).map (·.2))=OG:=by
     have ec:(ei O).map (·.2)=(O.map (·.2)).map aZ:=by unfold ei;rw[PY,PY];rfl
     rw[ec];exact yP λw t=>by obtain⟨z,K,rfl⟩:=OW.mp t;exact U z K
    refine ej (x:=.fz (aZ q.2)) (ω1:=ω) (ρ1:=[-(aW B),cL (.rf b.length),cL (.rf (b.length+1)),-(aZ q.2)]) (BI (bh rfl) E H hm) rfl ?_;have gq:aV (ei O) (sD q.1)=cL (aZ q.2):=by rw[kC,uf v.iv.on A];rfl
    have p:=zN (fd:=bA 2) (fk:=aD (az dZ (aa 3) (~~~1))) (ρ:=[-(aW B),cL (.rf b.length),cL (.rf (b.length+1)),-(aZ q.2)]) (bh rfl) E (aL (aK (rv:=.fz (sD q.1)) (ae rfl) cf rfl rfl G)) (gU q.1) E gq;rw[BK]at p;have u:(ω.set (b.length+1) (.dd (ei (fw O q.1))))[b.length]?=cL (.dd (ei W)):=(eW (by ext)).trans ha;have Y:(ω.set (b.length+1) (.dd (ei (fw O q.1))))[b.length+1]?=cL (.dd (ei (fw O q.1))):=lK E;generalize ω.set (b.length+1) (.dd (ei (fw O q.1)))=ω2 at p u Y;have nw:q.1∉W.map (·.1):=λz=>by obtain⟨a,h1,M⟩:=OW.mp z;exact v.iv.dj a h1 q A M
    have pt:=qD (fd:=bA 1) (fk:=aD (az dZ (aa 3) (~~~1))) (d:=aZ q.2) p (bh rfl) (aL (aK (rv:=.fz (sD q.1)) (ae rfl) cf rfl rfl G)) (gU q.1) u (by rw[nU];ext);rw[wb,CW nw]at pt;refine J9 pt ?_;have l:(ω2.set b.length (.dd (ei (W++[(q.1,q.2)]))))[b.length]?=cL (.dd (ei (W++[q]))):=lK u;have F:(ω2.set b.length (.dd (ei (W++[(q.1,q.2)]))))[b.length+1]?=cL (.dd (ei (fw O q.1))):=(eW (by ext)).trans Y;generalize ω2.set b.length (.dd (ei (W++[(q.1,q.2)])))=ω3 at l F;have sl:=Cj f C;have pb:=L.o q A;have I:=Cd f C.n.2 (by ext);have nl:=xS f q.2;have it:j6 (fT (bH d9 2 {aa 0,aa 3})) [-(aW B),cL (.rf b.length),cL (.rf (b.length+1)),-(aZ q.2)] ω3=.ok ((cM B q.2).map aZ) ω3:=qZ (b5 (d:=.list ((cM B q.2).map aZ)) (cN (rv:=.ow ((cM B q.2).map aZ)) (aj (ae rfl) (aj (ae rfl) ar)) rfl rfl I) rfl rfl);have S:=iS (gt:=jB 0) (ft:=d5 (gL OG (aD (az dZ (aa 0) (~~~1))) (bA 1))) (fe:=aD (aa 0)) (ω:=ω3) aZ (λw=>SV.fz (aZ w)) (λn=> !decide (n.r∈(W++[q]).map (·.1))) (λρ=>∃t0,ρ=[t0,cL (.rf b.length)]) (cM B q.2) [CL,cL (.rf b.length)] [] ⟨CL,rfl⟩ (by show 0+_<=_;ext) (by rintro w t ρ ⟨t0,rfl⟩;refine⟨[-(aZ w),cL (.rf b.length)],rfl,?_,aL (ae rfl),_,rfl⟩;have:=nM (neg:=OG) (fk:=aD (az dZ (aa 0) (~~~1))) (fd:=bA 1) (ρ:=[-(aZ w),cL (.rf b.length)]) (aL (aK (rv:=.fz (sD w.r)) (ae rfl) cf rfl rfl (Mo w).2.1)) (bh rfl) (gU w.r) l;rw[kC,QU,v5,Yi]at this;exact dW this);rw[RH]at S;have cl:=DZ (n:=1) (fj:=[1]) (ρ:=[-(aW B),cL (.rf b.length),cL (.rf (b.length+1)),-(aZ q.2)]) it S;have nf:(tX B W q).length<=20:=OZ (Ts _ _) nl;have N:(ω3++[Cell.lst (((cM B q.2).filter λn=> !decide (n.r∈(W++[q]).map (·.1))).map λw=>SV.fz (aZ w))])[ω3.length]?=cL (.lst (((tX B W q).map aZ).map .fz)):=by rw[PY];exact aH
    have ol:(fw O q.1).length<=140:=OZ (Ts _ _) (by ext);have J:Xr B (q.2.r,q.2):=by rw[C.k];exact C
    have of:=qU (i:=b.length+1) (j:=ω3.length) (O:=fw O q.1) (ws:=tX B W q) (by have:=lA F;ext) (iW F) N (λw t=>by have:=(lH f J (Qi.mp t).1).1;exact⟨gZ f this.i,gZ f this.j⟩) (λz K=>U z (Qi.mp K).1) (by ext);refine uA (x:=.fz .none) (oQ (xs:=[.rf (b.length+1),.rf ω3.length]) (bN (bh rfl) (bN cl eC)) rfl of) ⟨150 - (W++[q]).length,by rw[OO,P8];ext,⟨W++[q],_,_,rfl,?_,?_,DH f v A hp,Dv f L A,rfl⟩⟩
    .rw[eW (by ext),eW (by have:=lA l;ext)];exact iW l
    .exact lK ((eW (by have:=lA F;ext)).trans (iW F))
  .rw[eW (by ext),eW (by ext)];exact iW X
  .exact lK ((eW (by ext)).trans (iW P)))
 exact⟨W,h,e,h1,M,h3⟩
def jX{α:Type}[DecidableEq α](lt:α->α->Bool):cc α->cc α->Bool
 |[],[]=>OP
 |[],_::_=>OG
 |_::_,[]=>OP
 |x::xs,y::ys=>if x=y then jX lt xs ys else lt x y
structure XR{α:Type}(lt:α->α->Bool):Prop where
 irr:∀a,lt a a=OP
 tr:∀a b c,lt a b=OG->lt b c=OG->lt a c=OG
 tot:∀a b,lt a b=OP->lt b a=OP->a=b
theorem XR.abF{α:Type}{lt:α->α->Bool}(h:XR lt){a b:α}(k:lt a b=OG):lt b a=OP:=by
 cases q:lt b a with
 |false=>rfl
 |true=>have:=h.tr a b a k q;rw[h.irr]at this;cases this
theorem XR.lex{α:Type}[DecidableEq α]{lt:α->α->Bool}(h:XR lt):XR (jX lt) where
 irr:=λa=>by
  induction a with
  |nil=>rfl
  |cons x a f=>rw[jX,ai rfl];exact f
 tr:=λa=>by
  induction a with
  |nil=>
   intro b c h1 d;cases b with
   |nil=>cases h1
   |cons y b=>cases c with
    |nil=>cases d
    |cons z c=>rfl
  |cons x a f=>
   intro b c h1 d;cases b with
   |nil=>cases h1
   |cons y b=>cases c with
    |nil=>cases d
    |cons z c=>
     rw[jX]at h1 d⊢;by_cases e1:x=y
     .subst e1
      rw[ai rfl]at h1;by_cases e2:x=z
      .rw[ai e2]at d⊢;exact f b c h1 d
      .rw[ak e2]at d⊢;exact d
     .rw[ak e1]at h1
      by_cases e2:y=z
      .subst e2;rw[ak e1];exact h1
      .rw[ak e2]at d;have:=h.tr x y z h1 d;rw[ak (λe=>by rw[e,h.irr]at this;cases this)];exact this
 tot:=λa=>by
  induction a with
  |nil=>intro b h1 _;cases b with
   |nil=>rfl
   |cons y b=>cases h1
  |cons x a f=>
   intro b h1 d;cases b with
   |nil=>cases d
   |cons y b=>
    rw[jX]at h1 d;by_cases e:x=y
    .subst e;rw[ai rfl]at h1 d;rw[f b h1 d]
    .rw[ak e]at h1;rw[ak (ee e)]at d;exact cb (h.tot x y h1 d) e
def HI(a b:Int):Bool:=decide (a<b)
theorem Lk:XR HI where
 irr:=λa=>a7 (Int.lt_irrefl a)
 tr:=λa b c h1 d=>a6 (Zp (b9 h1) (b9 d))
 tot:=λa b h1 d=>by have:=of_decide_eq_false h1;have:=of_decide_eq_false d;ext
abbrev xp:Rs->Rs->Bool:=jX (jX HI)
theorem rO:XR xp:=Lk.lex.lex
theorem yr:∀a b:cc Int,LD.ltds (a.map OD.int) (b.map OD.int)=cL (jX HI a b)
 |[],[]=>by rw[Pq,LD.ltds];rfl
 |[],_::_=>by rw[Pq,OM,LD.ltds];rfl
 |_::_,[]=>by rw[Pq,OM,LD.ltds];rfl
 |x::a,y::b=>by
  rw[OM,OM,LD.ltds,jX];have e:OD.eqv (.int x) (.int y)=decide (x=y):=by rw[OD.eqv];by_cases h:x=y<;>simp[h]
  rw[e];by_cases h:x=y
  .rw[ai (a6 h),ai h];exact yr a b
  .rw[ak (by rw[a7 h];exact OX),ak h,LD.ltd];rfl
theorem E1(x y:cc Int):OD.eqv (kD x) (kD y)=decide (x=y):=by unfold kD;rw[OD.eqv];exact Jg x y
theorem BH:∀a b:Rs,LD.ltds (a.map kD) (b.map kD)=cL (xp a b)
 |[],[]=>by rw[Pq,LD.ltds];rfl
 |[],_::_=>by rw[Pq,OM,LD.ltds];rfl
 |_::_,[]=>by rw[Pq,OM,LD.ltds];rfl
 |x::a,y::b=>by
  rw[OM,OM,LD.ltds,E1];show _=cL (if x=y then xp a b else jX HI x y);by_cases h:x=y
  .rw[ai (a6 h),ai h];exact BH a b
  .rw[ak (by rw[a7 h];exact OX),ak h];unfold kD;rw[LD.ltd];exact yr x y
abbrev Rp:=Rs×Nat
def aC(a:Rp):D:=.tuple [sD a.1,nd a.2]
def Ft(a b:Rp):Bool:=if a.1=b.1 then decide (a.2<b.2)else xp a.1 b.1
theorem uK:XR Ft where
 irr:=λa=>by unfold Ft;rw[ai rfl];exact a7 (Qa _)
 tr:=λa b c h1 d=>by
  unfold Ft at*;by_cases e1:a.1=b.1
  .rw[ai e1]at h1
   rw[e1];by_cases e2:b.1=c.1
   .rw[ai e2]at d⊢;exact a6 (Sn (b9 h1) (b9 d))
   .rw[ak e2]at d⊢;exact d
  .rw[ak e1]at h1
   by_cases e2:b.1=c.1
   .rw[<-e2,ak e1];exact h1
   .rw[ak e2]at d;have:=rO.tr _ _ _ h1 d;rw[ak (λe=>by rw[e,rO.irr]at this;cases this)];exact this
 tot:=λa b h1 d=>by
  unfold Ft at*;by_cases e:a.1=b.1
  .rw[ai e]at h1;rw[ai e.symm]at d;have:=of_decide_eq_false h1;have:=of_decide_eq_false d;exact Prod.ext e (by ext)
  .rw[ak e]at h1;rw[ak (ee e)]at d;exact cb (rO.tot _ _ h1 d) e
theorem qp(a b:Rp):LD.ltd (aC a) (aC b)=cL (Ft a b):=by
 unfold aC Ft;rw[LD.ltd,LD.ltds,fO];by_cases e:a.1=b.1
 .rw[ai (a6 e),ai e,LD.ltds]
  by_cases e2:a.2=b.2
  .have:OD.eqv (nd a.2) (nd b.2)=OG:=by rw[e2];unfold nd;rw[OD.eqv];simp
   rw[ai this,LD.ltds,e2];simp
  .have:¬OD.eqv (nd a.2) (nd b.2)=OG:=by unfold nd;rw[OD.eqv];simp;ext
   rw[ak this];unfold nd;rw[LD.ltd];congr 1;exact decide_eq_decide.mpr (by ext)
 .rw[ak (by rw[a7 e];exact OX),ak e];unfold sD;rw[LD.ltd];exact BH _ _
theorem Ad(a:Rp):(aC a).canLay0=OG/\(aC a).depth<=32:=by
 unfold aC sD nd;constructor
 .rw[OD.canLay0,OD.canLayAll0,OD.canLayAll0,OD.canLayAll0,OD.canLay0,OD.canLay0,jW];rfl
 .rw[OD.depth,OD.depthAll,OD.depthAll,OD.depthAll,OD.depth,OD.depth];have:=gH a.1;ext
theorem F0(L:cc Rp):LD.Lin (L.map aC) where
 ok:=by unfold LD.okO;rw[PF];intro a ha;obtain⟨x,_,rfl⟩:=OW.mp ha;obtain⟨h1,d⟩:=Ad x;rw[h1,a6 d,Rg,Rg,PF];intro b e;obtain⟨y,_,rfl⟩:=OW.mp e;rw[qp];rfl
 irr:=λa ha=>by obtain⟨x,_,rfl⟩:=OW.mp ha;rw[qp,uK.irr]
 tr:=λa ha b e c f h1 d=>by obtain⟨x,_,rfl⟩:=OW.mp ha;obtain⟨y,_,rfl⟩:=OW.mp e;obtain⟨z,_,rfl⟩:=OW.mp f;rw[qp] at*;rw[uK.tr x y z (Pr h1) (Pr d)]
 tot:=λa ha b e h1 d=>by obtain⟨x,_,rfl⟩:=OW.mp ha;obtain⟨y,_,rfl⟩:=OW.mp e;rw[qp]at h1 d;rw[uK.tot x y (Pr h1) (Pr d)]
 tup:=λa ha=>by obtain⟨x,_,rfl⟩:=OW.mp ha;exact⟨_,_,rfl⟩
theorem uT{α:Type}{lt:α->α->Bool}(h:XR lt):∀l:cc α,∃m:cc α,m.Perm l/\m.Pairwise λa b=>lt b a=OP
 |[]=>⟨[],.refl _,.nil⟩
 |x::l=>by
  obtain⟨m,p,s⟩:=uT h l;have ins:∀m:cc α,m.Pairwise (λa b=>lt b a=OP)->∃k:cc α,k.Perm (x::m)/\k.Pairwise λa b=>lt b a=OP:=by
   intro m
   induction m with
   |nil=>intro _;exact⟨[x],.refl _,Vh _ _⟩
   |cons y m j=>
    intro s;obtain⟨f,e⟩:=QR.mp s;cases q:lt y x with
    |false=>
     refine⟨x::y::m,.refl _,QR.mpr ⟨λz d=>?_,s⟩⟩;rcases Pe.mp d with rfl|d
     .exact q
     .cases q2:lt z x with
      |false=>rfl
      |true=>
       cases q3:lt x y with
       |true=>have:=h.tr z x y q2 q3;rw[f z d]at this;cases this
       |false=>rw[h.tot x y q3 q,f z d]at q2;cases q2
    |true=>
     obtain⟨k,p,g⟩:=j e;refine⟨y::k,(p.cons y).trans (.swap x y m),QR.mpr ⟨λz d=>?_,g⟩⟩;rcases Pe.mp (p.mem_iff.mp d)with rfl|d
     .exact h.abF q
     .exact f z d
  obtain⟨k,i,e⟩:=ins m s;exact⟨k,i.trans (p.cons x),e⟩
structure Sol(B:cc Wd)(L:cc Rp):Prop where
 up:L.Pairwise λa b=>xp a.1 b.1=OG
 fst:∀f∈br B,∃a∈L,a.1=f.r/\a.2<=f.p
 Y2:∀a∈L,∀e∈B,a.1≠[]->(bg e.2 a.1=OG->∃b∈L,b.1=a.1.drop e.2.length/\b.2<=a.2)/\(bg a.1 e.2=OG->∃b∈L,b.1=e.2.drop a.1.length/\b.2<=a.2+(e.2.length - a.1.length))
 org:∀a∈L,(∃f∈br B,f.r=a.1/\f.p=a.2)\/∃b∈L,b.1≠[]/\∃e∈B,(bg e.2 b.1=OG/\a=(b.1.drop e.2.length,b.2))\/(bg b.1 e.2=OG/\a=(e.2.drop b.1.length,b.2+(e.2.length - b.1.length)))
 len:L.length<=140
 suf:∀a∈L,a.1∈sA B
def rp(q:Rs×Wy):Rp:=(q.1,q.2.p)
theorem HN{B:cc Wd}(H:BB B){W:Mp}(j:Full B W [])(N:Bd B W []){L:cc Rp}(p:L.Perm (W.map rp))(s:L.Pairwise λa b=>Ft b a=OP):Sol B L:=by
 have o:∀q∈W,rp q∈L:=λq i=>p.mem_iff.mpr (OW.mpr ⟨q,i,rfl⟩);have l:∀a∈L,∃q∈W,rp q=a:=λa ha=>OW.mp (p.mem_iff.mp ha);have nd:(L.map (·.1)).Nodup:=by
  have:(L.map (·.1)).Perm (W.map (·.1)):=by have:=p.map (·.1);rwa [PY]at this
  exact this.nodup_iff.mpr j.iv.wn
 have v:∀{r:Rs} {n:Nat},Gt W r n->∃a∈L,a.1=r/\a.2<=n:=λ⟨q,h1,t,C⟩=>⟨rp q,o q h1,t,C⟩;have J:=j.fst;have I:=j.Y2;rw[Pu]at J I;refine⟨?_,λf M=>v (J f M),λa ha e A P=>?_,λa ha=>?_,?_,λa ha=>?_⟩
 .have w:L.Pairwise λa b=>a.1≠b.1:=RQ.mp nd
  refine(s.and w).imp λ{a b} h=>?_;have h1:=h.1;unfold Ft at h1;rw[ak (ee h.2)]at h1;cases q:xp a.1 b.1 with
  |true=>rfl
  |false=>exact cb (rO.tot _ _ q h1) h.2
 .obtain⟨q,i,rfl⟩:=l a ha
  have g:=(j.iv.wk q i).k;have z:q.2.r≠[]:=by rw[g];exact P
  have G:∀{n:Wy},nx q.2 e=cL n->Gt W n.r n.p:=λ{n} hn=>I q i n (by unfold cM;rw[ak z];exact Qw.mpr ⟨e,A,hn⟩);have one:bg e.2 q.1=OG->Gt W (q.1.drop e.2.length) q.2.p:=λd=>by have:=G (n:=⟨q.2.p,q.2.r.drop e.2.length,q.2.lo,q.2.sh++[e.1]⟩) (by unfold nx;rw[ai (by rw[g];exact d)]);rw[g]at this;exact this
  refine⟨λd=>v (one d),λd=>?_⟩;have d:bg q.1 e.2=OG:=d;show∃b∈L,b.1=e.2.drop q.1.length/\b.2<=q.2.p+(e.2.length - q.1.length);by_cases F:bg e.2 q.1=OG
  .obtain⟨c,u⟩:=jQ.mp d
   obtain⟨Q,O⟩:=jQ.mp F;have K:c=[]:=by have h1:=ey Q8 u;have t:=ey Q8 O;rw[OO]at h1 t;exact Vg.mp (by ext)
   subst K;rw[Pu]at u;have:=one F;rw[u,Xi]at this;rw[u,Xi];obtain⟨a,h1,t,C⟩:=v this;exact⟨a,h1,t,OZ C (Ur _ _)⟩
  .have:=G (n:=⟨q.2.p+(e.2.drop q.2.r.length).length,e.2.drop q.2.r.length,q.2.sh++[e.1],q.2.lo⟩) (by unfold nx;rw[ak (by rw[g];exact F),ai (by rw[g];exact d)]);rw[g,Qy]at this;exact v this
 .obtain⟨q,i,rfl⟩:=l a ha
  have g:=(j.iv.wk q i).k;rcases(N.gw q i).1 with h|⟨b,d,h⟩
  .exact .inl ⟨q.2,h,g,rfl⟩
  .refine .inr ⟨rp b,o b d,?_⟩
   have m:=(j.iv.wk b d).k;unfold cM at h;split at h
   .cases h
   .rename_i z
    obtain⟨e,A,h⟩:=Qw.mp h;refine⟨by show b.1≠[];rw[<-m];exact z,e,A,?_⟩;unfold nx at h;split at h
    .rename_i E;have h:=Pr h;refine .inl ⟨by show bg e.2 b.1=OG;rw[<-m];exact E,?_⟩;show(q.1,q.2.p)=(b.1.drop e.2.length,b.2.p);rw[<-g,<-h,m]
    .split at h
     .rename_i E;have h:=Pr h;refine .inr ⟨by show bg b.1 e.2=OG;rw[<-m];exact E,?_⟩;show(q.1,q.2.p)=(e.2.drop b.1.length,b.2.p+(e.2.length - b.1.length));rw[<-g,<-h,m,Qy]
     .cases h
 .have:=nG H j.iv;rw[p.length_eq,OH];ext
 .obtain⟨q,i,rfl⟩:=l a ha;exact sN H (j.iv.wk q i)
theorem jq{α d b:Type}{f:d->cj b}{g:α->d}{h:α->b}:∀{l:cc α},(∀x∈l,f (g x)=cL (h x))->aq f (l.map g)=cL (l.map h)
 |[],_=>rfl
 |a::l,k=>by rw[OM];unfold aq;rw[k a O0];dsimp only;rw[jq λx e=>k x (OV _ e)];rfl
theorem rT{B:cc Wd}(o:BB B):∃(L:cc Rp) (j:Nat) (m:aG),eL [.fz (aW B)] []=.ok (.rf j) m/\m[j]?=cL (.lst ((L.map aC).map .fz))/\Sol B L:=by
 obtain⟨W,k,e,h1,n,z⟩:=qM o [];have h1:k[0]?=cL (.dd (ei W)):=h1;obtain⟨L,p,s⟩:=uT uK (W.map rp);refine⟨L,k.length+1,k++[.lst ((W.map λq=>aC (rp q)).map .fz)]++[.lst ((L.map aC).map .fz)],?_,by rw[show k.length+1=(k++[Cell.lst ((W.map λq=>aC (rp q)).map .fz)]).length by simp];exact aH,HN o n z p s⟩;unfold eL jk;have v:LD.restsL (ei W)=cL (W.map λq=>aC (rp q)):=by
  unfold LD.restsL;have l1:=nG o n.iv;rw[ai (by rw[nU];ext)];have r:(ei W).map (·.1)=W.map λq=>sD q.1:=by unfold ei;rw[PY];rfl
  rw[r];refine jq λq w=>?_;unfold LD.restOf;rw[kC,uf n.iv.wn w];rfl
 have rk:LD.restK 1 [-(aW B),cL (.rf 0)] k=.ok (.rf k.length) (k++[.lst ((W.map λq=>aC (rp q)).map .fz)]):=by unfold LD.restK;show((RS.Qf k (fX k (.rf 0))).bind _)=_;rw[iH h1];show((RS.Qf k (LD.restsL (ei W))).bind _)=_;rw[v];rfl
 have r:(W.map λq=>aC (rp q))=(W.map rp).map aC:=by rw[PY];rfl
 have u:LD.sortD (W.map λq=>aC (rp q))=L.map aC:=by rw[r];refine LD.sortD_eq (F0 _) (p.map aC) ?_;unfold LD.Srt;exact RQ.mpr (s.imp λ{a b} h=>by rw[qp,h])
 have t:LD.sortS (LD.restK 1) [-(aW B),cL (.rf 0)] k=.ok (.rf (k.length+1)) (k++[.lst ((W.map λq=>aC (rp q)).map .fz)]++[.lst ((L.map aC).map .fz)]):=by
  unfold LD.sortS;rw[rk,eN];have la:LD.lstAt (k++[.lst ((W.map λq=>aC (rp q)).map .fz)]) (.rf k.length)=cL ((W.map λq=>aC (rp q)).map .fz):=by unfold LD.lstAt;dsimp only;rw[show(k++[Cell.lst ((W.map λq=>aC (rp q)).map .fz)])[k.length]?=cL (.lst ((W.map λq=>aC (rp q)).map .fz))from aH]
  rw[la];show((RS.Qf _ (aq ms ((W.map λq=>aC (rp q)).map .fz))).bind _)=_;rw[show aq ms ((W.map λq=>aC (rp q)).map SV.fz)=cL (W.map λq=>aC (rp q)) by have:=jq (f:=ms) (g:=SV.fz) (h:=λd=>d) (l:=W.map λq=>aC (rp q)) λ_ _=>rfl;rw[this,List.map_id']];have l1:=nG o n.iv;refine Eq.trans (ai ⟨by rw[r];exact F0 _,by rw[OH];ext⟩) ?_;rw[u];simp
 exact G4 rfl (IG (GB (i:=1) (ρ1:=[-(aW B),cL (.rf 0)]) (oQ (xs:=[.fz (aW B)]) (bN (aL (ae rfl)) eC) rfl e) rfl) (Ae t))
def Kw(B:cc Wd):Prop:=∀e∈B,∀k∈e.2,k.length<=12
theorem Il{B:cc Wd}(h:Kw B){r:Rs}(a:r∈sA B):∀k∈r,k.length<=12:=by
 unfold sA at a;obtain⟨e,d,a⟩:=QQ.mp a;intro k b;refine h e d k ?_;simp only[Pe,S8,or_false]at a;rcases a with rfl|rfl|rfl|rfl|rfl|rfl|rfl
 .exact b
 all_goals exact Tz b
theorem qI(i:Int):bO [.int i]=.ok (.fz (.bool OG)):=by unfold bO dw;exact HV (ρ:=[-(.int i)]) rfl (by walk_at "ev")
theorem tS{r:Rs}(h:∀k∈r,k.length<=12):dD [sD r]=.ok (.fz (.bool OG)):=by
 refine fM (ρ:=[-(sD r),CL]) rfl ?_;unfold ce;refine iG (b:=OP) (fG (a:=OG) (aO (ll (ae rfl) rfl rfl) rfl)) (λq=>by cases q) λ_=>cz ?_;refine cg (λi ρ=>∃t,ρ=[-(sD r),t]) (ds:=r.map kD) (ρ1:=[-(sD r),CL]) (b5 (d:=sD r) (ae rfl) rfl rfl) ⟨CL,rfl⟩ ?_ ?_
 .rintro i d ρ e ⟨t,rfl⟩;rw[OT]at e;obtain⟨k,j,rfl⟩:=PM.mp e;have m:=h k (O9 j);refine⟨_,rfl,?_⟩;have cA:jU (cW (gN 0) dH (bH bO 1 {aa 0}) (k.map OD.int) [CL] [])=.ok (k.map λ_=>.bool OG):=o0 (f:=OD.int) (g:=λ_=>.bool OG) (cp:=[]) k (by ext) rfl λx _=>gk (aj (ae rfl) ar) rfl rfl (qI x);have l:=qk (λ_=>OG) k;refine gF (b:= !OG|| !(k.all λ_=>OG)) (lB (fG (aO (ll (ae rfl) rfl rfl) rfl)) λ_=>fG (aO (zU (aj (jn (b5 (d:=kD k) (ae rfl) rfl rfl) rfl cA) ar) rfl l) rfl)) (λq=>?_) λ_=>dU ⟨_,rfl⟩;simp at q
 .rintro ρ ⟨t,rfl⟩;exact bL cf rfl rfl
theorem zM:∀a b:cc Int,LD.geds (a.map OD.int) (b.map OD.int)=cL (!jX HI a b)
 |[],[]=>by rw[Pq,LD.geds];rfl
 |[],_::_=>by rw[Pq,OM,LD.geds];rfl
 |_::_,[]=>by rw[Pq,OM,LD.geds];rfl
 |x::a,y::b=>by
  rw[OM,OM,LD.geds,jX];have e:OD.eqv (.int x) (.int y)=decide (x=y):=by rw[OD.eqv];by_cases h:x=y<;>simp[h]
  rw[e];by_cases h:x=y
  .rw[ai (a6 h),ai h];exact zM a b
  .rw[ak (by rw[a7 h];exact OX),ak h,LD.ged]
   unfold HI;congr 1;by_cases d:x<y
   .rw[a6 d,a7 (by ext)];rfl
   .rw[a7 d,a6 (by ext)];rfl
theorem zi:∀a b:Rs,LD.geds (a.map kD) (b.map kD)=cL (!xp a b)
 |[],[]=>by rw[Pq,LD.geds];rfl
 |[],_::_=>by rw[Pq,OM,LD.geds];rfl
 |_::_,[]=>by rw[Pq,OM,LD.geds];rfl
 |x::a,y::b=>by
  rw[OM,OM,LD.geds,E1];show _=cL (!(if x=y then xp a b else jX HI x y));by_cases h:x=y
  .rw[ai (a6 h),ai h];exact zi a b
  .rw[ak (by rw[a7 h];exact OX),ak h];unfold kD;rw[LD.ged];exact zM x y
theorem Au(a:Rs):(sD a).canLay0=OG/\(sD a).depth<=32:=by
 unfold sD;constructor
 .rw[OD.canLay0,jW]
 .rw[OD.depth];have:=gH a;ext
theorem Hl(a b:Rs):LD.geT (sD a) (sD b)=-(.bool (!xp a b)):=by obtain⟨g,f⟩:=Au a;obtain⟨e,d⟩:=Au b;unfold LD.geT;rw[g,e,a6 f,a6 d,ai (show(OG&&OG&&OG&&OG)=OG from rfl)];unfold sD;rw[LD.ged,zi];rfl
theorem tt{L:cc Rp}{i:Nat}{d:D}(h:(L.map aC)[i]?=cL d):∃e,L[i]?=cL e/\d=aC e:=by rw[OT]at h;obtain⟨e,h1,a⟩:=PM.mp h;exact⟨e,h1,a.symm⟩
theorem xU{L:cc Rp}(z:∀a∈L,∀k∈a.1,k.length<=12)(E:L.length<=140)(w:L.Pairwise λa b=>xp a.1 b.1=OG):dS [.list (L.map aC)]=.ok (.fz (.bool OG)):=by
 refine fM (ρ:=[-(.list (L.map aC)),CL,CL]) rfl ?_;unfold cR;refine iG (b:=OP) (fG (a:=OG) (aO (ll (ae rfl) rfl rfl) rfl)) (λq=>by cases q) λ_=>cz ?_;refine cg (λi ρ=>∃t,ρ=[-(.list (L.map aC)),t,CL]) (ds:=L.map aC) (ρ1:=[-(.list (L.map aC)),CL,CL]) (b5 (d:=.list (L.map aC)) (ae rfl) rfl rfl) ⟨CL,rfl⟩ ?_ ?_
 .rintro i d ρ f ⟨t,rfl⟩;obtain⟨a,ha,rfl⟩:=tt f;refine⟨_,rfl,?_⟩;have g:dZ (aC a) (.int 0)=-(sD a.1):=rfl;have m:dZ (aC a) (.int 1)=-(nd a.2):=rfl;have h:cU [aC a]=-(nd 2):=rfl;have ne:yd (nd 2) (.int 2)=-(.bool OP):=rfl;have so:=tS (z a (O9 ha));have n:=qI a.2;exact gF (b:= !OG||(OP||(!OG|| !OG))) (lB (fG (aO (ll (ae rfl) rfl rfl) rfl)) λ_=>lB (aO (dr (bD (rv:=.fz (nd 2)) (aj (ae rfl) ar) rfl h) cf rfl rfl ne) rfl) λ_=>lB (fG (aO (gk (aj (aK (rv:=.fz (sD a.1)) (ae rfl) cf rfl rfl g) ar) rfl rfl so) rfl)) λ_=>fG (aO (gk (aj (aK (rv:=.fz (nd a.2)) (ae rfl) cf rfl rfl m) ar) rfl rfl n) rfl)) (λq=>by cases q) λ_=>dU ⟨_,rfl⟩
 .rintro ρ ⟨t,rfl⟩
  have h:cU [.list (L.map aC)]=-(nd L.length):=by have:=lm (L.map aC);rw[OH]at this;exact this
  have p:wQ [.int 1,nd L.length]=cL (L3.bR 1 ((L.length:Int) - 1).toNat):=by unfold wQ nd;dsimp only;exact ai ⟨by unfold dc;ext,by unfold dc;ext⟩
  refine cg (λi ρ=>∃u,ρ=[-(.list (L.map aC)),t,u]) (ds:=L3.bR 1 ((L.length:Int) - 1).toNat) (ρ1:=[-(.list (L.map aC)),t,CL]) (jx (aj cf (aj (bD (rv:=.fz (nd L.length)) (aj (ae rfl) ar) rfl h) ar)) rfl p) ⟨CL,rfl⟩ ?_ ?_
  .rintro i d ρ f ⟨u,rfl⟩
   unfold L3.bR at f;rw[OT]at f;obtain⟨j,A,rfl⟩:=PM.mp f;have C:=OI.mp A;obtain⟨h1,l⟩:=C;rw[PD]at h1;rw[Ra]at l;subst l;have hi:i+1<L.length:=by ext
   refine⟨_,rfl,?_⟩;have o:lZ (.int (1+(i:Int))) (.int 1)=-(.int (i:Int)):=by show cL (RV.fz (.int (1+(i:Int) - 1)))=_;rw[show 1+(i:Int) - 1=i by ext]
   have v:dZ (.list (L.map aC)) (.int (i:Int))=-(aC L[i]):=He (by ext) (by rw[OT,OY (show(i:Int).toNat<L.length by ext)];rfl);have r:dZ (.list (L.map aC)) (.int (1+(i:Int)))=-(aC L[i+1]):=He (by ext) (by
    have e:(1+(i:Int)).toNat=i+1:=by ext
    rw[e,OT,OY hi];rfl)
   have g:∀a:Rp,dZ (aC a) (.int 0)=-(sD a.1):=λ_=>rfl;have lt:xp L[i].1 L[i+1].1=OG:=QF.mp w i (i+1) (by ext) hi (by ext);have B:=Hl L[i].1 L[i+1].1;refine gF (b:= !xp L[i].1 L[i+1].1) (aO (dr (dx:=sD L[i].1) (dy:=sD L[i+1].1) (aK (rv:=.fz (sD L[i].1)) (dx:=aC L[i]) (aK (rv:=.fz (aC L[i])) (ae rfl) (aK (rv:=.fz (.int (i:Int))) (ae rfl) cf rfl rfl o) rfl rfl v) cf rfl rfl (g _)) (aK (rv:=.fz (sD L[i+1].1)) (dx:=aC L[i+1]) (aK (rv:=.fz (aC L[i+1])) (ae rfl) (ae rfl) rfl rfl r) cf rfl rfl (g _)) rfl rfl B) rfl) (λq=>?_) λ_=>dU ⟨_,rfl⟩;rw[lt]at q;cases q
  .rintro ρ ⟨u,rfl⟩;exact bL cf rfl rfl
def om(B:cc Wd):cc Rp:=(br B).map λw=>(w.r,w.p)
def cQ(e f:Wd):cj Rp:=if e.1≠f.1/\bg e.2 f.2=OG then cL (f.2.drop e.2.length,f.2.length)else CL
theorem Eo(B:cc Wd):om B=B.flatMap λe=>B.filterMap (cQ e):=by unfold om br;rw[List.map_flatMap];congr 1;funext e;rw[List.map_filterMap];congr 1;funext f;unfold aM cQ;split<;>rfl
theorem pG(b:Rs)(n:Nat):kt (sD b) CL (cL (n:Int))=-(sD (b.take n)):=by unfold sD;rw[sJ,SU]
theorem rh{B:cc Wd}(l:BB B):eE [aW B]=.ok (.ow ((om B).map aC)):=by
 refine fM (ρ:=[-(aW B),CL,CL,CL,CL,CL]) rfl ?_;rw[Eo];unfold dB;refine aI (pv:=.ow []) (ρ3:=[-(aW B),cL (.ow []),CL,CL,CL,CL]) (by walk_at "evp") rfl rfl ?_;refine cg (λi ρ=>∃n m g a,ρ=[-(aW B),cL (.ow (((B.take i).flatMap λe=>B.filterMap (cQ e)).map aC)),n,m,g,a]) (ds:=B.map wD) (ρ1:=[-(aW B),cL (.ow []),CL,CL,CL,CL]) (b5 (d:=aW B) (ae rfl) rfl rfl) ⟨CL,CL,CL,CL,rfl⟩ ?_ ?_
 .rintro i d ρ o ⟨n,m,g,a,rfl⟩
  obtain⟨e,t,rfl⟩:=jZ o;have E:=O9 t;refine⟨_,rfl,?_⟩;have F:((B.take i).flatMap λe=>B.filterMap (cQ e)).length<=400:=by
   have h1:=eZ (λe=>B.filterMap (cQ e)) B.length (λe=>iT _ _) (B.take i);have v:=l.Vq;have u:(B.take i).length<=20:=by rw[P4];ext
   have:B.length*(B.take i).length<=20*20:=RZ v u;ext
  have z:(B.take (i+1)).flatMap (λe=>B.filterMap (cQ e))=((B.take i).flatMap λe=>B.filterMap (cQ e))++B.filterMap (cQ e):=by rw[d8 t,Sj];simp
  generalize ((B.take i).flatMap λe=>B.filterMap (cQ e))=P at F z;refine sY (λj ρ=>∃g a,ρ=[-(aW B),cL (.ow ((P++(B.take j).filterMap (cQ e)).map aC)),-(tD e.1),-(sD e.2),g,a]) (ds:=B.map wD) (ρ1:=[-(aW B),cL (.ow (P.map aC)),-(tD e.1),-(sD e.2),g,a]) (b5 (d:=aW B) (ae rfl) rfl rfl) ⟨g,a,by rw[Sy,T1,Pu]⟩ ?_ ?_
  .rintro j d ρ o ⟨g,a,rfl⟩
   obtain⟨f,r,rfl⟩:=jZ o;have C:=O9 r;refine⟨_,rfl,?_⟩;have k:P++(B.take (j+1)).filterMap (cQ e)=P++(B.take j).filterMap (cQ e)++(match cQ e f with|some w=>[w]|none=>[]):=by rw[d8 r,Tu,Pj];rw[sT];cases cQ e f<;>rfl
   have G:(P++(B.take j).filterMap (cQ e)).length<=420:=by
    have h1:=iT (cQ e) (B.take j);have v:=l.Vq;have u:(B.take j).length<=20:=by rw[P4];ext
    rw[OO];ext
   generalize P++(B.take j).filterMap (cQ e)=M at k G;have ne:=F6 (l.wc e E) (l.wc f C);have q:=fL e.2;have A:=pG f.2 e.2.length;have eq:=lN (f.2.take e.2.length) e.2;refine gF (b:= !decide (e.1=f.1)&&bg e.2 f.2) (oD (aO (dr (ae rfl) (ae rfl) rfl rfl ne) rfl) λ_=>aO (dr (fU (rv:=.fz (sD (f.2.take e.2.length))) (ae rfl) bG (bI (bD (rv:=.fz (nd e.2.length)) (aj (ae rfl) ar) rfl q) rfl) rfl A) (ae rfl) rfl rfl eq) rfl) (λh=>?_) λh=>?_
   .rw[Ld,RO,decide_eq_false_iff_not]at h
    have p:cQ e f=cL (f.2.drop e.2.length,f.2.length):=by unfold cQ;rw[ai h]
    rw[p]at k;have l1:=fL f.2;have ct:=iu f.2 e.2.length;refine dz (eB (d:=aC (f.2.drop e.2.length,f.2.length)) (x:=[-(aW B),cL (.ow (M.map aC++[aC (f.2.drop e.2.length,f.2.length)])),-(tD e.1),-(sD e.2),-(tD f.1),-(sD f.2)]) rfl (bP (ds:=[sD (f.2.drop e.2.length),nd f.2.length]) (aj (fU (rv:=.fz (sD (f.2.drop e.2.length))) (ae rfl) (bI (bD (rv:=.fz (nd e.2.length)) (aj (ae rfl) ar) rfl q) rfl) bG rfl ct) (aj (bD (rv:=.fz (nd f.2.length)) (aj (ae rfl) ar) rfl l1) ar)) rfl (Pl rfl)) rfl rfl (by rw[OH];ext) rfl) ⟨_,_,by rw[k,Pm];rfl⟩
   .have p:cQ e f=CL:=by
     unfold cQ;rw[ak];rintro⟨h1,H⟩;rw[a7 h1,H]at h;cases h
    rw[p]at k;exact dU ⟨_,_,by rw[k,Pu];rfl⟩
  .rintro ρ ⟨g,a,rfl⟩;refine⟨-(tD e.1),-(sD e.2),g,a,?_⟩;rw[z,OH,Qz]
 .rintro ρ ⟨n,m,g,a,rfl⟩;rw[OH,Qz];exact bL (cV rfl) rfl rfl
def gz(r:Rs)(p:Nat)(e:Wd):cc Rp:=if bg e.2 r=OG then[(r.drop e.2.length,p)]else[]
def fW(r:Rs)(p:Nat)(e:Wd):cc Rp:=if bg r e.2=OG then[(e.2.drop r.length,p+(e.2.length - r.length))]else[]
def gB(B:cc Wd)(r:Rs)(p:Nat):cc Rp:=B.flatMap λe=>gz r p e++fW r p e
theorem nj(r:Rs)(p:Nat)(e:Wd):(gz r p e++fW r p e).length<=2:=by unfold gz fW;split<;>split<;>simp
theorem sC{B:cc Wd}(C:BB B)(r:Rs)(p:Nat):fD [aW B,sD r,nd p]=.ok (.ow ((gB B r p).map aC)):=by
 refine fM (ρ:=[-(aW B),-(sD r),-(nd p),CL,CL,CL]) rfl ?_;unfold dY;refine aI (pv:=.ow []) (ρ3:=[-(aW B),-(sD r),-(nd p),cL (.ow []),CL,CL]) (by walk_at "evp") rfl rfl ?_;refine cg (λi ρ=>∃h g,ρ=[-(aW B),-(sD r),-(nd p),cL (.ow ((gB (B.take i) r p).map aC)),h,g]) (ds:=B.map wD) (ρ1:=[-(aW B),-(sD r),-(nd p),cL (.ow []),CL,CL]) (b5 (d:=aW B) (ae rfl) rfl rfl) ⟨CL,CL,rfl⟩ ?_ ?_
 .rintro i d ρ z ⟨h,g,rfl⟩
  obtain⟨e,w,rfl⟩:=jZ z;refine⟨_,rfl,?_⟩;have j:gB (B.take (i+1)) r p=gB (B.take i) r p++(gz r p e++fW r p e):=by unfold gB;rw[d8 w,Sj];simp
  have u:(gB (B.take i) r p).length<=40:=by have h1:=eZ (λe=>gz r p e++fW r p e) 2 (nj r p) (B.take i);have I:=C.Vq;rw[P4]at h1;unfold gB;ext
  generalize gB (B.take i) r p=P at u j;have l1:=fL e.2;have l:=fL r;have n:=pG r e.2.length;have m:=pG e.2 r.length;have t:=lN (r.take e.2.length) e.2;have q:=lN (e.2.take r.length) r;have F:=iu r e.2.length;have E:=iu e.2 r.length;have a:∀M:cc Rp,M.length<=41->gB (B.take (i+1)) r p=M++fW r p e->Go ((iP (aF (az ko (mZ kt (aa 5) dJ (cS (gb cU {aa 1}))) (aa 1))) (bQ (eR 3 (cP {mZ kt (aa 5) (cS (gb cU {aa 1})) dJ,az lZ (az bi (aa 2) (gb cU {aa 5})) (gb cU {aa 1})}))) bJ) [-(aW B),-(sD r),-(nd p),cL (.ow (M.map aC)),-(tD e.1),-(sD e.2)]) (λρ=>∃h g,ρ=[-(aW B),-(sD r),-(nd p),cL (.ow ((gB (B.take (i+1)) r p).map aC)),h,g]) (λρ=>∃h g,ρ=[-(aW B),-(sD r),-(nd p),cL (.ow ((gB (B.take (i+1)) r p).map aC)),h,g]) (λrv=>rv=.ow ((gB B r p).map aC)):=by
   intro M H k;refine gF (b:=bg r e.2) (aO (dr (fU (rv:=.fz (sD (e.2.take r.length))) (ae rfl) bG (bI (bD (rv:=.fz (nd r.length)) (aj (ae rfl) ar) rfl l) rfl) rfl m) (ae rfl) rfl rfl q) rfl) (λf=>?_) λf=>?_
   .have e2:fW r p e=[(e.2.drop r.length,p+(e.2.length - r.length))]:=by unfold fW;rw[ai f]
    rw[e2]at k;obtain⟨c,A⟩:=jQ.mp f;have v:r.length<=e.2.length:=by rw[A,OO];ext
    have G:=Bv p e.2.length;have o:lZ (nd (p+e.2.length)) (nd r.length)=-(nd (p+(e.2.length - r.length))):=by show cL (RV.fz (.int (((p+e.2.length:Nat):Int) - (r.length:Int))))=_;rw[show((p+e.2.length:Nat):Int) - (r.length:Int)=((p+(e.2.length - r.length):Nat):Int) by ext]
    refine dz (eB (d:=aC (e.2.drop r.length,p+(e.2.length - r.length))) (x:=[-(aW B),-(sD r),-(nd p),cL (.ow (M.map aC++[aC (e.2.drop r.length,p+(e.2.length - r.length))])),-(tD e.1),-(sD e.2)]) rfl (bP (ds:=[sD (e.2.drop r.length),nd (p+(e.2.length - r.length))]) (aj (fU (rv:=.fz (sD (e.2.drop r.length))) (ae rfl) (bI (bD (rv:=.fz (nd r.length)) (aj (ae rfl) ar) rfl l) rfl) bG rfl E) (aj (aK (rv:=.fz (nd (p+(e.2.length - r.length)))) (dx:=nd (p+e.2.length)) (dy:=nd r.length) (aK (rv:=.fz (nd (p+e.2.length))) (ae rfl) (bD (rv:=.fz (nd e.2.length)) (aj (ae rfl) ar) rfl l1) rfl rfl G) (bD (rv:=.fz (nd r.length)) (aj (ae rfl) ar) rfl l) rfl rfl o) ar)) rfl (Pl rfl)) rfl rfl (by rw[OH];ext) rfl) ⟨_,_,by rw[k,Pm];rfl⟩
   .have e2:fW r p e=[]:=by unfold fW;rw[ak (by rw[f];simp)]
    rw[e2,Pu]at k;exact dU ⟨_,_,by rw[k]⟩
  refine iG (b:=bg e.2 r) (aO (dr (fU (rv:=.fz (sD (r.take e.2.length))) (ae rfl) bG (bI (bD (rv:=.fz (nd e.2.length)) (aj (ae rfl) ar) rfl l1) rfl) rfl n) (ae rfl) rfl rfl t) rfl) (λf=>?_) λf=>cz ?_
  .have e1:gz r p e=[(r.drop e.2.length,p)]:=by unfold gz;rw[ai f]
   rw[e1]at j;refine pN (eB (d:=aC (r.drop e.2.length,p)) (x:=[-(aW B),-(sD r),-(nd p),cL (.ow (P.map aC++[aC (r.drop e.2.length,p)])),-(tD e.1),-(sD e.2)]) rfl (bP (ds:=[sD (r.drop e.2.length),nd p]) (aj (fU (rv:=.fz (sD (r.drop e.2.length))) (ae rfl) (bI (bD (rv:=.fz (nd e.2.length)) (aj (ae rfl) ar) rfl l1) rfl) bG rfl F) (aj (ae rfl) ar)) rfl (Pl rfl)) rfl rfl (by rw[OH];ext) rfl) ?_;rw[show P.map aC++[aC (r.drop e.2.length,p)]=(P++[(r.drop e.2.length,p)]).map aC by rw[Pm];rfl];exact a _ (by rw[OO];simp;ext) (by rw[j,Pj])
  .have e1:gz r p e=[]:=by unfold gz;rw[ak (by rw[f];simp)]
   rw[e1,RH]at j;exact a _ (by ext) j
 .rintro ρ ⟨h,g,rfl⟩;rw[OH,Qz];exact bL (cV rfl) rfl rfl
section
variable{ρ ρ1:aE}{ω ω1 Z ω3:aG}{x y z:SV}{i:Nat}{d:D}{ds:cc D}
theorem i9(ha:fa ρ ω=.ok xs ω1)(a:mR F n xs ω1=.ok x Z):ji F n fa ρ ω=.ok x Z:=by unfold ji;rw[ha,eN,a];rfl
theorem Hr{f:cc D->cj RV}{fa:x4}{xs:cc SV}{es:cc D}(ha:fa ρ ω=.ok xs ω1)(a:aq (sh ω1) xs=cL ds)(h:f ds=cL (.ow es)):BF f fa ρ ω=.ok (.rf ω1.length) (ω1++[.lst (es.map .fz)]):=by unfold BF;rw[ha,eN];unfold Dz;rw[a];show((RS.Qf ω1 (f ds)).bind λrv ω1=>fS ω1 rv)=_;rw[h];rfl
theorem yj(n:Nat):∀ds:cc D,aq (oJ n ω) (ds.map .fz)=cL ds
 |[]=>rfl
 |d::r=>by rw[OM];unfold aq;rw[show oJ n ω (.fz d)=cL d by cases n<;>rfl];dsimp only;rw[yj n r]
theorem HY(n:Nat)(h:ω[i]?=cL (.lst (ds.map .fz))):oJ (n+1) ω (.rf i)=cL (.list ds):=by unfold oJ;rw[h];dsimp only;rw[yj];rfl
theorem gW(h:ω[i]?=cL (.lst (ds.map .fz))):sh ω (.rf i)=cL (.list ds):=by unfold sh;dsimp only;rw[h];dsimp only;rw[jr];rfl
theorem AM(h:ω[i]?=cL (.lst (ds.map .fz))):aq (sh ω) [.rf i]=cL [.list ds]:=by unfold aq;rw[gW h];rfl
theorem Du{F:FN}{fa:x4}{b:Bool}(ha:fa ρ ω=.ok [.rf i] ω1)(a:ω1[i]?=cL (.lst (ds.map .fz)))(e:F [.list ds]=.ok (.fz (.bool b))):zk F 1 fa ρ ω=.ok (.fz (.bool b)) ω1:=by
 unfold zk;rw[ha,eN];unfold vZ;rw[ai (show[SV.rf i].length=1 from rfl)];have:aq (oJ 6 ω1) [.rf i]=cL [.list ds]:=by unfold aq;rw[HY 5 a];rfl
 show gA ((RS.Qf ω1 (aq (oJ 6 ω1) [.rf i])).bind _)=_;rw[this];show gA (match F [.list ds]with|.ok rv=>mV ω1 rv|_=>.bad)=_;rw[e];rfl
theorem AU{fe:cI}{ps:cc (D×D)}(g:fe ρ ω=.ok (.rf i) ω1)(b:ω1[i]?=cL (.lst (ds.map .fz)))(h:aq LD.pairDD ds=cL ps)(hn:ps.length<1000000):LD.ddlS fe ρ ω=.ok (.rf ω1.length) (ω1++[.dd (LD.mgD [] ps)]):=by
 have e:LD.pairsDL ω1 (.rf i)=cL ps:=by
  unfold LD.pairsDL;dsimp only;rw[b];dsimp only;have:aq Cw (ds.map SV.fz)=cL ds:=by
   clear b h
   induction ds with
   |nil=>rfl
   |cons a r f=>rw[OM];unfold aq;rw[show Cw (SV.fz a)=cL a from rfl];dsimp only;rw[f]
  rw[this];exact h
 unfold LD.ddlS;rw[g,eN,e];exact ai hn
theorem uh(a:ω[i]?=cL (.lst (ds.map .fz))):LD.lstI ω (.rf i)=cL (i,ds.map .fz):=by unfold LD.lstI;dsimp only;rw[a]
theorem DC{fd:cI}{gt:kR}{b:fR}{N C:aE->aG->Prop}{T:SV->aG->Prop}(I:Nat->aE->aG->Prop)(hd:fd ρ ω=.ok (.rf i) ω1)(e:ω1[i]?=cL (.lst (ds.map .fz)))(h0:I 0 ρ (ω1.set i .dead))(a:∀k d ρ ω,ds[k]?=cL d->I k ρ ω->∃ρ1 ω1,gt (.fz d) ρ ω=.ok ρ1 ω1/\Sk (b ρ1 ω1) (I (k+1)) (I (k+1)) (λ_ _=>False))(f:∀ρ' ω',I ds.length ρ' ω'->N ρ' (ω'.set i (.lst (ds.map .fz)))):Sk (LD.forLS fd gt b ρ ω) N C T:=by
 have:=n5 (C:=λ_ _=>False) (T:=λ_ _=>False) I ds 0 ρ (ω1.set i .dead) h0 (by simpa using a);rw[Sq]at this;unfold LD.forLS;rw[hd,eN,uh e];show Sk ((RS.Qf ω1 (aq ms (ds.map .fz))).bind _) _ _ _;rw[jr];show Sk ((fq gt b ds ρ (ω1.set i .dead)).bind _) _ _ _;have h:=this.out;refine⟨?_⟩;cases q:fq gt b ds ρ (ω1.set i .dead)with
 |bad=>rw[q]at h;exact h.elim
 |er x o=>rw[q]at h;exact h.elim
 |ok g o=>
  rw[q]at h;cases g with
  |nx r=>exact f r o h
  |ct r=>exact h.elim
  |rt v=>exact h.elim
  |bk r=>exact h.elim
theorem Am{n:Nat}{fj:cc Nat}{fd:cI}{gt:kR}{ft:lY}{fe:cI}{xs:cc SV}(hd:fd ρ ω=.ok (.rf i) ω1)(a:ω1[i]?=cL (.lst (ds.map .fz)))(b:bu gt ft fe ds (fA n fj ρ) (ω1.set i .dead) []=.ok xs Z):LD.compLS n fj fd gt ft fe ρ ω=.ok (.rf Z.length) (VL (Z++[Cell.lst xs]) i (Cell.lst (ds.map .fz))):=by unfold LD.compLS;rw[hd,eN,uh a];show((RS.Qf ω1 (aq ms (ds.map .fz))).bind _)=_;rw[jr];show((gA (bu gt ft fe ds (fA n fj ρ) (ω1.set i .dead) [])).bind _)=_;rw[b];rfl
theorem ww{f:FE}{ρ':aB}(h:f (dI ρ)=.ok (.ow ds,ρ')):sB (aD f) ρ ω=.ok (.fz (.list ds)) (ω++[.dead]):=IB (lO h) (by rw[wj aH];simp)
end
theorem qv(PL:cc (D×D))(k v a:D):(aV (fC PL k v) a).isSome=((aV PL a).isSome||(!(aV PL k).isSome&&OD.eqv k a)):=by
 have h:∀(l:cc (D×D)) (f:D×D->D×D),(∀q,(f q).1=q.1)->((l.map f).find? λb=>OD.eqv b.1 a).isSome=(l.find? λb=>OD.eqv b.1 a).isSome:=by
  intro l f e
  induction l with
  |nil=>rfl
  |cons q r d=>
   rw[OM,P6,P6,e q];cases OD.eqv q.1 a with
   |true=>rfl
   |false=>exact d
 unfold fC aV;rw[QU,QU,QU];cases g:(PL.find? λb=>OD.eqv b.1 k).isSome with
 |true=>rw[ai rfl,h _ _ (λq=>by split<;>rfl)];simp
 |false=>
  rw[ak OX,List.find?_append,Option.isSome_or];have:(List.find? (λb=>OD.eqv b.1 a) [(k,v)]).isSome=OD.eqv k a:=by rw[P6];cases OD.eqv k a<;>rfl
  rw[this];simp
theorem zo(k:D)(a:OD.eqv k k=OG):∀(ps PL:cc (D×D)),((aV PL k).isSome=OG\/∃p∈ps,p.1=k)->(aV (LD.mgD PL ps) k).isSome=OG
 |[],PL,h=>by
  rcases h with h|⟨p,hp,_⟩
  .exact h
  .cases hp
 |p::ps,PL,h=>by
  show(aV (LD.mgD (fC PL p.1 p.2) ps) k).isSome=OG;refine zo k a ps _ ?_;rcases h with h|⟨q,hq,e⟩
  .exact .inl (by rw[qv,h];rfl)
  .rcases Pe.mp hq with rfl|hq
   .subst e;left;rw[qv,a];cases(aV PL q.1).isSome<;>rfl
   .exact .inr ⟨q,hq,e⟩
def fK(L:cc Rp):cc (D×D):=L.map λa=>(sD a.1,nd a.2)
theorem F1:∀(C A:cc Rp),((A++C).map (·.1)).Nodup->LD.mgD (fK A) (fK C)=fK (A++C)
 |[],A,_=>by rw[Pu];rfl
 |c::C,A,h=>by
  show LD.mgD (fC (fK A) (sD c.1) (nd c.2)) (fK C)=_;have e:fC (fK A) (sD c.1) (nd c.2)=fK (A++[c]):=by
   unfold fC;rw[ak]
   .unfold fK;rw[Pm];rfl
   .intro z;obtain⟨f,d⟩:=QG.mp z;have h1:=US d;have b:=XA d;obtain⟨a,ha,rfl⟩:=OW.mp h1;have b:OD.eqv (sD a.1) (sD c.1)=OG:=b;rw[fO]at b;rw[Pm,RP]at h;exact h.2.2 a.1 (OW.mpr ⟨a,ha,rfl⟩) c.1 (OW.mpr ⟨c,O0,rfl⟩) (b9 b)
  rw[e,F1 C (A++[c]) (by rw[Pj];exact h),Pj];rfl
theorem BO:∀{L:cc Rp},(L.map (·.1)).Nodup->∀a∈L,aV (fK L) (sD a.1)=cL (nd a.2)
 |b::L,h,a,ha=>by
  have e:aV (fK (b::L)) (sD a.1)=if b.1=a.1 then cL (nd b.2)else aV (fK L) (sD a.1):=by
   unfold aV fK;rw[OM,P6,fO];by_cases q:b.1=a.1
   .rw[a6 q,ai q];rfl
   .rw[a7 q,ak q]
  rw[e];obtain⟨h1,d⟩:=Qj.mp h;rcases Pe.mp ha with rfl|ha
  .rw[ai rfl]
  .rw[ak (λz=>h1 (OW.mpr ⟨a,ha,z.symm⟩))];exact BO d a ha
theorem Be(a:Rp):OD.eqv (aC a) (aC a)=OG:=by unfold aC nd;rw[OD.eqv,OD.eqvAll,OD.eqvAll,OD.eqvAll,fO,a6 rfl,OD.eqv];simp
theorem Cq(r:Rs):LD.keyD (sD r)=OG:=by
 have:=gU r;by_cases h:LD.keyD (sD r)=OG
 .exact h
 .have z:fE (.fz (sD r))=CL:=ak h;rw[z]at this;cases this
theorem uC(a:Rp):LD.keyD (aC a)=OG:=by unfold aC sD nd;rw[LD.keyD,LD.kds,LD.kds,LD.kds,LD.kd,LD.kd,AF];show decide _=OG;apply a6;rw[OD.depth,OD.depthAll,OD.depthAll,OD.depthAll,OD.depth,OD.depth];have:=gH a.1;ext
theorem Ic(a:Rp):fE (.fz (aC a))=cL (aC a):=ai (uC a)
theorem EF(L:cc Rp):aq LD.pairDD (L.map aC)=cL (fK L):=jq λa _=>by show(if LD.keyD (sD a.1)=OG then cL (sD a.1,nd a.2)else CL)=_;rw[ai (Cq a.1)]
def Gb(a:Rp):D:=.tuple [aC a,.bool OG]
theorem Co(L:cc Rp):aq LD.pairDD (L.map Gb)=cL (L.map λa=>(aC a,.bool OG)):=jq λa _=>by show(if LD.keyD (aC a)=OG then cL (aC a,OD.bool OG)else CL)=_;rw[ai (uC a)]
def j8(B:cc Wd)(a:Rp):cc Rp:=if a.1=[]then[]else gB B a.1 a.2
def gi(B:cc Wd)(L:cc Rp):cc Rp:=om B++L.flatMap (j8 B)
theorem IH{B:cc Wd}{L:cc Rp}(i:Sol B L):(∀q∈gi B L,∃a∈L,a.1=q.1/\a.2<=q.2)/\∀a∈L,a∈gi B L:=by
 constructor
 .intro q d
  rcases Pf.mp d with d|d
  .obtain⟨f,j,rfl⟩:=OW.mp d;exact i.fst f j
  .obtain⟨a,ha,d⟩:=QQ.mp d
   unfold j8 at d;split at d
   .cases d
   .rename_i l
    unfold gB at d;obtain⟨e,k,d⟩:=QQ.mp d;obtain⟨n,m⟩:=i.Y2 a ha e k l;rcases Pf.mp d with d|d
    .unfold gz at d
     split at d
     .rename_i g;rw[OU.mp d];exact n g
     .cases d
    .unfold fW at d
     split at d
     .rename_i g;rw[OU.mp d];exact m g
     .cases d
 .intro a ha
  rcases i.org a ha with⟨f,j,h1,o⟩|⟨b,g,l,e,k,h⟩
  .exact PR _ (OW.mpr ⟨f,j,Prod.ext h1 o⟩)
  .refine Ph _ (QQ.mpr ⟨b,g,?_⟩)
   unfold j8;rw[ak l];refine QQ.mpr ⟨e,k,?_⟩;rcases h with⟨h1,rfl⟩|⟨h1,rfl⟩
   .exact PR _ (by unfold gz;rw[ai h1];exact OU.mpr rfl)
   .exact Ph _ (by unfold fW;rw[ai h1];exact OU.mpr rfl)
theorem qY{B:cc Wd}(a:BB B)(r:Rs)(p:Nat):(gB B r p).length<=40:=by have h1:=eZ (λe=>gz r p e++fW r p e) 2 (nj r p) B;have b:=a.Vq;unfold gB;ext
theorem uZ{B:cc Wd}(b:BB B){L:cc Rp}(d:L.length<=140):(gi B L).length<=6000:=by
 have h1:=eZ (j8 B) 40 (λa=>by unfold j8;split;simp;exact qY b _ _) L;have e:=kM b;unfold gi;rw[OO];have:(om B).length=(br B).length:=by unfold om;rw[OH]
 ext
theorem z8{B:cc Wd}{L:cc Rp}{i:Nat}{a:Rp}(h:L[i]?=cL a):gi B (L.take (i+1))=gi B (L.take i)++j8 B a:=by unfold gi;rw[d8 h,Sj,Pj];simp
theorem Lf{L:cc Rp}(h:L.Pairwise λa b=>xp a.1 b.1=OG):(L.map (·.1)).Nodup:=RQ.mpr (h.imp λ{a b} k e=>by have e:a.1=b.1:=e;rw[e,rO.irr]at k;cases k)
theorem hW{B:cc Wd}(C:BB B)(hK:Kw B){L:cc Rp}{j:Nat}{u:aG}(hr:eL [.fz (aW B)] []=.ok (.rf j) u)(hj:u[j]?=cL (.lst ((L.map aC).map .fz)))(z:Sol B L):∃(m:Nat) (l:aG),bT [.fz (aW B)] []=.ok (.rf m) l/\l[m]?=cL (.lst ((L.map aC).map .fz)):=by
 have G:=z.len;have w:=Lf z.up;obtain⟨I,H⟩:=IH z;have hdl:=uZ C G;have l1:(L.map aC).length<=140:=by rw[OH];exact G
 obtain⟨x,l,e,m,rfl,h⟩:=o9 (n:=8) (g:=bU) (xs:=[.fz (aW B)]) (ω:=[]) (ρ:=[-(aW B),CL,CL,CL,CL,CL,CL,CL]) (T:=λx l=>∃m,x=.rf m/\l[m]?=cL (.lst ((L.map aC).map .fz))) rfl (by
  unfold bU;have c1:mR eL 1 [.fz (aW B)] []=.ok (.rf 0) [.lst ((L.map aC).map .fz)]:=by show(match eL [.fz (aW B)] []with|.ok x l=>hV x l []|.er x _=>.er x []|.bad=>.bad)=_;rw[hr];show(match sh u (.rf j)with|some (.list ds)=>fS [] (.ow ds)|_=>.bad)=_;rw[gW hj];rfl
  refine ej (x:=.rf 0) (ω1:=[.lst ((L.map aC).map .fz)]) (ρ1:=[-(aW B),cL (.rf 0),CL,CL,CL,CL,CL,CL]) (i9 (xs:=[.fz (aW B)]) (bN (aL (ae rfl)) eC) c1) rfl ?_;have sp:=xU (λa ha=>Il hK (z.suf a ha)) G z.up;refine uc (ω1:=[.lst ((L.map aC).map .fz)]) (oO (b:=OG) (dW (Du (i:=0) (bN (bh rfl) eC) rfl sp))) (o8 ?_);have v:=AU (fe:=bA 1) (ρ:=[-(aW B),cL (.rf 0),CL,CL,CL,CL,CL,CL]) (ω:=[.lst ((L.map aC).map .fz)]) (i:=0) (bh rfl) rfl (EF L) (by unfold fK;rw[OH];ext);rw[show LD.mgD [] (fK L)=fK L from F1 L [] w]at v;refine ej (x:=.rf 1) (ω1:=[.lst ((L.map aC).map .fz),.dd (fK L)]) (ρ1:=[-(aW B),cL (.rf 0),cL (.rf 1),CL,CL,CL,CL,CL]) v rfl ?_;have lf:=rh C;refine ej (x:=.fz (.list ((om B).map aC))) (ω1:=[.lst ((L.map aC).map .fz),.dd (fK L),.dead]) (ρ1:=[-(aW B),cL (.rf 0),cL (.rf 1),-(.list ((om B).map aC)),CL,CL,CL,CL]) (ww (cN (rv:=.ow ((om B).map aC)) (aj (ae rfl) ar) rfl rfl lf)) rfl ?_;refine iJ (DC (λk ρ ω=>∃(r o:cj SV) (J:aG),ρ=[-(aW B),cL (.rf 0),cL (.rf 1),-(.list ((gi B (L.take k)).map aC)),r,o,CL,CL]/\ω=.dead:: .dd (fK L)::J) (i:=0) (ds:=L.map aC) (bh rfl) rfl ⟨CL,CL,[.dead],by unfold gi;rw[Sy,List.flatMap_nil,Pu],rfl⟩ ?_ ?_)
  .rintro k d ρ ω K ⟨r,o,J,rfl,rfl⟩
   obtain⟨a,ha,rfl⟩:=tt K;refine⟨_,_,rfl,?_⟩;have ne:=Gr a.1 [];have U:=z8 (B:=B) ha;have dlk:(gi B (L.take k)).length<=6000:=uZ C (by rw[P4];ext);refine F5 (b:= !decide (a.1=[])) (qE (aO (dr (dy:=sD []) (ae rfl) (bP (ds:=[]) ar rfl (P0 _)) rfl rfl ne) rfl)) (λN=>?_) λN=>?_
   .have Q:a.1≠[]:=by simpa using N
    have ln:=sC C a.1 a.2;have Z:=qY C a.1 a.2;have ad:bi (.list ((gi B (L.take k)).map aC)) (.list ((gB B a.1 a.2).map aC))=cL (.ow ((gi B (L.take (k+1))).map aC)):=by show(if _ then _ else _)=_;rw[ai (by rw[OH,OH];ext),U,Pm];unfold j8;rw[ak Q]
    exact yO (x:=.fz (.list ((gi B (L.take (k+1))).map aC))) (ww (aK (rv:=.ow ((gi B (L.take (k+1))).map aC)) (ae rfl) (cN (rv:=.ow ((gB B a.1 a.2).map aC)) (aj (ae rfl) (aj (ae rfl) (aj (ae rfl) ar))) rfl rfl ln) rfl rfl ad)) rfl ⟨_,_,J++[.dead],rfl,rfl⟩
   .have Q:a.1=[]:=by simpa using N
    have de:gi B (L.take (k+1))=gi B (L.take k):=by rw[U];unfold j8;rw[ai Q,Pu]
    exact nY ⟨_,_,J,by rw[de];rfl,rfl⟩
  .rintro ρ ω ⟨r,o,J,rfl,rfl⟩
   rw[OH,Qz];show Sk (_:RS YC) _ _ _;refine iJ (yt (λk ρ ω=>∃(r o:cj SV),ρ=[-(aW B),cL (.rf 0),cL (.rf 1),-(.list ((gi B L).map aC)),r,o,CL,CL]/\ω=.lst ((L.map aC).map .fz):: .dd (fK L)::J) (ds:=(gi B L).map aC) (ω1:=.lst ((L.map aC).map .fz):: .dd (fK L)::J) (qZ (b5 (d:=.list ((gi B L).map aC)) (ae rfl) rfl rfl)) ⟨_,_,rfl,rfl⟩ ?_ ?_)
   .rintro k d ρ ω K ⟨r,o,rfl,rfl⟩
    obtain⟨q,hq,rfl⟩:=tt K;refine⟨_,_,rfl,?_⟩;obtain⟨a,ha,ea,le⟩:=I q (O9 hq);have O:=BO w a ha;rw[ea]at O;have E:=nM (neg:=OG) (fk:=aD (aa 4)) (fd:=bA 2) (ρ:=[-(aW B),cL (.rf 0),cL (.rf 1),-(.list ((gi B L).map aC)),-(sD q.1),-(nd q.2),CL,CL]) (ω:=.lst ((L.map aC).map .fz):: .dd (fK L)::J) (aL (ae rfl)) (i:=1) (bh rfl) (gU q.1) rfl;rw[O]at E;have dg:=yT (fk:=aD (aa 4)) (fd:=bA 2) (ρ:=[-(aW B),cL (.rf 0),cL (.rf 1),-(.list ((gi B L).map aC)),-(sD q.1),-(nd q.2),CL,CL]) (ω:=.lst ((L.map aC).map .fz):: .dd (fK L)::J) (i:=1) (bh rfl) (aL (ae rfl)) (gU q.1) rfl O;have gt:Hz (nd a.2) (nd q.2)=-(.bool OP):=by show cL (RV.fz (.bool (decide ((q.2:Int)<(a.2:Int)))))=_;rw[a7 (by ext)]
    exact Ib (rC (dW E) (dW (sg dg (aL (ae rfl)) (yD gt)))) (nY ⟨_,_,rfl,rfl⟩)
   .rintro ρ ω ⟨r,o,rfl,rfl⟩
    have cA:jU (cW (gN 0) dH (cP {aa 0,pC (.bool OG)}) ((gi B L).map aC) [CL] [])=.ok ((gi B L).map Gb):=o0 (f:=aC) (g:=Gb) (cp:=[]) (gi B L) (by ext) rfl λa _=>bP (ds:=[aC a,.bool OG]) (aj (ae rfl) (aj cf ar)) rfl (Pl rfl);have v:=AU (ρ:=[-(aW B),cL (.rf 0),cL (.rf 1),-(.list ((gi B L).map aC)),r,o,CL,CL]) (ω:=.lst ((L.map aC).map .fz):: .dd (fK L)::J) (fe:=aD (gP 1 [] (fT (aa 3)) (gN 0) dH (cP {aa 0,pC (.bool OG)}))) (lO (jn (b5 (d:=.list ((gi B L).map aC)) (ae rfl) rfl rfl) rfl cA)) aH (Co (gi B L)) (by rw[OH];ext);have hm:∀a∈L,(aV (LD.mgD [] ((gi B L).map λa=>(aC a,OD.bool OG))) (aC a)).isSome=OG:=λa ha=>zo (aC a) (Be a) _ _ (.inr ⟨_,OW.mpr ⟨a,H a ha,rfl⟩,rfl⟩);generalize LD.mgD [] ((gi B L).map λa=>(aC a,OD.bool OG))=M at v hm;generalize hJ:J++[Cell.lst (((gi B L).map Gb).map .fz)]++[Cell.dd M]=J2;have A:(Cell.lst ((L.map aC).map SV.fz)::Cell.dd (fK L)::J)++[Cell.lst (((gi B L).map Gb).map .fz)]++[Cell.dd M]=.lst ((L.map aC).map .fz):: .dd (fK L)::J2:=by rw[<-hJ];rfl
    rw[A]at v;have F:(Cell.lst ((L.map aC).map SV.fz)::Cell.dd (fK L)::J2)[((Cell.lst ((L.map aC).map SV.fz)::Cell.dd (fK L)::J)++[Cell.lst (((gi B L).map Gb).map .fz)]).length]?=cL (.dd M):=by rw[<-A];exact aH
    have S:0≠((Cell.lst ((L.map aC).map SV.fz)::Cell.dd (fK L)::J)++[Cell.lst (((gi B L).map Gb).map .fz)]).length:=by simp
    generalize ((Cell.lst ((L.map aC).map SV.fz)::Cell.dd (fK L)::J)++[Cell.lst (((gi B L).map Gb).map .fz)]).length=p6 at v F S;refine ej (ρ1:=[-(aW B),cL (.rf 0),cL (.rf 1),-(.list ((gi B L).map aC)),r,o,cL (.rf p6),CL]) v rfl ?_;have P:(Cell.dead::Cell.dd (fK L)::J2)[p6]?=cL (.dd M):=by
     cases p6 with
     |zero=>exact cb rfl S
     |succ p=>exact F
    have cv:bu (jB 0) rX (gL OP (aD (aa 0)) (bA 1)) (L.map aC) (fA 1 [6] [-(aW B),cL (.rf 0),cL (.rf 1),-(.list ((gi B L).map aC)),r,o,cL (.rf p6),CL]) (.dead:: .dd (fK L)::J2) []=.ok ([]++L.map λ_=>SV.fz (.bool OG)) (.dead:: .dd (fK L)::J2):=by refine nu aC (λ_=>SV.fz (.bool OG)) _ (λρ=>∃t,ρ=[t,cL (.rf p6)]) L _ [] ⟨CL,rfl⟩ (by simp;ext) ?_;rintro a ha ρ ⟨t,rfl⟩;have E:=nM (neg:=OP) (fk:=aD (aa 0)) (fd:=bA 1) (ρ:=[-(aC a),cL (.rf p6)]) (ω:=.dead:: .dd (fK L)::J2) (aL (ae rfl)) (bh rfl) (Ic a) P;rw[hm a ha]at E;exact⟨[-(aC a),cL (.rf p6)],rfl,rfl,E,_,rfl⟩
    have cl:=Am (n:=1) (fj:=[6]) (fd:=bA 1) (ρ:=[-(aW B),cL (.rf 0),cL (.rf 1),-(.list ((gi B L).map aC)),r,o,cL (.rf p6),CL]) (ω:=.lst ((L.map aC).map .fz):: .dd (fK L)::J2) (i:=0) (bh rfl) rfl cv;have Y:(VL ((Cell.dead::Cell.dd (fK L)::J2)++[Cell.lst ([]++L.map λ_=>SV.fz (.bool OG))]) 0 (Cell.lst ((L.map aC).map .fz)))=(.lst ((L.map aC).map .fz):: .dd (fK L)::J2)++[Cell.lst ((L.map λ_=>OD.bool OG).map .fz)]:=by rw[RH,show(L.map λ_=>SV.fz (.bool OG))=((L.map λ_=>OD.bool OG).map SV.fz) by rw[PY];rfl];rfl
    rw[Y]at cl;have X:=qk (λ_=>OG) L;rw[show(L.all λ_=>OG)=OG by simp]at X;refine uc (oO (b:=OG) (dW (Fv (ds:=[.list (L.map λ_=>.bool OG)]) (bN cl eC) (AM aH) X))) (o8 ?_);generalize hJ3:J2++[Cell.lst ((L.map λ_=>OD.bool OG).map .fz)]=J3;have e3:(Cell.lst ((L.map aC).map SV.fz)::Cell.dd (fK L)::J2)++[Cell.lst ((L.map λ_=>OD.bool OG).map .fz)]=.lst ((L.map aC).map .fz):: .dd (fK L)::J3:=by rw[<-hJ3];rfl
    rw[e3];have cp:BF wK (cY (bA 1) iB) [-(aW B),cL (.rf 0),cL (.rf 1),-(.list ((gi B L).map aC)),r,o,cL (.rf p6),CL] (.lst ((L.map aC).map .fz):: .dd (fK L)::J3)=.ok (.rf (Cell.lst ((L.map aC).map .fz):: .dd (fK L)::J3).length) ((.lst ((L.map aC).map .fz):: .dd (fK L)::J3)++[.lst ((L.map aC).map .fz)]):=Hr (xs:=[.rf 0]) (ds:=[.list (L.map aC)]) (bN (bh rfl) eC) (AM rfl) rfl;refine ej (ρ1:=[-(aW B),cL (.rf 0),cL (.rf 1),-(.list ((gi B L).map aC)),r,o,cL (.rf p6),cL (.rf (Cell.lst ((L.map aC).map .fz):: .dd (fK L)::J3).length)]) cp rfl ?_;refine vT (Ia (i:=0) (xs:=(L.map aC).map .fz) (ys:=(L.map aC).map .fz) (x:=.fz (.tuple [.tuple [],.int 0])) (bh rfl) rfl (aL (bP (ds:=[.tuple [],.int 0]) (aj (bP (ds:=[]) ar rfl (P0 _)) (aj cf ar)) rfl (Pl rfl))) rfl (by rw[OH];ext)) ?_;refine sV (bh rfl) ⟨_,rfl,?_⟩;rw[eW (by simp)];exact aH)
 exact⟨m,l,e,h⟩
def lX(B:cc Wd):cc Wd:=(B.drop 1++B.take 1).map λe=>(e.1,e.2.reverse)
theorem kE{B:cc Wd}{e:Wd}(h:e∈lX B):∃f∈B,e=(f.1,f.2.reverse):=by
 obtain⟨f,a,rfl⟩:=OW.mp h;refine⟨f,?_,rfl⟩;rcases Pf.mp a with a|a
 .exact Tz a
 .exact TB a
theorem lp(B:cc Wd):(B.drop 1++B.take 1).Perm B:=Tt.trans (by rw[Sd])
theorem zt{B:cc Wd}(h:BB B):BB (lX B) where
 Vq:=by unfold lX;rw[OH,(lp B).length_eq];exact h.Vq
 nd:=by
  have e:(lX B).map (·.1)=(B.drop 1++B.take 1).map (·.1):=by unfold lX;rw[PY];rfl
  rw[e];exact((lp B).map (·.1)).nodup_iff.mpr h.nd
 s1:=λe b=>by obtain⟨f,a,rfl⟩:=kE b;show 1<=f.2.reverse.length;rw[RF];exact h.s1 f a
 s6:=λe b=>by obtain⟨f,a,rfl⟩:=kE b;show f.2.reverse.length<=6;rw[RF];exact h.s6 f a
 wc:=λe b=>by obtain⟨f,a,rfl⟩:=kE b;exact h.wc f a
theorem GQ{B:cc Wd}(h:Kw B):Kw (lX B):=λe d k a=>by obtain⟨f,b,rfl⟩:=kE d;exact h f b k (S9.mp a)
theorem vG:∀L:cc Rp,OD.eqvAll (L.map aC) (L.map aC)=OG
 |[]=>by rw[Pq,OD.eqvAll]
 |a::L=>by rw[OM,OD.eqvAll,Be,vG L];rfl
theorem ul:∀L:cc Rp,OD.canLayAll0 (L.map aC)=OG
 |[]=>by rw[Pq,OD.canLayAll0]
 |a::L=>by rw[OM,OD.canLayAll0,(Ad a).1,ul L];rfl
theorem ur:∀L:cc Rp,OD.depthAll (L.map aC)<=3
 |[]=>by rw[Pq,OD.depthAll];ext
 |a::L=>by
  rw[OM,OD.depthAll];have:=ur L;have:(aC a).depth<=3:=by unfold aC sD nd;rw[OD.depth,OD.depthAll,OD.depthAll,OD.depthAll,OD.depth,OD.depth];have:=gH a.1;ext
  ext
theorem Hb(L:cc Rp):ko (.list (L.map aC)) (.list (L.map aC))=-(.bool OG):=by unfold ko;rw[ai,OD.eqv,vG];unfold B7;rw[OD.canLay0,ul];have:=ur L;rw[OD.depth,a6 (by ext)];rfl
theorem oV{F:kh}{d:D}{ds:cc D}{m:Nat}{a:aG}(h:F [.fz d] []=.ok (.rf m) a)(hm:a[m]?=cL (.lst (ds.map .fz)))(ω:aG):mR F 1 [.fz d] ω=.ok (.rf ω.length) (ω++[.lst (ds.map .fz)]):=by show(match F [.fz d] []with|.ok x a=>hV x a ω|.er x _=>.er x ω|.bad=>.bad)=_;rw[h];show(match sh a (.rf m)with|some (.list ds)=>fS ω (.ow ds)|_=>.bad)=_;rw[gW hm];rfl
theorem uD(ds:cc D):su (.list ds) .none=-(.bool OP):=rfl
theorem main(b:cc Int)(Y:b.length<=63):L10.LI F_law [.list (b.map .int)]=.ok (.fz (.bool OG)):=by
 obtain⟨B,g,C⟩:=Dl b Y (a:=0) (aam _);have h:=g.bb;have A:Kw B:=λe N k M=>((g.ge e N).st k M).2;obtain⟨L,j,E,w,z,K⟩:=rT h;obtain⟨L2,j2,u,r,Z,q⟩:=rT (zt h);obtain⟨m,F,O,hm⟩:=hW h A w z K;obtain⟨m2,v,X,t⟩:=hW (zt h) (GQ A) r Z q;have n:∃x f,F_law [.fz (.list (b.map .int))] []=.ok x f/\x=.fz (.bool OG):=by
  refine o9 (T:=λx _=>x=.fz (.bool OG)) (ρ:=[-(.list (b.map .int)),CL,CL,CL]) rfl ?_;unfold qC;generalize hS:OD.list (b.map .int)=S at C;refine ej (x:=.fz (aW B)) (ω1:=[]) (ρ1:=[-(S),-(aW B),CL,CL]) (aL (cN (rv:=.fz (aW B)) (aj (ae rfl) (aj cf ar)) rfl rfl C)) rfl ?_;have P:=h.Vq;have H:kt (aW B) (cL 1) CL=-(.tuple ((B.map wD).drop 1)):=r0 (B.map wD) 1;have G:kt (aW B) CL (cL 1)=-(.tuple ((B.map wD).take 1)):=sJ (B.map wD) 1;have U:xK (.tuple ((B.map wD).drop 1)) (.tuple ((B.map wD).take 1))=-(.tuple ((B.drop 1++B.take 1).map wD)):=by rw[IJ _ _ (by rw[Qy,P4,OH];ext),Pm,TR,SU]
  have l:jU (cW (gT 2 (li (gN 0) (li (gN 1) xt))) dH (cP {aa 0,Ih L9.xB (aa 1)}) ((B.drop 1++B.take 1).map wD) [CL,CL] [])=.ok ((B.drop 1++B.take 1).map λe=>wD (e.1,e.2.reverse)):=by
   refine n9 (λρ=>∃o p,ρ=[o,p]) _ (by rw[(lp B).length_eq];ext) ⟨CL,CL,rfl⟩ ?_;rintro e _ ρ ⟨o,p,rfl⟩;have rv:L9.xB (sD e.2)=-(sD e.2.reverse):=by show cL (RV.fz (.tuple (e.2.map kD).reverse))=_;unfold sD;rw[Xh]
   exact⟨_,HU rfl rfl (bP (ds:=[tD e.1,sD e.2.reverse]) (aj (ae rfl) (aj (FR (rv:=.fz (sD e.2.reverse)) (ae rfl) rfl rv) ar)) rfl (Pl rfl)) rfl rfl,_,_,rfl⟩
  have Q:((B.drop 1++B.take 1).map λe=>wD (e.1,e.2.reverse))=(lX B).map wD:=by unfold lX;rw[PY];rfl
  rw[Q]at l;have tp:jt [.list ((lX B).map wD)]=-(aW (lX B)):=rfl;refine ej (x:=.fz (aW (lX B))) (ω1:=[]) (ρ1:=[-(S),-(aW B),-(aW (lX B)),CL]) (aL (bD (rv:=.fz (aW (lX B))) (aj (jn (b5 (d:=.tuple ((B.drop 1++B.take 1).map wD)) (aK (rv:=.fz (.tuple ((B.drop 1++B.take 1).map wD))) (fU (rv:=.fz (.tuple ((B.map wD).drop 1))) (ae rfl) (bI cf rfl) bG rfl H) (fU (rv:=.fz (.tuple ((B.map wD).take 1))) (ae rfl) bG (bI cf rfl) rfl G) rfl rfl U) rfl rfl) rfl l) ar) rfl tp)) rfl ?_;refine ej (x:=.rf 0) (ω1:=[.lst ((L.map aC).map .fz)]) (ρ1:=[-(S),-(aW B),-(aW (lX B)),cL (.rf 0)]) (i9 (xs:=[.fz (aW B)]) (bN (aL (ae rfl)) eC) (oV O hm [])) rfl ?_;have J:yG su (bA 3) (aD (pC .none)) [-(S),-(aW B),-(aW (lX B)),cL (.rf 0)] [.lst ((L.map aC).map .fz)]=.ok (.fz (.bool OP)) [.lst ((L.map aC).map .fz)]:=sg (bh rfl) (aL cf) (sG (L10.gW (i:=0) rfl) rfl (uD _));have I:yG su (ji bT 1 (cY (aD (aa 2)) iB)) (aD (pC .none)) [-(S),-(aW B),-(aW (lX B)),cL (.rf 0)] [.lst ((L.map aC).map .fz)]=.ok (.fz (.bool OP)) [.lst ((L.map aC).map .fz),.lst ((L2.map aC).map .fz)]:=sg (x:=.rf 1) (i9 (xs:=[.fz (aW (lX B))]) (bN (aL (ae rfl)) eC) (oV X t [.lst ((L.map aC).map .fz)])) (aL cf) (sG (L10.gW (i:=1) (ds:=L2.map aC) rfl) rfl (uD _));refine uc (rC (dW J) (dW I)) (o8 ?_);exact sV (x:=.fz (.bool OG)) (sg (x:=.rf 2) (y:=.rf 0) (i9 (xs:=[.fz (aW B)]) (bN (aL (ae rfl)) eC) (oV w z [.lst ((L.map aC).map .fz),.lst ((L2.map aC).map .fz)])) (bh rfl) (sG (L10.gW (i:=2) (ds:=L.map aC) rfl) (L10.gW (i:=0) (ds:=L.map aC) rfl) (Hb L))) rfl
 obtain⟨x,f,h1,rfl⟩:=n;unfold L10.LI;rw[show([OD.list (b.map .int)].map SV.fz)=[.fz (.list (b.map .int))]from rfl,h1]
end K63
namespace K63
open PySem L2 L3 L10 CC
set_option synthInstance.maxHeartbeats 400000
set_option synthInstance.maxSize 4000
def top(i:Nat):Rk:=PySem.Challenge.pw_chordbed_k63_whole_rests_closed.main.body.getD i (.Pass ⟨0,0,0,0⟩)
def cH:cc CC.Fd:=[CC.SW 1 "_law_cell" ["_law_script","_law_k"] 2 bw,
 CC.SW 1 "_law_stirred" ["_law_cell_here","_law_salt"] 2 bq,
 CC.SW 2 "_law_stream" ["_law_cell_here","_law_many"] 2 dQ,
 CC.SW 1 "_law_name_of" ["_law_rest"] 1 dA,
 CC.SW 1 "_law_stroke_of" ["_law_rest"] 1 cG,
 CC.SW 2 "_law_read_book" ["_law_xs"] 1 cr,
 CC.SW 2 "_law_wide" ["_law_cell_here","_law_salt"] 2 bz,
 CC.SW 1 "_law_names" ["_law_cell_here","_law_many"] 2 df,
 CC.SW 1 "_law_stroke" ["_law_cell_here","_law_wide_here"] 2 cO,
 CC.SW 3 "_law_book" ["_law_script","_law_at"] 2 fu,
 CC.SW 1 "begins" ["part","whole"] 2 ff,
 CC.SW 2 "first_ways" ["book"] 1 c9,
 CC.SW 2 "next_ways" ["book","way"] 2 d9,
 CC.SW 1 "_law_first" ["_law_book_here"] 1 eE,
 CC.SW 1 "_law_next" ["_law_book_here","_law_rest","_law_price"] 3 fD,
 CC.SW 1 "_law_whole" ["_law_thing"] 1 bO,
 CC.SW 2 "_law_strokes" ["_law_found"] 1 dD,
 CC.SW 3 "_law_shaped" ["_law_found"] 1 dS,
 CC.Wn 3 "offer" ["offers","ways"] 2 i6,
 CC.Wn 4 "cheapest_ways" ["book"] 1 cT,
 CC.Wn 5 "rests" ["book"] 1 eL,
 CC.Wn 6 "_law_closed" ["_law_book_here"] 1 bT]
def kr:CC.Md:=⟨["max","range","tuple","len","isinstance","int","bool","all","list","min","sorted","dict"],[],[],[]⟩
noncomputable instance:CC.Fn cH CC.SW bw 2:=⟨0,1,"_law_cell",["_law_script","_law_k"],rfl⟩
noncomputable instance:CC.Fn cH CC.SW bq 2:=⟨1,1,"_law_stirred",["_law_cell_here","_law_salt"],rfl⟩
noncomputable instance:CC.Fn cH CC.SW dQ 2:=⟨2,2,"_law_stream",["_law_cell_here","_law_many"],rfl⟩
noncomputable instance:CC.Fn cH CC.SW dA 1:=⟨3,1,"_law_name_of",["_law_rest"],rfl⟩
noncomputable instance:CC.Fn cH CC.SW cG 1:=⟨4,1,"_law_stroke_of",["_law_rest"],rfl⟩
noncomputable instance:CC.Fn cH CC.SW cr 1:=⟨5,2,"_law_read_book",["_law_xs"],rfl⟩
noncomputable instance:CC.Fn cH CC.SW bz 2:=⟨6,2,"_law_wide",["_law_cell_here","_law_salt"],rfl⟩
noncomputable instance:CC.Fn cH CC.SW df 2:=⟨7,1,"_law_names",["_law_cell_here","_law_many"],rfl⟩
noncomputable instance:CC.Fn cH CC.SW cO 2:=⟨8,1,"_law_stroke",["_law_cell_here","_law_wide_here"],rfl⟩
noncomputable instance:CC.Fn cH CC.SW fu 2:=⟨9,3,"_law_book",["_law_script","_law_at"],rfl⟩
noncomputable instance:CC.Fn cH CC.SW ff 2:=⟨10,1,"begins",["part","whole"],rfl⟩
noncomputable instance:CC.Fn cH CC.SW c9 1:=⟨11,2,"first_ways",["book"],rfl⟩
noncomputable instance:CC.Fn cH CC.SW d9 2:=⟨12,2,"next_ways",["book","way"],rfl⟩
noncomputable instance:CC.Fn cH CC.SW eE 1:=⟨13,1,"_law_first",["_law_book_here"],rfl⟩
noncomputable instance:CC.Fn cH CC.SW fD 3:=⟨14,1,"_law_next",["_law_book_here","_law_rest","_law_price"],rfl⟩
noncomputable instance:CC.Fn cH CC.SW bO 1:=⟨15,1,"_law_whole",["_law_thing"],rfl⟩
noncomputable instance:CC.Fn cH CC.SW dD 1:=⟨16,2,"_law_strokes",["_law_found"],rfl⟩
noncomputable instance:CC.Fn cH CC.SW dS 1:=⟨17,3,"_law_shaped",["_law_found"],rfl⟩
noncomputable instance:CC.Fn cH CC.Wn i6 2:=⟨18,3,"offer",["offers","ways"],rfl⟩
noncomputable instance:CC.Fn cH CC.Wn cT 1:=⟨19,4,"cheapest_ways",["book"],rfl⟩
noncomputable instance:CC.Fn cH CC.Wn eL 1:=⟨20,5,"rests",["book"],rfl⟩
noncomputable instance:CC.Fn cH CC.Wn bT 1:=⟨21,6,"_law_closed",["_law_book_here"],rfl⟩
noncomputable instance k0:CC.CS cH (CC.so eg):=by delta eg;infer_instance
theorem e0:CC.Uk cH (CC.so eg) kr ["_law_script","_law_k"] ["_law_script","_law_k"] (top 8) 0 0 OP=OG:=by decide+kernel
noncomputable instance k1:CC.CS cH (CC.so ci):=by delta ci;infer_instance
theorem e1:CC.Uk cH (CC.so ci) kr ["_law_cell_here","_law_salt","_law_number"] ["_law_cell_here","_law_salt"] (top 9) 0 1 OP=OG:=by decide+kernel
noncomputable instance k2:CC.CS cH (CC.so bV):=by delta bV;infer_instance
theorem e2:CC.Uk cH (CC.so bV) kr ["_law_cell_here","_law_many","_law_found","_law_left","_law_k","_law_x","_law_j"] ["_law_cell_here","_law_many"] (top 11) 1 2 OP=OG:=by decide+kernel
noncomputable instance k3:CC.CS cH (CC.so bF):=by delta bF;infer_instance
theorem e3:CC.Uk cH (CC.so bF) kr ["_law_rest","_law_word","_law_many","_law_k"] ["_law_rest"] (top 15) 0 3 OP=OG:=by decide+kernel
noncomputable instance k4:CC.CS cH (CC.so bp):=by delta bp;infer_instance
theorem e4:CC.Uk cH (CC.so bp) kr ["_law_rest","_law_mask","_law_found","_law_key"] ["_law_rest"] (top 16) 0 4 OP=OG:=by decide+kernel
noncomputable instance k5:CC.CS cH (CC.so bj):=by delta bj;infer_instance
theorem e5:CC.Uk cH (CC.so bj) kr ["_law_xs","_law_found","_law_k","_law_word","_law_strokes_here","_law_rest","_law_j"] ["_law_xs"] (top 17) 1 5 OP=OG:=by decide+kernel
noncomputable instance k6:CC.CS cH (CC.so cX):=by delta cX;infer_instance
theorem e6:CC.Uk cH (CC.so cX) kr ["_law_cell_here","_law_salt"] ["_law_cell_here","_law_salt"] (top 10) 1 6 OP=OG:=by decide+kernel
noncomputable instance k7:CC.CS cH (CC.so cK):=by delta cK;infer_instance
theorem e7:CC.Uk cH (CC.so cK) kr ["_law_cell_here","_law_many","_law_letters","_law_sign","_law_size","_law_at","_law_found","_law_k","_law_other"] ["_law_cell_here","_law_many"] (top 14) 0 7 OP=OG:=by decide+kernel
noncomputable instance k8:CC.CS cH (CC.so bS):=by delta bS;infer_instance
theorem e8:CC.Uk cH (CC.so bS) kr ["_law_cell_here","_law_wide_here","_law_some","_law_bits","_law_keys","_law_key"] ["_law_cell_here","_law_wide_here"] (top 13) 0 8 OP=OG:=by decide+kernel
noncomputable instance k9:CC.CS cH (CC.so cZ):=by delta cZ;infer_instance
theorem e9:CC.Uk cH (CC.so cZ) kr ["_law_script","_law_at","_law_first_here","_law_sort","_law_many","_law_most","_law_names_here","_law_found","_law_k","_law_cell_here","_law_strokes_here","_law_j"] ["_law_script","_law_at"] (top 18) 2 9 OP=OG:=by decide+kernel
noncomputable instance k10:CC.CS cH (CC.so gG):=by delta gG;infer_instance
theorem N5:CC.Uk cH (CC.so gG) kr ["part","whole"] ["part","whole"] (top 6) 0 10 OP=OG:=by decide+kernel
noncomputable instance k11:CC.CS cH (CC.so dC):=by delta dC;infer_instance
theorem OB:CC.Uk cH (CC.so dC) kr ["book","ways","one","part","other","whole"] ["book"] (top 4) 1 11 OP=OG:=by decide+kernel
noncomputable instance k12:CC.CS cH (CC.so d7):=by delta d7;infer_instance
theorem N2:CC.Uk cH (CC.so d7) kr ["book","way","price","rest","ways","word","strokes","over"] ["book","way"] (top 5) 1 12 OP=OG:=by decide+kernel
noncomputable instance k13:CC.CS cH (CC.so dB):=by delta dB;infer_instance
theorem Oa:CC.Uk cH (CC.so dB) kr ["_law_book_here","_law_found","_law_name","_law_strokes_here","_law_other","_law_more"] ["_law_book_here"] (top 22) 0 13 OP=OG:=by decide+kernel
noncomputable instance k14:CC.CS cH (CC.so dY):=by delta dY;infer_instance
theorem Oh:CC.Uk cH (CC.so dY) kr ["_law_book_here","_law_rest","_law_price","_law_found","_law_name","_law_strokes_here"] ["_law_book_here","_law_rest","_law_price"] (top 23) 0 14 OP=OG:=by decide+kernel
noncomputable instance k15:CC.CS cH (CC.so dw):=by delta dw;infer_instance
theorem Ot:CC.Uk cH (CC.so dw) kr ["_law_thing"] ["_law_thing"] (top 12) 0 15 OP=OG:=by decide+kernel
noncomputable instance k16:CC.CS cH (CC.so ce):=by delta ce;infer_instance
theorem N7:CC.Uk cH (CC.so ce) kr ["_law_found","_law_some"] ["_law_found"] (top 21) 1 16 OP=OG:=by decide+kernel
noncomputable instance k17:CC.CS cH (CC.so cR):=by delta cR;infer_instance
theorem Od:CC.Uk cH (CC.so cR) kr ["_law_found","_law_one","_law_k"] ["_law_found"] (top 24) 2 17 OP=OG:=by decide+kernel
noncomputable instance k18:CC.CS cH (CC.Tc iw):=by delta iw;infer_instance
theorem NX:CC.Uk cH (CC.Tc iw) kr ["offers","ways","way","rest"] ["offers","ways"] (top 3) 2 18 OP=OG:=by decide+kernel
noncomputable instance k19:CC.CS cH (CC.Tc bv):=by delta bv;infer_instance
theorem NV:CC.Uk cH (CC.Tc bv) kr ["book","ways","offers","way"] ["book"] (top 2) 3 19 OP=OG:=by decide+kernel
noncomputable instance k20:CC.CS cH (CC.Tc jk):=by delta jk;infer_instance
theorem Os:CC.Uk cH (CC.Tc jk) kr ["book","ways"] ["book"] (top 1) 4 20 OP=OG:=by decide+kernel
noncomputable instance k21:CC.CS cH (CC.Tc bU):=by delta bU;infer_instance
theorem Ow:CC.Uk cH (CC.Tc bU) kr ["_law_book_here","_law_found","_law_prices","_law_due","_law_rest","_law_price","_law_known","_law_kept"] ["_law_book_here"] (top 25) 5 21 OP=OG:=by decide+kernel
noncomputable instance k22:CC.CS cH (CC.Tc qC):=by delta qC;infer_instance
theorem Oe:CC.Uk cH (CC.Tc qC) kr ["_law_script","_law_book_here","_law_other","_law_kept"] ["_law_script"] (top 26) 6 22 OP=OG:=by decide+kernel
end K63
theorem MF{α:Type}:∀{l:cc α},l.length=1->∃a,l=[a]
 |[a],_=>⟨a,rfl⟩
theorem ML{α:Type}:∀{l:cc α},l.length=2->∃a b,l=[a,b]
 |[a,b],_=>⟨a,b,rfl⟩
theorem NG{α:Type}:∀{l:cc α},l.length=3->∃a b c,l=[a,b,c]
 |[a,b,c],_=>⟨a,b,c,rfl⟩
theorem Oz{α:Type}:∀{l:cc α},l.length=4->∃a b c d,l=[a,b,c,d]
 |[a,b,c,d],_=>⟨a,b,c,d,rfl⟩
local macro_rules| `(tactic|walk_at "ba")=> `(tactic|(intro _ _ _ _ _ _ us hl;first|(obtain⟨_,h⟩:=MF hl;subst h;kernel_rfl)|(obtain⟨_,_,h⟩:=ML hl;subst h;kernel_rfl)|(obtain⟨_,_,_,h⟩:=NG hl;subst h;kernel_rfl)|(obtain⟨_,_,_,_,h⟩:=Oz hl;subst h;kernel_rfl)|(match us,hl with|[_,_,_,_,_],_=>rfl)|(match us,hl with|[_,_,_,_,_,_],_=>rfl)|(match us,hl with|[],_=>rfl)))| `(tactic|walk_at "fl")=> `(tactic|first|exact List.forall_mem_nil _|(refine List.forall_mem_cons.mpr ⟨?_,?_⟩;(·first|(show QH _ _ _=_;k_is)|(show Qr _ _ _=_;k_is));walk_at "fl"))| `(tactic|walk_at "ki")=> `(tactic|first|(refine' L3.NI.mk ?a' ⟨_,L2.Bc ?b' ?c' ?d'⟩;(case a'=>k_is);(case b'=>k_is);(case c'=>k_is);(case d'=>k_is))|(refine' L3.MI.mk ?a' ?e' ⟨_,L2.Bc ?b' ?c' ?d'⟩;(case a'=>k_is);(case e'=>k_is);(case b'=>k_is);(case c'=>k_is);(case d'=>k_is))|(refine' L3.CI.mk ?a' ?b' ?c' ?d' ?e' ?f' ?g' ?i';(case a'=>k_is);(case b'=>k_is);(case c'=>k_is);(case d'=>k_is);(case e'=>k_is);(case f'=>k_is);(case g'=>k_is);(case i'=>walk_at "fl"))|(refine' L3.DI.mk ?a' ⟨_,L3.aaD ?b' ?c' ?d' ?e'⟩;(case a'=>k_is);(case b'=>k_is);(case c'=>k_is);(case d'=>k_is);(case e'=>k_is))|k_is|k_exc|rfl|walk_at "fl"|decide+kernel|(rw[<-WB];rfl))
namespace K63
open PySem L2 L3 CC
def F_lawH:FN:=L10.LI F_law
theorem all_mk{l:Wi}{w:Pz}{K:Bn}{h:Heap}{mg:Str->cj OC}{fa:OL}
  {f0 f1 f2 f3 f4 f5 f6 f7 f8 f9 f10 f11 f12 f13 f14 f15 f16 Z Y U S Q O:OL} (X:K.In h) (G:h.Ns PK mg) (r:mg "law"=cL (.ref fa))
  (h0:NI K f0 "_law_cell" (top 8))
  (h1:NI K f1 "_law_stirred" (top 9))
  (h2:NI K f2 "_law_stream" (top 11))
  (h3:NI K f3 "_law_name_of" (top 15))
  (h4:NI K f4 "_law_stroke_of" (top 16))
  (h5:NI K f5 "_law_read_book" (top 17))
  (h6:NI K f6 "_law_wide" (top 10))
  (h7:NI K f7 "_law_names" (top 14))
  (h8:NI K f8 "_law_stroke" (top 13))
  (h9:NI K f9 "_law_book" (top 18))
  (N:NI K f10 "begins" (top 6))
  (M:NI K f11 "first_ways" (top 4))
  (L:NI K f12 "next_ways" (top 5))
  (J:NI K f13 "_law_first" (top 22))
  (I:NI K f14 "_law_next" (top 23))
  (H:NI K f15 "_law_whole" (top 12))
  (F:NI K f16 "_law_strokes" (top 21))
  (E:NI K Z "_law_shaped" (top 24))
  (C:NI K Y "offer" (top 3))
  (B:NI K U "cheapest_ways" (top 2))
  (A:NI K S "rests" (top 1))
  (u:NI K Q "_law_closed" (top 25))
  (t:NI K O "law" (top 26))
  (yb:∀x∈kr.bl,Qr K PK x=cL CL):
  ∃fd:Qx,(∀(s:OK) (v:OC),T8 s fd ⟨[v],[]⟩ [("_law_script",v)])/\∀base:Heap,K.In base->base.Ns PK mg->FnOk l.prog w K mg base jC 7 fa fd ["_law_script"] (L3.xF K 1 F_lawH):=by
 refine t.law X G r (by walk_at "ba") λbase fd YA=>?_;have W:Tp l.prog w K mg base h:=⟨X,G⟩;have a:WW K mg kr:=⟨λx hx=>PySem.W.mg_none_of X G (yb x hx),CC.exN,CC.csN,CC.clN⟩;have s0:=CC.fs0 (T:=cH) (P:=l.prog) (w:=w) (K:=K) (mg:=mg) (base:=base);have s1:=CC.Uw s0 rfl (h0.c W λ_ z=>CC.Tb a s0 z e0);have s2:=CC.Uw s1 rfl (h1.c W λ_ z=>CC.Tb a s1 z e1);have s3:=CC.Uw s2 rfl (h2.c W λ_ z=>CC.Tb a s2 z e2);have s4:=CC.Uw s3 rfl (h3.c W λ_ z=>CC.Tb a s3 z e3);have s5:=CC.Uw s4 rfl (h4.c W λ_ z=>CC.Tb a s4 z e4);have s6:=CC.Uw s5 rfl (h5.c W λ_ z=>CC.Tb a s5 z e5);have s7:=CC.Uw s6 rfl (h6.c W λ_ z=>CC.Tb a s6 z e6);have s8:=CC.Uw s7 rfl (h7.c W λ_ z=>CC.Tb a s7 z e7);have s9:=CC.Uw s8 rfl (h8.c W λ_ z=>CC.Tb a s8 z e8);have p:=CC.Uw s9 rfl (h9.c W λ_ z=>CC.Tb a s9 z e9);have o:=CC.Uw p rfl (N.c W λ_ z=>CC.Tb a p z N5);have n:=CC.Uw o rfl (M.c W λ_ z=>CC.Tb a o z OB);have m:=CC.Uw n rfl (L.c W λ_ z=>CC.Tb a n z N2);have k:=CC.Uw m rfl (J.c W λ_ z=>CC.Tb a m z Oa);have j:=CC.Uw k rfl (I.c W λ_ z=>CC.Tb a k z Oh);have i:=CC.Uw j rfl (H.c W λ_ z=>CC.Tb a j z Ot);have g:=CC.Uw i rfl (F.c W λ_ z=>CC.Tb a i z N7);have f:=CC.Uw g rfl (E.c W λ_ z=>CC.Tb a g z Od);have e:=CC.Uw f rfl (C.c W λ_ z=>CC.W3 a f z NX);have d:=CC.Uw e rfl (B.c W λ_ z=>CC.W3 a e z NV);have b:=CC.Uw d rfl (A.c W λ_ z=>CC.W3 a d z Os);have q:=CC.Uw b rfl (u.c W λ_ z=>CC.W3 a b z Ow);exact(CC.W3 a q YA Oe).imp λ_ _ _ _ h=>L10.JJ h
end K63
inductive PySem.W.Fast|tw1489349209938769057|tw1292599130100226896|tw1586051831842871644|tw18110564318835511000|tw13320817092542433361|tw11158433031441140542|tw8352915195042450360|tw6941480173686363921|tw1502359118706016615|tw13908975300537833701|tw6615434881191221775|tw4422838404948056046|tw10656322626879261070|tw16557096923907465140|tw14627234339280750647|tw9278783931973991139|tw5478835976667924721|tw17243022957631756928|tw11997355515224536914|tw5138279775053420574|tw8289491103717107618|tw7062349868224162625|tw17710253079376193949|tw3517787126702477588|tw6514536242206167105|tw17522582562594011425|tw7249501044224438397|tw9119219494616771052|tw13503571771237259645|tw2450970124916937305|tw16179793891052759666|tw16971564290441343927|tw14375906162647639939|tw6864183819099007096|tw11927506262868485492|tw14016060030789684714|tw17905018891680179891|tw12449774367837927669|tw16932043025556852334|tw18096817817877261322|tw6539089021894439838|tw5354139388994549084|tw3426628106670360179|tw1333797985968761081|tw7067181830403156421|tw12139766010313603561|tw14012638767656908217|tw9722088489424563518|tw17928561397640088256|tw1671539728522546221|tw18107062380171792589|tw14625375932200299672|tw7835012714255497984|tw15277917722059855477|tw2809293672337420866|tw17013378986040450804|tw6035429460764151442|tw8733317958374692556|tw13829790571008791468|tw9421385023881834637|tw14451574989396646317|tw1174759742603166842|tw12007460036757475591|tw13631511057139242550|tw10439255829285973148|tw6922442694506016776|tw1657655452193744210|tw4072125737688082645|tw5934158709148750444|tw15588990547663145399|tw5752688100427986319|tw9848845100175297176|tw14336650699436904390|tw9830915945184393150|tw9260791384368756593|tw15906287383131493093|tw838800157098080759|tw6132239336791132387|tw1572947083166228212|tw14065206819716096779|tw11668117905476767320|tw15644188024807942018|tw2860202427156425004|tw6823702870651710372|tw13656893552547863268|tw1291466851619345972|tw3033026074749603834|tw4923401987402916284|tw5109663991303188844|tw10555504276825707479|tw16113328597014789158|tw2189798128109067465|tw13817880926347740114|tw9200086402264868804|tw15328336002206850142|tw4396125361714888516|tw6055168912153043117|tw9317492551784159419|tw17564991754285596457|tw180478623088933737|tw3852462333501391122|tw13775206952394264549|tw13324624729048329017|tw5994517109046945441|tw7841774991778625540|tw4445811027673706155|tw8234233092215446312
open PySem PySem.W PyProof.Rows
set_option maxRecDepth 100000 in
set_option maxHeartbeats 0 in
theorem PySem.Challenge.cw_chordbed_k63_whole_rests_closed_holds : PySem.Challenge.rw_chordbed_k63_whole_rests_closed.Holds := by
 w_on;o_law;k_head;(case hw=>w_witness2)
 k_fill
 refine L3.Kt (l:=PySem.Challenge.rw_chordbed_k63_whole_rests_closed) (n:=63) (k:=7) (x:= "_law_script") (F:=K63.F_lawH) rfl (by decide) rfl ⟨rfl,by decide,by decide⟩ (λw h Y=>PySem.W.kIn_of Y) ?F K63.main
 case F=>
  intro w d e h b G a
  apply K63.all_mk b G a
  all_goals walk_at "ki"
