import PyProof.Rows.All
import Wide.All
import OpenK.AllK
import Wide.FinOn
import Lean
import PyProof.EqAt
import PyProof.EqKinds
import PyProof.TupleCall
import KE.KIntText
import KE.KRevSl
import PyProof.Rows.SeqMore
import PyProof.WalkInts
import PyProof.Rows.MinMaxN
import PyProof.ExcInit
import OpenK.KMake
import PyProof.InstStoreFacts
import PyProof.FString2
import PyProof.Rows.FStr
import PyProof.Rows.SetFrom
import PyProof.SeqRoads2
import PyProof.RangeFor
import PyProof.WalksMore
import PyProof.StrBlock2
import PyProof.Rows.SortShell
import PyProof.TupleOfSeq
import KE.KDictList
import KE.KDictOf
import PyProof.IsiH_tuple
import PyProof.Rows.RuleN_abs
import PyProof.Rows.Range3
import KE.KRevIter
import PyProof.StrLawsRepr
import PyProof.ReprStr
import PyProof.IsiH_list
import PyProof.Rows.TupDisplay
import PyProof.SetKind
import PyProof.SetScanFacts
import PyProof.CollectIter
import PyProof.Rows.SortStr
import PySem.Challenge.RW_chordbed_k36_whole_downs_and_ups_in_turn
set_option compiler.extract_closed false
set_option genSizeOf false
set_option genInjectivity false
set_option Elab.async false
set_option linter.all false
set_option maxRecDepth 100000
abbrev av:=@if_pos
abbrev ax:=@if_neg
abbrev aP:=@decide_eq_true
abbrev a3:=@decide_eq_false
abbrev a4:=@of_decide_eq_true
abbrev a5:=@absurd
abbrev a6:=@Or.inl
abbrev a7:=@Or.inr
abbrev bb:=@List
abbrev bg:=@Option
abbrev br:=@PySem.Heap.get?_push_of_some
abbrev bP:=@PySem.Heap.lt_size
abbrev b0:=@PySem.Heap.get?_push_size
abbrev b3:=@PySem.Heap.get?_update_other
abbrev b5:=@PySem.Heap.get?_update_self
abbrev b7:=@PySem.Heap.size_push
abbrev cn:=@PySem.Obj.data_mapFields
abbrev cv:=@PySem.Obj.isFreed_of_fields
abbrev da:=@Ne.symm
abbrev di:=@congrArg
abbrev dn:=@beq_self_eq_true
local macro_rules|`(tactic|left)=>`(tactic|decide+kernel)|`(tactic|change $e)=>`(tactic|with_reducible exact $e)|`(tactic|specialize $e)=>`(tactic|with_reducible refine $e)
local macro_rules|`(tactic|exists $e)=>`(tactic|with_reducible apply $e)|`(def $i:declId $s:optDeclSig $v:declVal)=>`(noncomputable def $i:declId $s:optDeclSig $v:declVal)|`(abbrev $i:declId $s:optDeclSig $v:declVal)=>`(noncomputable abbrev $i:declId $s:optDeclSig $v:declVal)
local macro_rules|`(tactic|ext)=>`(tactic|omega)
local macro_rules|`(tactic|ext)=>`(tactic|lia)
open Option renaming some->Bn,none->Pn,getD_some->VH,isSome_iff_exists->Wo,isSome_some->X3,toList_none->X6,isSome_map->Yi,getD_none->Yw,bind->aac
open PySem renaming wpAny_bind->Ld,Value->Pq,wpAny_pure->Pt,PyData->Pw,Shared->Px,Addr->Pz,sizeLine->PZ,mainGlobals->P8,Program->Qc,Builtin->Qe,Around->Ql,NameKind->Qn,starEach->Qp,World->Qt,wpAny_call_entry->QC,wpAny_newObj_type->QE,wpAny_callSpecial?_slot->QG,Expr->QK,bootBuiltins->QY,wpAny_holding->Q1,codeAny_builtin->Q2,FuncData->Q6,wpAny_field->Q7,plainId_quiet->Rb,mem_of_lookup->Rt,wpAny_seqItems->Ru,wpAny_truthy_bool->Ry,swapsWith->Rz,compareOp->RG,cellsFrom->RH,binaryOp->RM,wpAny_setField->Se,wpAny_rule->Sj,wpAny_setField_rec->Sk,Stmt->Sr,wpAny_setState_of->Sv,sysModules->SE,wpAny_askSetting->SI,wpAny_setEntries_of->SN,wpAny_pyIter_list->SS,wpAny_ite_split->S0,wpAny_Call_Name_kw->S2,sizeLine_eq->S5,wpAny_typeOf->Ti,builtinLookup_eq_fast->Tt,wpAny_attempt->TH,Scope->TL,wpAny_letGo->TM,wpAny_passesOwn->TZ,wpAny_updateSeq->T3,codeAny_mono->T8,call_meets->Ul,wpAny_of_eq->UB,wpAny_isInstance->UY,wpAny_load->U9,typeLookup_type->Vc,strKind->Vd,wpAny_pyIter_tuple->Vk,GenState->Vq,IsPart->Vr,wpAny_updateSeq_pair->Vs,isSubtype_type->Vt,codeAny_call_builtin->Vu,wpAny_tryCatch->Vv,wpAny_fieldsOf->Vw,PassesOwn->VD,DictEntry->VF,BindsTo->VG,wpAny_onRaise->VX,wpAny_newList->VY,typeIs_int->V2,tupleKind_room_in1->V3,Keyword->We,ZipApart->Wg,fits_of_scanBound->Wi,Result->WC,Within->Xd,wpAny_execs_nil->Xe,pushCells_keeps->Xf,Drawn->Xw,wpAny_call->Xx,IsZip->Xy,wpAny_runValue->XA,wpAny_binaryOp_repeat_ref->X4,Code->Yg,wpAny_comprehension_free->Yh,wpAny_isTrue_Compare1->Y6,ReadsAll->Zd,wpAny_Name->Z0,wpAny_Constant_int->Z7,ItemsOf->aab,wpAny_assign_Name->aaT,wpAny_sequenceKey->aaU,slot_list_getitem->aaV,ElemsOf->aaX,wpAny_storeSet_of->aaY,wpAny_pyIter_slot->aaZ,wpAny_setEpoch_of->aa0,wpAny_pyHash_int->abq,wpAny_pyHash_str->abr,wpAny_execs_cons->abt,noFill_tuple_add->abw,call->aby,wpAny_pyIter_zip->abz,beq_builtin_none->abA,entryFor_of_tree->abB,wpAny_specialOf->acB,codeAny_of_tree->acE,wpAny_newTuple->adt,isSubtype_stop->adu,intBits_le_64->afb,seq_tuple_add->afc,evalPart_none->afd,call_list_seq->afe,wpAny_standAt->aff,wpAny_handled->afg
open PySem.W renaming Frag->Po,nsIn->Qj,findIn->QN,mg_none_of->QP,emptyDict->Q4,instObj->RF,keepIn->RX,fnOf->Ss,cellsFrom_some->SM,plainGet->S1,mg_of->S6,hasDictIn->TU,lookIn->UD,codeIn->UE,plainGet_of->UX,callWith_K->Va,methodObj->Vh,isFn->Vi,plainOver->Vj,takerIn->VO,makesIn->VP,methodCall_KW->WZ,pyHash_slot->Xq,specialIn->X0,handedIn->Yf,OpenLaw->Yx
open List renaming length_map->Pp,getElem?_eq_some_iff->Pu,mem_cons_of_mem->PD,mem_cons_self->PH,length_append->PJ,replicate->PK,mem_singleton->PL,getElem?_eq_getElem->PM,length_cons->PN,getElem?_map->PU,size_toArray->PX,map_cons->PY,range->P0,mem_cons->P1,lookup_cons->P6,getElem?_append_left->P9,map_append->Qb,length_replicate->Qg,append_nil->Qh,length_range->Qi,mem_append->Qm,mem_map->Qo,getElem?_append_right->Qq,mem_of_getElem?->Qs,getElem?_set_ne->Qv,map_map->Qy,length_nil->QA,replicate_succ->QF,length_take->QH,getElem?_set_self->QI,mem_append_right->QM,foldl_cons->QO,Nodup->QQ,append_assoc->QS,getElem?_set->QT,nodup_append->QU,Perm->QW,pairwise_singleton->QX,pairwise_cons->QZ,nodup_cons->Q3,mem_filter->Q9,length_set->Ra,mem_iff_getElem?->Rf,not_mem_nil->Rj,any_cons->Rm,mem_range->Rn,find?_cons->Rr,pairwise_lt_range->RA,any_eq_true->RD,drop_eq_getElem_cons->RL,flatten_cons->RO,pairwise_map->RP,getElem?_replicate->R8,all_eq_true->Sa,nodup_nil->Sb,lookup_cons_self->Si,take_length->Sw,mem_filterMap->SK,drop_eq_nil_of_le->SX,take_add_one->SY,length_singleton->Ta,length_filter_le->Tb,take_append_drop->Tc,isEmpty_nil->Tf,lookup->Tn,of_mem_zip->Ts,filterMap_cons->Tu,map_congr_left->Tv,map_filterMap->TV,pairwise_iff_getElem->T5,getElem?_cons_succ->Us,filter_cons->Ut,map_nil->Uz,foldl->UA,forIn_cons->UG,getElem?_toArray->UU,getElem?_eq_none->UW,length->U0,pairwise_append->U1,mem_of_mem_take->U2,ext_getElem?->VJ,length_drop->VV,getElem_mem->VW,eq_nil_iff_forall_not_mem->VZ,nil_append->Wc,forIn_nil->Ws,length_eraseIdx_of_lt->Wt,mem_of_find?_eq_some->WI,getElem?_take_of_lt->W0,filterMap_cons_none->W4,filterMap_cons_some->W5,length_filterMap_le->W6,pairwise_filterMap->Xg,length_eq_zero_iff->Xh,getElem?_cons_zero->Xi,mem_of_mem_erase->XB,mem_append_left->XZ,mem_iff_getElem->X5,getElem_toArray->X7,set_cons_zero->Yz,set_cons_succ->YA,map_replicate->YB,mem_replicate->YC,foldl_append->YI,zipIdx_cons->Y7,zipIdx_nil->Ze,length_zip->Zh,set_set->aa1
open Bool renaming true->Pr,false->Py,and_eq_true->P2,false_ne_true->P7,false_eq_true->Ri,and_self->RU,eq_iff_iff->SH,not_true->Tj,true_or->TF,false_and->TR,false_or->Ug,true_and->Uh,or_eq_true->UH,and_true->Vl,eq_false_iff->VI,or_eq_false_iff->X8,not_false->ZH,decide_or->ZI,or_false->Z9,or_true->aaW
open Nat renaming le_of_ble_eq_true->PB,le_refl->PF,ne_of_lt->P5,lt_of_lt_of_le->Qd,zero_le->Qu,le_trans->Qz,ne_of_gt->Q0,le_succ->Rp,lt_irrefl->RB,lt_succ_of_lt->RT,lt_trans->Sx,lt_succ_self->Tg,le_of_succ_le->Ue,add_assoc->Um,add_sub_cancel_left->Uw,le_of_lt->UC,add_comm->VQ,min_le_right->V1,mul_le_mul->WH,zero_add->Xz,succ_le_succ->Zc,succ_ne_self->Zf,le_add_right->Zg,not_lt_zero->ZG,le_of_eq->abv,succ_mul->abx,sub_self->abC,mod_lt->adv,max_le->adw
open Option.some renaming inj->P4
open Array renaming length_toList->Qf,getElem?_eq_getElem->QB,getElem?_toList->QD,getD_eq_getD_getElem?->Tw,getElem?_eq_none->Ux,getElem?_eq_some_iff->Wh,toList_push->Yy,toList->Z8,ext'->abD
open PyProof.Rows renaming envOfC->QJ,slot_tuple_getitem->QR,callWith_type1->S4,step_dedup->TJ,callWith_builtin1->acA,kws_cons->acC,kws_nil->acD
open PySem.F renaming plainAttrs_list->QV,called_set->Rc,slot_list_append->Rg,type_list_append->Rh,slot_dict_values->T2,slot_list_remove->T4,plainAttrs_dict->T9,args_tuple_add_2->Wf,type_dict_values->Wk,type_list_remove->Wl,entry_tuple_add->Wr,slot_tuple_add->WG,slot_dict_pop->W2,plain_set_new->W3
open Int renaming toNat_natCast->Q8,toNat_of_nonneg->SF,emod_lt_of_pos->SQ,emod_nonneg->Tx,le_refl->Vb,ofNat->V4,fdiv_eq_ediv_of_nonneg->WB,toNat->Xr
open List.Pairwise renaming nil->R9,filter->Ua,map->Wu,filterMap->abE
open PyProof.Rows.F renaming plain_set_update_loop->Sf,entry_set_update_loop->Ui
open List.Perm renaming refl->VR,swap->agt,append_left->agx
open PySem.SeqAt renaming eqv_refl->Wj,compareEq_reads->adm,compareNe_reads->adn,in_list_reads->ado,in_tuple_reads->adp,notIn_list_reads->adq,notIn_tuple_reads->ads
open PySem.PassesOwn renaming never->aad
open PySem.W.Looks renaming here->abu
open PySem.Within renaming cons->acz
open List.Nodup renaming sublist->afh
open PySem.IsL renaming update->ags
open List.cons renaming injEq->agw
namespace L2
open PySem PySem.Spec PyProof.Rows
abbrev cT:=Sum Int Str
def uo:cT->Pq->Bool
 |.inl k,v=>Pq.isInt k v
 |.inr x,v=>Pq.isStrOf x v
def Oh(w:Qt):cT->Int
 |.inl k=>hashInt k
 |.inr x=>hashStr w x
theorem dc:∀{k:cT} {v:Pq},uo k v=Pr->(∃i t,k=Sum.inl i/\v=Pq.int i t)\/(∃x t,k=Sum.inr x/\v=Pq.str x t)
 |.inl i,v,h=>by obtain⟨t,e⟩:=Pq.isInt_shape h;exact .inl ⟨i,t,rfl,e⟩
 |.inr x,v,h=>by obtain⟨t,e⟩:=Pq.isStrOf_shape h;exact .inr ⟨x,t,rfl,e⟩
theorem Cu(i:Int)(t:Tok):uo (.inl i) (.int i t)=Pr:=by simp[uo,Pq.isInt]
theorem CF(x:Str)(t:Tok):uo (.inr x) (.str x t)=Pr:=by simp[uo,Pq.isStrOf]
theorem LW(a b:Int):decide ((Sum.inl a:cT)=Sum.inl b)=(a==b):=by
 by_cases e:a=b
 .subst e;simp
 .have h:¬(Sum.inl a:cT)=Sum.inl b:=λq=>e (Sum.inl.inj q);rw[a3 h];exact(beq_eq_false_iff_ne.mpr e).symm
theorem LQ(a b:Str):decide ((Sum.inr a:cT)=Sum.inr b)=decide (a=b):=by
 by_cases e:a=b
 .subst e;simp
 .have h:¬(Sum.inr a:cT)=Sum.inr b:=λq=>e (Sum.inr.inj q);rw[a3 h,a3 e]
theorem KI(a:Int)(b:Str):decide ((Sum.inl a:cT)=Sum.inr b)=Py:=a3 (λq=>nomatch q)
theorem Kq(a:Str)(b:Int):decide ((Sum.inr a:cT)=Sum.inl b)=Py:=a3 (λq=>nomatch q)
def cY(prog:Qc)(w:Qt):PySem.KeyKind prog w cT where
 is:=uo
 hash:=Oh w
 inj:=λv a b ha f=>by
  rcases dc ha with⟨i,t,rfl,rfl⟩|⟨x,t,rfl,rfl⟩
  .rcases dc f with⟨j,u,rfl,e⟩|⟨y,u,rfl,e⟩
   .injection e with e1 _;rw[e1]
   .exact nomatch e
  .rcases dc f with⟨j,u,rfl,e⟩|⟨y,u,rfl,e⟩
   .exact nomatch e
   .injection e with e1 _;rw[e1]
 byValue:=λk v h=>by rcases dc h with⟨i,t,rfl,rfl⟩|⟨x,t,rfl,rfl⟩<;>rfl
 pyHash:=λd h=>by
  rcases dc d with⟨i,t,rfl,rfl⟩|⟨x,t,rfl,rfl⟩
  .exact abq h
  .exact abr h
 eqBool:=λg d h=>by
  rcases dc g with⟨i,t,rfl,rfl⟩|⟨x,t,rfl,rfl⟩
  .rcases dc d with⟨j,u,rfl,rfl⟩|⟨y,u,rfl,rfl⟩
   .rw[LW]at h;exact wpAny_eqBool_int h
   .rw[KI]at h;exact SeqAt.EqAt.int_str i t y u _ _ _ _ h
  .rcases dc d with⟨j,u,rfl,rfl⟩|⟨y,u,rfl,rfl⟩
   .rw[Kq]at h;exact SeqAt.EqAt.str_int x t j u _ _ _ _ h
   .rw[LQ]at h;exact wpAny_eqBool_str h
 «strs»:=λk x t v h=>by
  rcases dc h with⟨i,u,rfl,e⟩|⟨y,u,rfl,e⟩
  .exact nomatch e
  .injection e with e1 _
   subst e1;cases v<;>rfl
theorem ym(prog:Qc)(w:Qt)(i:Int)(t:Tok):(cY prog w).is (.inl i) (.int i t)=Pr:=Cu i t
theorem xh(prog:Qc)(w:Qt)(x:Str)(t:Tok):(cY prog w).is (.inr x) (.str x t)=Pr:=CF x t
inductive V where
 |Sz|bl (b:Bool)|int (i:Int)|str (x:Str)|byt (b:Array UInt8)|flt (b:UInt64)|ref (a:Pz)|ty (n:String)
 deriving DecidableEq
def RelV:V->Pq->Prop
 |.Sz,u=>u=Pq.none
 |.bl b,u=>u=Pq.bool b
 |.int i,u=>∃t,u=Pq.int i t
 |.str x,u=>∃t,u=Pq.str x t
 |.byt b,u=>∃t,u=Pq.bytes b t
 |.flt b,u=>∃t,u=Pq.float b t
 |.ref a,u=>u=Pq.ref a
 |.ty n,u=>u=Pq.type n
abbrev Vals:bb V->bb Pq->Prop:=Paired RelV
theorem Vals.length(r:Vals xs us):xs.length=us.length:=Paired.length r
theorem Vals.get:∀{xs:bb V} {us:bb Pq} {i:Nat} {x:V},Vals xs us->xs[i]?=Bn x->∃u,us[i]?=Bn u/\RelV x u
 |_,_,_,_,.nil,e=>by simp at e
 |_,_,0,_,.cons r _,e=>by simp at e;subst e;exact⟨_,rfl,r⟩
 |_,_,i+1,x,.cons _ t,e=>by obtain⟨u,b,a⟩:=Vals.get t (by simpa using e);exact⟨u,by simpa using b,a⟩
theorem Vals.append:∀{xs ys:bb V} {us ws:bb Pq},Vals xs us->Vals ys ws->Vals (xs++ys) (us++ws)
 |_,_,_,_,.nil,s=>s
 |_,_,_,_,.cons r t,s=>.cons r (Vals.append t s)
theorem Vals.take:∀{xs:bb V} {us:bb Pq} (n:Nat),Vals xs us->Vals (xs.take n) (us.take n)
 |_,_,0,_=>.nil
 |_,_,_+1,.nil=>.nil
 |_,_,n+1,.cons r t=>.cons r (Vals.take n t)
theorem Vals.drop:∀{xs:bb V} {us:bb Pq} (n:Nat),Vals xs us->Vals (xs.drop n) (us.drop n)
 |_,_,0,r=>r
 |_,_,_+1,.nil=>.nil
 |_,_,n+1,.cons _ t=>Vals.drop n t
def UR:bg V->bg Pq->Prop
 |some v,Bn u=>RelV v u
 |none,Pn=>True
 |_,_=>False
def KV:bb (κ×V)->bb (κ×Pq)->Prop:=Paired λ(p:κ×V) (q:κ×Pq)=>p.1=q.1/\RelV p.2 q.2
def kV:cT->V
 |.inl i=>.int i
 |.inr x=>.str x
inductive HO where
 |lst (xs:bb V)
 |tup (xs:bb V)
 |dK (Qk:bb (cT×V))|dT (Qk:bb (bb cT×V))
 |set (S:Int->Bool) (n:Nat)
 |ins (C dx:Pz) (fs:bb (Str×V))
 |own (x:Pz)
 |xd (fs:bb (Str×V))
 |met (f x:Pz)
 |rng (lo hi:Int)
 |frz (o:Obj) (u:HO)
 |tbl (ps:Array Pq)
 |ext (φ:Heap->Prop)
 |exw (φ:Qt->Heap->Prop)
abbrev Hp:=Pz->bg HO
def bS(H:Hp)(a:Pz)(o:HO):Hp:=λb=>if b=a then Bn o else H b
theorem aJ:bS H a o a=Bn o:=by unfold bS;rw[av rfl]
theorem a9(h:b≠a):bS H a o b=H b:=by unfold bS;rw[ax h]
theorem MQ{H:Hp}{a b:Pz}{o u:HO}(h:H a=Bn o)(h':H b=Bn u)(d:o≠u):a≠b:=by intro e;subst e;rw[h]at h';exact d (P4 h')
theorem cg{H:Hp}(h:H a=Bn o)(h':H b=Pn):a≠b:=by intro e;subst e;rw[h]at h';cases h'
def VU(h:Heap)(a:Pz)(b:Array Pq):Prop:=∃o,h.get? a=Bn o/\(o.cls=.type "tuple"/\∃n,o.data=.seq b n)/\o.dict=Pn
theorem VU.tup(x:VU h a items):IsTup h a items:=let⟨o,e,c,_⟩:=x;⟨o,e,c⟩
theorem VU.lt(x:VU h a items):a<h.objs.size:=let⟨_,e,_⟩:=x;bP e
theorem VU.new(h:Heap)(xs:Array Pq):VU (h.push {cls:=.type "tuple",data:=.seq xs}) h.objs.size xs:=⟨_,b0 _ rfl,⟨rfl,_,rfl⟩,rfl⟩
section
variable(P:Qc)(w:Qt)
def ObjOk(H:Hp)(h:Heap)(a:Pz):HO->Prop
 |.lst xs=>xs.length<=PZ/\∃(b:bb Pq) (n:Nat),Vals xs b/\h.get? a=Bn {cls:=.type "list",data:=.seq b.toArray n}
 |.tup xs=>xs.length<=PZ/\∃b:bb Pq,Vals xs b/\VU h a b.toArray
 |.dK Qk=>Qk.length<=PZ/\(a==SE)=Py/\∃vs,KV Qk vs/\h.DictOf (cY P w) a vs
 |.dT Qk=>Qk.length<=PZ/\(a==SE)=Py/\∃xs:bb (bb cT×Pz×Pq),
   Paired (λ(p:bb cT×V) (q:bb cT×Pz×Pq)=>p.1=q.1/\H q.2.1=Bn (.tup (p.1.map kV))/\RelV p.2 q.2.2) Qk xs/\
   ∃o es ep,h.get? a=Bn o/\o.ExactDict/\o.data=.dict es ep/\es.toList=xs.map (entryOfKey (tupleKind (cY P w)))/\(xs.map (·.1)).Nodup
 |.set S n=>h.SetOf (intKind P w) a S n
 |.ins C dx fs=>H dx=Bn (.own a)/\fs.length<=1000/\dx≠a/\h.get? a=Bn (RF C dx)/\
   ∃mA,h.Ns1 dx mA/\(∀f,UR (fs.lookup f) (mA f))/\Xd mA (fs.map (·.1))
 |.own _=>∃o,h.get? a=Bn o
 |.xd fs=>∃mA,h.Ns1 a mA/\∀f,UR (fs.lookup f) (mA f)
 |.rng lo hi=>∃t u v,h.get? a=Bn {cls:=.type "range",data:=.fields #[.int lo t,.int hi u,.int 1 v]}
 |.frz o u=>h.get? a=Bn o/\ObjOk H h a u
 |.tbl ps=>h.get? a=Bn {cls:=.none,data:=.fields ps}
 |.met f x=>h.get? a=Bn (Vh (.ref f) (.ref x))
 |.ext φ=>φ h/\(∃o,h.get? a=Bn o)/\∀h1 h2:Heap,φ h1->(∀o,h1.get? a=Bn o->h2.get? a=Bn o)->φ h2
 |.exw φ=>φ w h/\(∃o,h.get? a=Bn o)/\∀h1 h2:Heap,φ w h1->(∀o,h1.get? a=Bn o->h2.get? a=Bn o)->φ w h2
def Vf(H:Hp)(h:Heap):Prop:=∀a o,H a=Bn o->ObjOk P w H h a o
end
section
variable{P:Qc}{w:Qt}{H Z:Hp}{h h':Heap}{a:Pz}{o:HO}
theorem ObjOk.lt(x:ObjOk P w H h a o):a<h.objs.size:=by
 cases o with
 |lst xs=>obtain⟨_,_,_,_,e⟩:=x;exact bP e
 |tup xs=>obtain⟨_,_,_,p⟩:=x;exact p.lt
 |dK Qk=>obtain⟨_,_,_,_,o,_,_,e,_⟩:=x;exact bP e
 |dT Qk=>obtain⟨_,_,_,_,o,_,_,e,_⟩:=x;exact bP e
 |set S n=>obtain⟨o,_,_,_,e,_⟩:=x;exact bP e
 |ins C dx fs=>obtain⟨_,_,_,e,_⟩:=x;exact bP e
 |own y=>obtain⟨_,e⟩:=x;exact bP e
 |xd fs=>obtain⟨_,⟨_,_,_,e,_⟩,_⟩:=x;exact bP e
 |rng lo hi=>obtain⟨_,_,_,e⟩:=x;exact bP e
 |frz b u=>obtain⟨e,_⟩:=x;exact bP e
 |tbl ps=>exact bP (show h.get? a=Bn _ from x)
 |met f y=>exact bP (show h.get? a=Bn _ from x)
 |ext φ=>obtain⟨_,⟨_,e⟩,_⟩:=x;exact bP e
 |exw φ=>obtain⟨_,⟨_,e⟩,_⟩:=x;exact bP e
theorem Paired.Ub:∀{l₁:bb α} {l₂:bb β},Paired F l₁ l₂->(∀a b,F a b->G a b)->Paired G l₁ l₂
 |_,_,.nil,_=>.nil
 |_,_,.cons r t,f=>.cons (f _ _ r) (Paired.Ub t f)
theorem ObjOk.XR(x:ObjOk P w H h a o)(k:∀b u,(b=a\/H b=Bn (.own a))->h.get? b=Bn u->h'.get? b=Bn u)
  (F:∀b,H b=Bn (.own a)->Z b=Bn (.own a)) (E:∀b xs,H b=Bn (.tup xs)->Z b=Bn (.tup xs)):ObjOk P w Z h' a o:=by
 induction o with
 |lst xs=>obtain⟨z,A,n,r,e⟩:=x;exact⟨z,A,n,r,k _ _ (.inl rfl) e⟩
 |tup xs=>obtain⟨z,A,r,g,e,c⟩:=x;exact⟨z,A,r,g,k _ _ (.inl rfl) e,c⟩
 |dK Qk=>obtain⟨z,y,vs,r,g,i,j,e,c⟩:=x;exact⟨z,y,vs,r,g,i,j,k _ _ (.inl rfl) e,c⟩
 |dT Qk=>obtain⟨z,y,xs,r,g,i,j,e,c⟩:=x;exact⟨z,y,xs,Paired.Ub r λp q z=>⟨z.1,E _ _ z.2.1,z.2.2⟩,g,i,j,k _ _ (.inl rfl) e,c⟩
 |set S n=>obtain⟨g,i,j,t,e,c⟩:=x;exact⟨g,i,j,t,k _ _ (.inl rfl) e,c⟩
 |ins C dx fs=>obtain⟨d,z,ne,e,m,⟨l,i,j,G,c⟩,r⟩:=x;exact⟨F _ d,z,ne,k _ _ (.inl rfl) e,m,⟨l,i,j,k _ _ (.inr d) G,c⟩,r⟩
 |own y=>obtain⟨g,e⟩:=x;exact⟨g,k _ _ (.inl rfl) e⟩
 |xd fs=>obtain⟨m,⟨l,i,j,e,c⟩,r⟩:=x;exact⟨m,⟨l,i,j,k _ _ (.inl rfl) e,c⟩,r⟩
 |rng lo hi=>obtain⟨t,u,v,e⟩:=x;exact⟨t,u,v,k _ _ (.inl rfl) e⟩
 |frz g u B=>obtain⟨e,q⟩:=x;exact⟨k _ _ (.inl rfl) e,B q⟩
 |tbl ps=>have e:h.get? a=Bn {cls:=.none,data:=.fields ps}:=x;show h'.get? a=Bn {cls:=.none,data:=.fields ps};exact k a _ (.inl rfl) e
 |met f y=>have e:h.get? a=Bn (Vh (.ref f) (.ref y)):=x;show h'.get? a=Bn (Vh (.ref f) (.ref y));exact k a _ (.inl rfl) e
 |ext φ=>obtain⟨p,⟨o,e⟩,st⟩:=x;exact⟨st _ _ p λo q=>k _ _ (.inl rfl) q,⟨o,k _ _ (.inl rfl) e⟩,st⟩
 |exw φ=>obtain⟨p,⟨o,e⟩,st⟩:=x;exact⟨st _ _ p λo q=>k _ _ (.inl rfl) q,⟨o,k _ _ (.inl rfl) e⟩,st⟩
theorem Vf.lt(x:Vf P w H h)(e:H a=Bn o):a<h.objs.size:=(x a o e).lt
theorem Vf.fresh(x:Vf P w H h)(e:h.objs.size<=a):H a=Pn:=by
 cases q:H a with
 |none=>rfl
 |some u=>exact a5 (Qd (x.lt q) e) (RB _)
theorem Vf.kept(x:Vf P w H h)(k:∀b u,h.get? b=Bn u->h'.get? b=Bn u):Vf P w H h':=λa o e=>
 (x a o e).XR (λb u _ q=>k b u q) (λ_ q=>q) λ_ _ q=>q
theorem Vf.laid(x:Vf P w H h)(k:∀b u,h.get? b=Bn u->h'.get? b=Bn u)(f:h.objs.size<=a)(new:ObjOk P w (bS H a o) h' a o):Vf P w (bS H a o) h':=λb u e=>by
 have hn:=x.fresh f;by_cases d:b=a
 .subst d;rw[aJ]at e;cases e;exact new
 .rw[a9 d]at e;exact(x b u e).XR (λc v _ q=>k c v q) (λc q=>by rw[a9 (cg q hn)];exact q) λc xs q=>by rw[a9 (cg q hn)];exact q
end
def Rd(H:Hp)(a:Pz)(u:HO):Prop:=H a=Bn u\/∃o,H a=Bn (.frz o u)
theorem Rd.ok(r:Rd H a u)(x:Vf P w H h):ObjOk P w H h a u:=by
 rcases r with r|⟨o,r⟩
 .exact x a u r
 .obtain⟨_,q⟩:=x a _ r;exact q
def MX:bg HO->Prop
 |some (.lst _)=>True
 |some (.dK _)=>True
 |some (.dT _)=>True
 |some (.set _ _)=>True
 |some (.ins _ _ _)=>True
 |some (.ext _)=>True
 |some (.exw _)=>True
 |_=>False
section
variable{P:Qc}{w:Qt}{H:Hp}{h h':Heap}{x e:Pz}{Z:HO}
theorem Vf.write(ok:Vf P w H h)(f:MX (H x))(n:e=x\/H e=Bn (.own x))(k:∀b u,b≠e->h.get? b=Bn u->h'.get? b=Bn u)(j:∃u,h'.get? e=Bn u)
  (new:ObjOk P w (bS H x Z) h' x Z):Vf P w (bS H x Z) h':=λb u q=>by
 have d:∀c y,H c=Bn (.own y)->c≠x:=λc y r z=>by subst z;rw[r]at f;exact f
 have l:∀c xs,H c=Bn (.tup xs)->c≠x:=λc xs r z=>by subst z;rw[r]at f;exact f
 by_cases i:b=x
 .subst i;rw[aJ]at q;cases q;exact new
 .rw[a9 i]at q
  by_cases a:b=e
  .have m:H b=Bn (.own x):=by
    rcases n with z|z
    .exact a5 (a.trans z) i
    .rw[a];exact z
   rw[q]at m;cases m;obtain⟨v,o⟩:=j;exact⟨v,by rw[a];exact o⟩
  .refine(ok b u q).XR (λc v g r=>k c v ?_ r) (λc r=>by rw[a9 (d c b r)];exact r) λc xs r=>by rw[a9 (l c xs r)];exact r
   rcases g with rfl|g
   .exact a
   .rintro rfl
    rcases n with z|z
    .exact d c b g z
    .rw[g]at z;cases z;exact i rfl
end
structure Un(fs ex:bb Pz)(H H':Hp)(h h':Heap):Prop where
 keep:∀b o,h.get? b=Bn o->H b=Pn->b∉fs->b∉ex->h'.get? b=Bn o
 slot:∀b o,h.get? b=Bn o->H b=Pn->b∈fs->b∉ex->∃sl,h'.get? b=Bn {o with slots:=sl}
 free:∀b o,h.get? b=Bn o->H b=Pn->b∉ex->H' b=Pn
 there:∀b o,h.get? b=Bn o->b∉ex->∃o',h'.get? b=Bn o'
 Xj:∀b xs,H b=Bn (.tup xs)->H' b=Bn (.tup xs)
 WX:∀b o u,H b=Bn (.frz o u)->H' b=Bn (.frz o u)
 Xk:∀b ps,H b=Bn (.tbl ps)->∃more,H' b=Bn (.tbl (ps++more))
section
variable{fs fs' ex ex':bb Pz}{H H1 H2:Hp}{h h1 h2 h':Heap}{a x e:Pz}{o:HO}
theorem Un.any(u:Un fs ex H H1 h h1)(q:h.get? b=Bn ob)(n:H b=Pn)(hx:b∉ex):∃sl,h1.get? b=Bn {ob with slots:=sl}:=by
 by_cases d:b∈fs
 .exact u.slot b ob q n d hx
 .exact⟨ob.slots,u.keep b ob q n d hx⟩
theorem Un.kept(k:∀b u,h.get? b=Bn u->h'.get? b=Bn u):Un fs ex H H h h':=
 ⟨λb d q _ _ _=>k b d q,λb d q _ _ _=>⟨d.slots,k b d q⟩,λ_ _ _ n _=>n,λb d q _=>⟨d,k b d q⟩,λ_ _ q=>q,λ_ _ _ q=>q,λ_ ps q=>⟨#[],by rw[q];simp⟩⟩
theorem Un.refl:Un fs ex H H h h:=Un.kept λ_ _ q=>q
theorem Un.laid(k:∀b u,h.get? b=Bn u->h'.get? b=Bn u)(d:h.objs.size<=a)(hn:H a=Pn):Un fs ex H (bS H a o) h h' where
 keep:=λb u q _ _ _=>k b u q
 slot:=λb u q _ _ _=>⟨u.slots,k b u q⟩
 free:=λb u q n _=>by rw[a9 (P5 (Qd (bP q) d))];exact n
 there:=λb u q _=>⟨u,k b u q⟩
 Xj:=λb xs q=>by rw[a9 (cg q hn)];exact q
 WX:=λb u xs q=>by rw[a9 (cg q hn)];exact q
 Xk:=λb ps q=>⟨#[],by rw[a9 (cg q hn),q];simp⟩
theorem Un.write(f:MX (H x))(m:e=x\/H e=Bn (.own x))(k:∀b u,b≠e->h.get? b=Bn u->h'.get? b=Bn u)(g:∃u,h'.get? e=Bn u):Un fs ex H (bS H x o) h h':=by
 have i:∀b,H b=Pn->b≠x:=λb n z=>by subst z;rw[n]at f;exact f
 have j:∀b,H b=Pn->b≠e:=λb n z=>by
  subst z;rcases m with r|r
  .exact i b n r
  .rw[n]at r;cases r
 have hm:∀b u,H b=Bn u->¬MX (Bn u)->b≠x:=λb u q l z=>by subst z;rw[q]at f;exact l f
 refine⟨λb u q n _ _=>k b u (j b n) q,λb u q n _ _=>⟨u.slots,k b u (j b n) q⟩,λb u q n _=>by rw[a9 (i b n)];exact n,λb u q _=>?_,
  λb xs q=>by rw[a9 (hm b _ q λz=>z)];exact q,λb u xs q=>by rw[a9 (hm b _ q λz=>z)];exact q,λb ps q=>⟨#[],by rw[a9 (hm b _ q λz=>z),q];simp⟩⟩
 by_cases d:b=e
 .subst d;exact g
 .exact⟨u,k b u d q⟩
end
def N3(h:Heap)(H:Hp):bb Pz:=(P0 h.objs.size).filter λa=>(H a).isSome
def uQ(h:Heap)(H:Hp):Heap:=PySem.W.hideAll h (N3 h H)
theorem Ck(h:Heap)(H:Hp):(uQ h H).objs.size=h.objs.size:=PySem.W.hideAll_size _ _
theorem Gh(e:h.get? b=Bn o)(n:H b=Pn):(uQ h H).get? b=Bn o:=
 PySem.W.hideAll_get _ e λhm=>by have q:=(Q9.mp hm).2;rw[n]at q;simp at q
theorem HH(e:(uQ h H).get? b=Bn o):h.get? b=Bn o/\H b=Pn:=by
 have a:=PySem.W.of_hideAll (N3 h H) e;refine⟨a,?_⟩;cases q:H b with
 |none=>rfl
 |some x=>have hm:b∈N3 h H:=Q9.mpr ⟨Rn.mpr (bP a),by simp[q]⟩;have z:(uQ h H).get? b=Pn:=PySem.W.hideAll_none (N3 h H) hm;rw[z]at e;cases e
structure Mod(K:Po)(mg:Str->bg Pq)(base:Heap):Prop where
 Yk:K.In base
 glob:base.Ns P8 mg
 blt:∃mb,base.Ns builtinsNs mb/\∀x:Str,x≠ "__name__"->mb x=QY x
 nolimit:base.NoLimit
structure Cx where
 prog:Qc
 w:Qt
 K:Po
 mg:Str->bg Pq
 base:Heap
 A:Ql
 N:bb Str
 s₀:Px
 H₀:Hp
 env:Env
 outer:bb Env
 stack:bb Env
 ex:bb Pz
 fn:Str->Bool
 calm:Bool
 pn:bb (Pz×Obj)
 xe:Pq->Px->Prop
def C6(l:bb Env):bb Pz:=l.filterMap (·.frame)
abbrev Cx.fs(X:Cx):bb Pz:=C6 X.outer
def Og(sc:TL)(x:Str):Prop:=sc.names.lookup x=Bn .local\/sc.names.lookup x=Bn .cell\/sc.names.lookup x=Bn .free
def NY(sc:TL)(x:Str):Prop:=sc.names.lookup x=Bn .local\/sc.names.lookup x=Bn .cell
def Od(env:Env)(h:Heap)(m:Str->bg Pq)(x:Str)(u:Pq):Prop:=
 (env.kindOf x=Bn .local/\m x=Bn u)\/((env.kindOf x=Bn .cell\/env.kindOf x=Bn .free)/\∃c,env.cells.lookup x=Bn c/\h.IsCell c (Bn u))
structure Cx.Ok(X:Cx):Prop where
 mod:Mod X.K X.mg X.base
 kind:X.env.scope.kind=.function
 glob:X.env.globals=P8
 blt:X.env.builtins=builtinsNs
 above:X.s₀.heap.objs.size<=X.env.locals
 inj:∀x y c,X.env.cells.lookup x=Bn c->X.env.cells.lookup y=Bn c->x=y
 has:∀x,(X.env.kindOf x=Bn .cell\/X.env.kindOf x=Bn .free)->∃c,X.env.cells.lookup x=Bn c
 cab:∀x c,X.fn x=Pr->X.env.cells.lookup x=Bn c->X.s₀.heap.objs.size<=c
 hd:X.calm=Pr->X.A.handled=Pn
 frames:X.A.frames=Bn X.stack
 stk:X.stack=X.outer\/(X.stack=X.env::X.outer/\X.env.frame=Bn X.env.locals)
 exf:∀b∈X.ex,b≠X.env.locals/\∀x c,X.env.cells.lookup x=Bn c->c≠b
 bs:∀b o,X.base.get? b=Bn o->X.s₀.heap.get? b=Bn o/\X.H₀ b=Pn
 Za:X.base.objs.size<=X.s₀.heap.objs.size
 Yq:∀b o,X.base.get? b=Bn o->b∉X.ex
 Yt:∀b∈X.ex,b∉X.fs
 Vx:X.s₀.heap.FunFrames X.base X.outer
 ZY:∀b∈X.fs,X.H₀ b=Pn
structure Inv(X:Cx)(pins:bb (Pz×Obj))(σ:bb (bg V))(H:Hp)(s:Px):Prop where
 ok:X.Ok
 os:s.os=X.s₀.os
 bare:AllBare s.gens
 base:Un X.fs X.ex X.H₀ H X.s₀.heap s.heap
 loc:∃m,s.heap.Ns X.env.locals m/\∀(i:Nat) (x:Str) (v:V),X.N[i]?=Bn x->σ[i]?=Bn (Bn v)->Og X.env.scope x->∃u,RelV v u/\Od X.env s.heap m x u
 cell:∀x c,X.env.cells.lookup x=Bn c->∃v,s.heap.IsCell c v
 free:H X.env.locals=Pn
 UT:∀x c,X.env.cells.lookup x=Bn c->H c=Pn
 pin:∀p∈X.pn++pins,s.heap.get? p.1=Bn p.2/\H p.1=Pn/\p.1≠X.env.locals/\p.1∉X.fs/\∀v,p.2.data≠.cell v
 Ro:Vf X.prog X.w H s.heap
 len:σ.length=X.N.length
section
variable{X:Cx}{Z:bb (Pz×Obj)}{Y:bb (bg V)}{H U:Hp}{s:Px}{h':Heap}
theorem Cx.Ok.aeC(ok:X.Ok)(e:X.base.get? b=Bn o):b∉X.fs:=λa=>by have:=(ok.Vx.mem a).1;rw[e]at this;cases this
theorem Inv.bs(I:Inv X Z Y H s):∀b o,X.base.get? b=Bn o->s.heap.get? b=Bn o/\H b=Pn:=λb o e=>
 ⟨I.base.keep b o (I.ok.bs b o e).1 (I.ok.bs b o e).2 (I.ok.aeC e) (I.ok.Yq b o e),I.base.free b o (I.ok.bs b o e).1 (I.ok.bs b o e).2 (I.ok.Yq b o e)⟩
theorem Inv.bk(I:Inv X Z Y H s):∀b o,X.base.get? b=Bn o->s.heap.get? b=Bn o:=λb o e=>(I.bs b o e).1
theorem Inv.mod(I:Inv X Z Y H s):Mod X.K X.mg X.base:=I.ok.mod
theorem Inv.Xu(I:Inv X Z Y H s):X.K.In s.heap:=I.ok.mod.Yk.keeps I.bk
theorem Inv.lt(I:Inv X Z Y H s):X.env.locals<s.heap.objs.size:=let⟨_,hn,_⟩:=I.loc;hn.lt
theorem Inv.sz(I:Inv X Z Y H s):X.s₀.heap.objs.size<=s.heap.objs.size:=Qz I.ok.above (UC I.lt)
theorem Inv.aeF(I:Inv X Z Y H s)(h:s.heap.objs.size<=a):a∉X.fs:=λd=>by obtain⟨_,o,b,_⟩:=I.ok.Vx.mem d;exact a5 (Qd (bP b) (Qz I.sz h)) (RB _)
theorem Inv.cne(I:Inv X Z Y H s):∀x c,X.env.cells.lookup x=Bn c->c≠X.env.locals:=λx c e z=>by obtain⟨v,o,a,b⟩:=I.cell x c e;obtain⟨m,⟨g,h,i,d,f,_⟩,_⟩:=I.loc;rw[z,d]at a;cases a;rw[f]at b;cases b
theorem Inv.Vx(I:Inv X Z Y H s):s.heap.FunFrames X.base X.outer:=by
 have all:∀(l:bb Env),(∀b∈C6 l,b∈X.fs)->X.s₀.heap.FunFrames X.base l->s.heap.FunFrames X.base l:=by
  intro l
  induction l with
  |nil=>intro _ _;trivial
  |cons q r h=>intro g m;obtain⟨n,⟨L,o,a,hn,j,p⟩,i⟩:=m;have f:=g L (by unfold C6;rw[Tu,a];exact PH);obtain⟨sl,e⟩:=I.base.slot L o j (I.ok.ZY L f) f λz=>I.ok.Yt L z f;exact⟨n,⟨L,_,a,hn,e,p⟩,h (λb d=>g b (by unfold C6;rw[Tu,a];exact PD _ d)) i⟩
 exact all X.outer (λ_ d=>d) I.ok.Vx
theorem Inv.stack(I:Inv X Z Y H s):s.heap.FunFrames X.base X.stack:=by
 rcases I.ok.stk with e|⟨e,hf⟩
 .rw[e];exact I.Vx
 .rw[e];obtain⟨m,hn,_⟩:=I.loc;refine .cons (by rw[I.ok.kind];decide) hf hn ?_ I.Vx;exact Heap.get?_none_of_le (Qz I.ok.Za I.ok.above)
theorem Inv.XX(I:Inv X Z Y H s):∀b∈C6 X.stack,b∈X.env.locals::X.fs:=λb a=>by
 rcases I.ok.stk with e|⟨e,hf⟩
 .rw[e]at a;exact PD _ a
 .rw[e]at a;unfold C6 at a;rw[Tu,hf]at a;exact a
theorem Inv.Ya(I:Inv X Z Y H s):∀b∈C6 X.stack,H b=Pn:=λb a=>by
 rcases P1.mp (I.XX b a)with e|a
 .rw[e];exact I.free
 .obtain⟨_,o,d,_⟩:=I.ok.Vx.mem a;exact I.base.free b o d (I.ok.ZY b a) λz=>I.ok.Yt b z a
theorem Inv.step{g':Array Vq}{t':Nat}{d':Xw}{ch:bb Pz}(I:Inv X Z Y H s)
  (C:∀b∈ch,(b∈X.ex\/X.s₀.heap.objs.size<=b)/\b≠X.env.locals/\(∀x c,X.env.cells.lookup x=Bn c->c≠b)/\∀p∈X.pn++Z,p.1≠b)
  (keep:∀b o,b≠X.env.locals->b∉X.fs->b∉ch->s.heap.get? b=Bn o->H b=Pn->h'.get? b=Bn o)
  (slot:∀b o,b≠X.env.locals->b∈X.fs->b∉ch->s.heap.get? b=Bn o->H b=Pn->∃sl,h'.get? b=Bn {o with slots:=sl}) (free:∀b o,b∉ch->s.heap.get? b=Bn o->H b=Pn->U b=Pn)
  (there:∀b o,b∉ch->s.heap.get? b=Bn o->∃o',h'.get? b=Bn o')
  (Xj:∀b xs,H b=Bn (.tup xs)->U b=Bn (.tup xs)) (WX:∀b o u,H b=Bn (.frz o u)->U b=Bn (.frz o u)) (Xk:∀b ps,H b=Bn (.tbl ps)->∃more,U b=Bn (.tbl (ps++more)))
  (L:∀m,s.heap.Ns X.env.locals m->h'.Ns X.env.locals m) (R:Vf X.prog X.w U h') (P:AllBare g'):
  Inv X Z Y U {s with heap:=h',gens:=g',drawn:=d',toks:=t'}:=by
 have y:∀b o,X.s₀.heap.get? b=Bn o->b≠X.env.locals:=λb o e=>P5 (Qd (bP e) I.ok.above);have g:∀b o,X.s₀.heap.get? b=Bn o->b∉X.ex->b∉ch:=λb o e a j=>by
  rcases(C b j).1 with z|z
  .exact a z
  .exact a5 (Qd (bP e) z) (RB _)
 have f:∀x c,X.env.cells.lookup x=Bn c->∀v,s.heap.IsCell c v->h'.IsCell c v:=λx c e v ⟨o,t,F⟩=>by
  have B:c∉ch:=λz=>(C c z).2.2.1 x c e rfl;by_cases K:c∈X.fs
  .obtain⟨sl,q⟩:=slot c o (I.cne x c e) K B t (I.UT x c e);exact⟨_,q,F⟩
  .exact⟨o,keep c o (I.cne x c e) K B t (I.UT x c e),F⟩
 refine⟨I.ok,I.os,P,⟨λb o e n j a=>?_,λb o e n j a=>?_,λb o e n a=>?_,λb o e a=>?_,λb xs e=>Xj b xs (I.base.Xj b xs e),λb o xs e=>WX b o xs (I.base.WX b o xs e),λb ps e=>?_⟩,?_,λx c e=>?_,?_,λx c e=>?_,λp J=>?_,R,I.len⟩
 .exact keep b o (y b o e) j (g b o e a) (I.base.keep b o e n j a) (I.base.free b o e n a)
 .obtain⟨sl,h⟩:=I.base.slot b o e n j a;obtain⟨E,A⟩:=slot b _ (y b o e) j (g b o e a) h (I.base.free b o e n a);exact⟨E,A⟩
 .obtain⟨o',h⟩:=I.base.there b o e a;exact free b o' (g b o e a) h (I.base.free b o e n a)
 .obtain⟨o',h⟩:=I.base.there b o e a;exact there b o' (g b o e a) h
 .obtain⟨N,h⟩:=I.base.Xk b ps e;obtain⟨M,A⟩:=Xk b _ h;exact⟨N++M,by rw[A,Array.append_assoc]⟩
 .obtain⟨m,hn,O⟩:=I.loc
  refine⟨m,L m hn,λi x v h A Q=>?_⟩;obtain⟨u,r,l⟩:=O i x v h A Q;refine⟨u,r,?_⟩;rcases l with l|⟨k,c,e,z⟩
  .exact .inl l
  .exact .inr ⟨k,c,e,f x c e _ z⟩
 .obtain⟨v,z⟩:=I.cell x c e;exact⟨v,f x c e v z⟩
 .obtain⟨m,⟨o,_,_,t,_⟩,_⟩:=I.loc;exact free _ o (λz=>(C _ z).2.1 rfl) t I.free
 .obtain⟨v,o,t,F⟩:=I.cell x c e;exact free c o (λz=>(C c z).2.2.1 x c e rfl) t (I.UT x c e)
 .obtain⟨e,n,ne,G,d⟩:=I.pin p J;have B:p.1∉ch:=λz=>(C p.1 z).2.2.2 p J rfl;exact⟨keep p.1 p.2 ne G B e n,free p.1 p.2 B e n,ne,G,d⟩
theorem Inv.un{t':Nat}(I:Inv X Z Y H s)(u:Un X.fs [] H U s.heap h')(l:Vf X.prog X.w U h'):Inv X Z Y U {s with heap:=h',toks:=t'}:=by obtain⟨m,⟨o,t,v,f,r⟩,_⟩:=id I.loc;obtain⟨sl,i⟩:=u.any f I.free (by simp);exact I.step (g':=s.gens) (d':=s.drawn) (ch:=[]) (λ_ z=>nomatch z) (λb o _ a _ e n=>u.keep b o e n a (by simp)) (λb o _ a _ e n=>u.slot b o e n a (by simp)) (λb o _ e n=>u.free b o e n (by simp)) (λb o _ e=>u.there b o e (by simp)) u.Xj u.WX u.Xk (λq hm=>by obtain⟨p,j,d,g,h⟩:=hm;rw[f]at g;cases g;exact⟨_,j,d,i,h⟩) l I.bare
theorem Inv.call{g':Array Vq}{t':Nat}{d':Xw}{ch:bb Pz}(I:Inv X Z Y H s)(u:Un (C6 X.stack) ch H U s.heap h')(v:Vf X.prog X.w U h')(l:AllBare g')
  (i:∀b∈ch,(b∈X.ex\/X.s₀.heap.objs.size<=b)/\b≠X.env.locals/\(∀x c,X.env.cells.lookup x=Bn c->c≠b)/\∀p∈X.pn++Z,p.1≠b):
  Inv X Z Y U {s with heap:=h',gens:=g',drawn:=d',toks:=t'}:=by
 obtain⟨m,⟨o,B,C,g,r⟩,_⟩:=id I.loc;obtain⟨sl,d⟩:=u.any g I.free λz=>(i _ z).2.1 rfl;exact I.step (ch:=ch) i (λb o d q a e n=>u.keep b o e n (λz=>(P1.mp (I.XX b z)).elim d q) a) (λb o _ _ a e n=>u.any e n a) (λb o a e n=>u.free b o e n a) (λb o a e=>u.there b o e a) u.Xj u.WX u.Xk (λA hm=>by obtain⟨y,t,f,h,j⟩:=hm;rw[g]at h;cases h;exact⟨_,t,f,d,j⟩) v l
theorem Inv.turned{t':Nat}{a:Pz}(I:Inv X Z Y H s)(k:∀b o,b≠a->s.heap.get? b=Bn o->h'.get? b=Bn o)(hn:H a=Pn)(g:a≠X.env.locals)
  (h1:a∈X.ex\/X.s₀.heap.objs.size<=a) (l:∀x c,X.env.cells.lookup x=Bn c->c≠a) (j:∀p∈X.pn++Z,p.1≠a):Inv X Z Y H {s with heap:=h',toks:=t'}:=by
 have f:∀b u,H b=Bn u->b≠a:=λb u e z=>by rw[z,hn]at e;cases e
 refine I.step (g':=s.gens) (d':=s.drawn) (ch:=[a]) (λb i=>?_) (λb o _ _ d e _=>k b o (λz=>d (by simp[z])) e) (λb o _ _ d e _=>⟨o.slots,k b o (λz=>d (by simp[z])) e⟩) (λ_ _ _ _ n=>n)
  (λb o d e=>⟨o,k b o (λz=>d (by simp[z])) e⟩) (λ_ _ e=>e) (λ_ _ _ e=>e) (λb ps e=>⟨#[],by rw[e];simp⟩) (λm hm=>?_) (λb u e=>?_) I.bare
 .have e:b=a:=by simpa using i
  subst e;exact⟨h1,g,l,j⟩
 .obtain⟨o,t,w,h,r⟩:=hm;exact⟨o,t,w,k _ o (da g) h,r⟩
 .refine(I.Ro b u e).XR (λc v d q=>k c v ?_ q) (λ_ q=>q) λ_ _ q=>q
  rcases d with z|z
  .rw[z];exact f b u e
  .exact f c _ z
theorem Inv.tok(I:Inv X Z Y H s)(t:Nat):Inv X Z Y H {s with toks:=t}:=I.un Un.refl I.Ro
theorem Inv.kept{t':Nat}(I:Inv X Z Y H s)(k:∀b u,s.heap.get? b=Bn u->h'.get? b=Bn u):Inv X Z Y H {s with heap:=h',toks:=t'}:=I.un (Un.kept k) (I.Ro.kept k)
theorem Inv.laid{a:Pz}{o:HO}{t':Nat}(I:Inv X Z Y H s)(k:∀b u,s.heap.get? b=Bn u->h'.get? b=Bn u)(d:s.heap.objs.size<=a)(new:ObjOk X.prog X.w (bS H a o) h' a o):
  Inv X Z Y (bS H a o) {s with heap:=h',toks:=t'}:=I.un (Un.laid k d (I.Ro.fresh d)) (I.Ro.laid k d new)
theorem Inv.write{x e:Pz}{o:HO}{t':Nat}(I:Inv X Z Y H s)(d:MX (H x))(f:e=x\/H e=Bn (.own x))(k:∀b u,b≠e->s.heap.get? b=Bn u->h'.get? b=Bn u)(a:∃u,h'.get? e=Bn u)
  (new:ObjOk X.prog X.w (bS H x o) h' x o):Inv X Z Y (bS H x o) {s with heap:=h',toks:=t'}:=I.un (Un.write d f k a) (I.Ro.write d f k a new)
theorem Inv.Yb(I:Inv X Z Y H s)(h:∀p∈ab6,s.heap.get? p.1=Bn p.2/\H p.1=Pn/\p.1≠X.env.locals/\p.1∉X.fs/\∀v,p.2.data≠.cell v):Inv X ab6 Y H s:=
 ⟨I.ok,I.os,I.bare,I.base,I.loc,I.cell,I.free,I.UT,λp a=>(Qm.mp a).elim (λz=>I.pin p (XZ _ z)) (h p),I.Ro,I.len⟩
theorem xj{N:bb Str}(d:N.Nodup){i j:Nat}(a:N[i]?=Bn x)(b:N[j]?=Bn x):i=j:=by obtain⟨h,f⟩:=Pu.mp a;obtain⟨g,e⟩:=Pu.mp b;exact(List.getElem_inj d).mp (f.trans e.symm)
theorem ub{M:Model}{A:Ql}{E:Pq->Px->Prop}{i:Nat}{x:Str}{v:V}{u:Pq}{Q:Unit->Px->Prop}(I:Inv X Z Y H s)(hN:X.N.Nodup)(hi:X.N[i]?=Bn x)(hx:NY X.env.scope x)(r:RelV v u)
  (h:∀s',Inv X Z (Y.set i (Bn v)) H s'->(∃a,Heap.SameBut a s.heap s'.heap/\(a=X.env.locals\/X.env.cells.lookup x=Bn a))->Q () s') (hf:X.fn x=Pr\/X.env.scope.names.lookup x=Bn .local:=by first|exact .inl rfl|exact .inr rfl|assumption):wpAny M A (storeName X.env x u) Q E s:=by
 obtain⟨m,hn,hl⟩:=id I.loc;have adN:(X.env.scope.kind==.class||(X.env.scope.kind==.module&&X.env.locals !=X.env.globals))=Py:=by rw[I.ok.kind];rfl
 have hiσ:i<Y.length:=by rw[I.len];exact(Pu.mp hi).1
 have cne:=I.cne;have tracked:∀{a:Pz} {h':Heap},(∃o,s.heap.get? a=Bn o/\H a=Pn)->Heap.SameBut a s.heap h'->Vf X.prog X.w H h':=λ{a h'} ha hs b ob e=>by
  obtain⟨_,_,ZN⟩:=ha;refine(I.Ro b ob e).XR (λc w' hc q=>(hs.2 c ?_).trans q) (λ_ q=>q) λ_ _ q=>q;rintro rfl;rcases hc with rfl|hc
  .rw[ZN]at e;cases e
  .rw[ZN]at hc;cases hc
 rcases hx with hk|hk
 .refine wpAny_storeName_local hk hn (λh' ZW hs=>?_) adN
  obtain⟨oL,_,_,hoL,_⟩:=id hn;refine h _ ⟨I.ok,I.os,I.bare,⟨λb o e n hb hx=>?_,λb o e n hb hx=>?_,I.base.free,λb o e hx=>?_,I.base.Xj,I.base.WX,I.base.Xk⟩,⟨_,ZW,λj y v' e1 e2 e3=>?_⟩,λy c e=>?_,I.free,I.UT,λp hp=>?_,tracked ⟨oL,hoL,I.free⟩ hs,by simpa using I.len⟩ ⟨_,hs,.inl rfl⟩
  .exact(hs.2 b (P5 (Qd (bP e) I.ok.above))).trans (I.base.keep b o e n hb hx)
  .obtain⟨sl,e1⟩:=I.base.slot b o e n hb hx;exact⟨sl,(hs.2 b (P5 (Qd (bP e) I.ok.above))).trans e1⟩
  .obtain⟨o',e1⟩:=I.base.there b o e hx;exact⟨o',(hs.2 b (P5 (Qd (bP e) I.ok.above))).trans e1⟩
  .by_cases hj:j=i
   .subst hj;rw[hi]at e1;cases e1;rw[QI hiσ]at e2;cases e2;exact⟨u,r,.inl ⟨hk,by simp⟩⟩
   .rw[Qv (da hj)]at e2
    obtain⟨u',r',q⟩:=hl j y v' e1 e2 e3;refine⟨u',r',?_⟩;rcases q with⟨k,e⟩|⟨k,c,e,z⟩
    .refine .inl ⟨k,?_⟩;have:y≠x:=λe=>hj (xj hN e1 (e▸hi));simp[this,e]
    .exact .inr ⟨k,c,e,z.sameBut hs (cne y c e)⟩
  .obtain⟨w',z⟩:=I.cell y c e;exact⟨w',z.sameBut hs (cne y c e)⟩
  .obtain⟨e,n,ne,nf,d⟩:=I.pin p hp;exact⟨(hs.2 p.1 ne).trans e,n,ne,nf,d⟩
 .have hfn:X.fn x=Pr:=by
   rcases hf with z|z
   .exact z
   .rw[z]at hk;cases hk
  obtain⟨c,hc⟩:=I.ok.has x (.inl hk);obtain⟨w',z⟩:=I.cell x c hc;refine wpAny_storeName_cell I.ok.kind hk hc z (λh' Xv hs=>?_);obtain⟨oc,hoc,ad7⟩:=id z;refine h {s with heap:=h'} ⟨I.ok,I.os,I.bare,⟨λb o e n hb hx=>?_,λb o e n hb hx=>?_,I.base.free,λb o e hx=>?_,I.base.Xj,I.base.WX,I.base.Xk⟩,⟨m,hn.sameBut hs (da (cne x c hc)),λj y v' e1 e2 e3=>?_⟩,λy c' e=>?_,I.free,I.UT,λp hp=>?_,tracked ⟨oc,hoc,I.UT x c hc⟩ hs,by simpa using I.len⟩ ⟨c,hs,.inr hc⟩
  .exact(hs.2 b (P5 (Qd (bP e) (I.ok.cab x c hfn hc)))).trans (I.base.keep b o e n hb hx)
  .obtain⟨sl,e1⟩:=I.base.slot b o e n hb hx;exact⟨sl,(hs.2 b (P5 (Qd (bP e) (I.ok.cab x c hfn hc)))).trans e1⟩
  .obtain⟨o',e1⟩:=I.base.there b o e hx;exact⟨o',(hs.2 b (P5 (Qd (bP e) (I.ok.cab x c hfn hc)))).trans e1⟩
  .by_cases hj:j=i
   .subst hj;rw[hi]at e1;cases e1;rw[QI hiσ]at e2;cases e2;exact⟨u,r,.inr ⟨.inl hk,c,hc,Xv⟩⟩
   .rw[Qv (da hj)]at e2
    obtain⟨u',r',q⟩:=hl j y v' e1 e2 e3;refine⟨u',r',?_⟩;rcases q with q|⟨k,c',e,z'⟩
    .exact .inl q
    .refine .inr ⟨k,c',e,z'.sameBut hs ?_⟩;rintro rfl;exact hj (xj hN e1 (I.ok.inj _ _ _ e hc▸hi))
  .by_cases hcc:c'=c
   .subst hcc;exact⟨_,Xv⟩
   .obtain⟨w2,z2⟩:=I.cell y c' e;exact⟨w2,z2.sameBut hs hcc⟩
  .obtain⟨e,n,ne,nf,d⟩:=I.pin p hp;refine⟨(hs.2 p.1 ?_).trans e,n,ne,nf,d⟩;intro q;rw[q,hoc]at e;have q':oc=p.2:=P4 e;exact d w' (by rw[<-q'];exact ad7)
theorem xS{i:Nat}{v:V}{u:Pq}{Q:Unit->Px->Prop}(I:Inv X Z Y H s)(hN:X.N.Nodup)(hi:X.N[i]?=Bn x)(hx:NY X.env.scope x)(r:RelV v u)
  (h:∀s',Inv X Z (Y.set i (Bn v)) H s'->Q () s') (hf:X.fn x=Pr\/X.env.scope.names.lookup x=Bn .local:=by first|exact .inl rfl|exact .inr rfl|assumption):wpAny M A (storeName X.env x u) Q E s:=
 ub I hN hi hx r (λs' I' _=>h s' I') hf
theorem Inv.ab5{a:Px}{ch:bb Pz}(I:Inv X Z Y H s)(f:a.os=s.os)(u:Un (C6 X.stack) ch H U s.heap a.heap)(i:Vf X.prog X.w U a.heap)(g:AllBare a.gens)
  (h:∀b∈ch,(b∈X.ex\/X.s₀.heap.objs.size<=b)/\b≠X.env.locals/\(∀x c,X.env.cells.lookup x=Bn c->c≠b)/\∀p∈X.pn++Z,p.1≠b):Inv X Z Y U a:=by
 obtain⟨h',g',d',t',d⟩:=a;have e:d=s.os:=f;subst e;exact I.call (g':=g') (t':=t') (d':=d') u i g h
end
abbrev XK:=Pq->bg Pz->Hp->Prop
abbrev St:=bb (bg V)
abbrev VK:=V->Hp->Prop
abbrev TE:=St->Hp->VK->Prop
abbrev TT:=St->Hp->(Bool->Hp->Prop)->Prop
abbrev TA:=St->Hp->(bb V->Hp->Prop)->Prop
structure Ends where
 nx:St->Hp->Prop
 rt:VK
 bk:St->Hp->Prop:=λ_ _=>False
 ct:St->Hp->Prop:=λ_ _=>False
abbrev TS:=Ends->St->Hp->Prop
def EP(X:Cx)(a:bb (Pz×Obj))(b:St)(Q:VK)(u:Pq)(d:Px):Prop:=∃v H',Inv X a b H' d/\RelV v u/\Q v H'
def TP(X:Cx)(a:bb (Pz×Obj))(d:St)(Q:Bool->Hp->Prop)(b:Bool)(e:Px):Prop:=∃H',Inv X a d H' e/\Q b H'
def AP(X:Cx)(a:bb (Pz×Obj))(b:St)(Q:bb V->Hp->Prop)(us:bb Pq)(d:Px):Prop:=∃vs H',Inv X a b H' d/\Vals vs us/\Q vs H'
def SP(X:Cx)(a:bb (Pz×Obj))(D:Ends)(f:Flow)(b:Px):Prop:=
 match f with
 |.next=>∃σ' H',Inv X a σ' H' b/\D.nx σ' H'
 |.brk=>∃σ' H',Inv X a σ' H' b/\D.bk σ' H'
 |.cont=>∃σ' H',Inv X a σ' H' b/\D.ct σ' H'
 |.ret u=>∃v σ' H',Inv X a σ' H' b/\RelV v u/\D.rt v H'
def PE(X:Cx)(e:QK)(t:TE):Prop:=
 ∀(a:bb (Pz×Obj)) (s:Px) (b:St) (H:Hp) (Q:VK),Inv X a b H s->t b H Q->wpAny (model X.prog X.w) X.A (eval e X.env) (EP X a b Q) X.xe s
def PT(X:Cx)(e:QK)(t:TT):Prop:=
 ∀(a:bb (Pz×Obj)) (s:Px) (b:St) (H:Hp) (Q:Bool->Hp->Prop),Inv X a b H s->t b H Q->wpAny (model X.prog X.w) X.A (isTrue e X.env (eval e X.env)) (TP X a b Q) X.xe s
def PW(X:Cx)(e:QK)(t:TT):Prop:=
 ∀(b:Sem Pq) (a:bb (Pz×Obj)) (s:Px) (d:St) (H:Hp) (Q:Bool->Hp->Prop),Inv X a d H s->t d H Q->wpAny (model X.prog X.w) X.A (isTrue e X.env b) (TP X a d Q) X.xe s
theorem PW.pt(h:PW X e t):PT X e t:=h _
def PA(X:Cx)(e:bb QK)(t:TA):Prop:=
 ∀(d:Pos) (a:bb (Pz×Obj)) (s:Px) (b:St) (H:Hp) (Q:bb V->Hp->Prop),Inv X a b H s->t b H Q->wpAny (model X.prog X.w) X.A (spliced (backTo d (Qp e X.env))) (AP X a b Q) X.xe s
def PS(X:Cx)(st:Sr)(t:TS):Prop:=
 ∀(a:bb (Pz×Obj)) (s:Px) (b:St) (H:Hp) (D:Ends),Inv X a b H s->t D b H->wpAny (model X.prog X.w) X.A (exec st X.env) (SP X a D) X.xe s
def Wm(X:Cx)(st:bb Sr)(t:TS):Prop:=
 ∀(a:bb (Pz×Obj)) (s:Px) (b:St) (H:Hp) (D:Ends),Inv X a b H s->t D b H->wpAny (model X.prog X.w) X.A (execs st X.env) (SP X a D) X.xe s
theorem dF{α:Type}{t:Sem α}{Q b:α->Px->Prop}{M:Model}{A:Ql}{E:Pq->Px->Prop}{s:Px}(h:wpAny M A t Q E s)(d:∀a s,Q a s->b a s):wpAny M A t b E s:=wpAny_mono h d λ_ _ x=>x
section
variable{X:Cx}
def CM(i:Nat):TE:=λa H Q=>∃v,a[i]?=Bn (Bn v)/\Q v H
def tC(v:V):TE:=λ_ H Q=>Q v H
theorem Kg(p:X.N[i]?=Bn x)(n:Og X.env.scope x)(hd:(x==("__debug__":Str))=Py:=by decide)(q:(x==("__classdict__":Str))=Py:=by decide):PE X (.Name x pos) (CM i):=by
 intro d s j H Q I h;obtain⟨v,e,h⟩:=h;obtain⟨m,hn,o⟩:=I.loc;obtain⟨u,r,l⟩:=o i x v p e n;have b:EP X d j Q u s:=⟨v,H,I,r,h⟩;rcases l with⟨a,hm⟩|⟨a,c,f,g⟩
 .exact Z0 (wpAny_loadName_local I.ok.kind a hn hm b) hd
 .rcases a with a|a
  .exact Z0 (wpAny_loadName_cell I.ok.kind a f g b) hd
  .exact Z0 (wpAny_loadName_free I.ok.kind a f g b q) hd
theorem aN{i j pos}:PE X (.Constant (.int i) j pos) (tC (.int i)):=λ_ _ _ H _ I h=>Z7 ⟨.int i,H,I.tok _,⟨_,rfl⟩,h⟩
theorem oZ{b j pos}:PE X (.Constant (.bool b) j pos) (tC (.bl b)):=λ_ _ _ H _ I h=>Constant_bool ⟨.bl b,H,I,rfl,h⟩
theorem jK{j pos}:PE X (.Constant .none j pos) (tC .Sz):=λ_ _ _ H _ I h=>Constant_none ⟨.Sz,H,I,rfl,h⟩
theorem ix{x j pos}:PE X (.Constant (.str x) j pos) (tC (.str x)):=λ_ _ _ H _ I h=>Calls.Constant_str ⟨.str x,H,I.tok _,⟨_,rfl⟩,h⟩
def Gl(X:Cx)(x:Str):Prop:=X.env.kindOf x=Bn .globalImplicit
theorem wz(I:Inv X pins σ H s)(a:Gl X x)(hm:X.mg x=Bn u)(h:Q u s)
  (hd:(x==("__debug__":Str))=Py:=by decide):wpAny (model X.prog X.w) X.A (eval (.Name x pos) X.env) Q E s:=
 Calls.Name_function_global I.ok.kind a (Calls.loadGlobal_global (by rw[I.ok.glob];exact I.mod.glob.keeps I.bk) hm h) hd
theorem rX(I:Inv X pins σ H s)(b:Gl X x)(hm:X.mg x=Pn)(a:QY x=Bn u)(h:Q u s)
  (hn:x≠ "__name__":=by decide) (hd:(x==("__debug__":Str))=Py:=by decide):wpAny (model X.prog X.w) X.A (eval (.Name x pos) X.env) Q E s:=by
 obtain⟨f,e,d⟩:=I.mod.blt;exact Calls.Name_function_global I.ok.kind b (Calls.loadGlobal_builtin (by rw[I.ok.glob];exact I.mod.glob.keeps I.bk) hm (by rw[I.ok.blt];exact e.keeps I.bk) ((d x hn).trans a) h) hd
theorem GR{x:Str}{v:V}{u:Pq}{a:Pos}(b:Gl X x)(hm:X.mg x=Bn u)(r:RelV v u)(hd:(x==("__debug__":Str))=Py:=by decide):PE X (.Name x a) (tC v):=
 λ_ _ _ H _ I h=>wz I b hm ⟨v,H,I,r,h⟩ hd
variable{a b:QK}{U Y:TE}{Z:Pos}
def PC(X:Cx)(h:CmpOp)(a b:QK)(t:TE):Prop:=
 ∀(d:bb (Pz×Obj)) (s:Px) (g:St) (H:Hp) (Q:VK),Inv X d g H s->t g H Q->
  wpAny (model X.prog X.w) X.A (eval a X.env) (λv f=>wpAny (model X.prog X.w) X.A (eval b X.env) (λu e=>wpAny (model X.prog X.w) X.A (RG h v u) (EP X d g Q) X.xe e) X.xe f) X.xe s
def tB(t:TE):TT:=λd H Q=>t d H λx e=>∃c,x=.bl c/\Q c e
theorem LN(h:PC X op a b t)(h1:behindInMarks op b=Py:=by first|exact aca _ (by decide) (by decide)|rfl):PT X (.Compare a [op] [b] Z) (tB t):=by intro e s f H Q I j;refine Y6 (dF (h e s f H _ I j) λv r h1=>dF h1 λu p l=>dF l λc o ⟨x,n,m,g,i⟩=>?_) h1;obtain⟨d,rfl,q⟩:=i;cases g;exact Ry ⟨n,m,q⟩
theorem vd{e:QK}{t:TE}(h:PE X e t)(m:∀whole,isTrue e X.env whole=(do let v<-whole;standAt e.pos;holding [v] (truthy v)):=by intro _;rfl):PT X e (tB t):=by intro f s g H Q I l;refine isTrue_plain (dF (h f s g H _ I l) λv p ⟨x,o,n,i,j⟩=>?_) (m _);obtain⟨d,rfl,q⟩:=j;cases i;exact Ry ⟨o,n,q⟩
variable{S R:TT}{T:bb QK}
def Ms(t u:TT):TT:=λd H Q=>t d H λc e=>if c=Pr then u d e Q else Q Py e
def OB(t u:TT):TT:=λd H Q=>t d H λc e=>if c=Pr then Q Pr e else u d e Q
def K6(t:TT):TT:=λd H Q=>t d H λc e=>Q (!c) e
theorem gW(ha:PT X a S):PW X (.BoolOp .And [a] Z) S:=by
 intro g d s f H Q I h;refine isTrue_and (dF (ha d s f H Q I h) λc i e=>?_);cases c with
 |true=>exact isTrue_and_nil e
 |false=>exact e
theorem nU(ha:PT X a S):PW X (.BoolOp .Or [a] Z) S:=by
 intro g d s f H Q I h;refine isTrue_or (dF (ha d s f H Q I h) λc i e=>?_);cases c with
 |false=>exact isTrue_or_nil e
 |true=>exact e
theorem i8(ha:PT X a S)(m:PW X (.BoolOp .And (b::T) Z) R):PW X (.BoolOp .And (a::b::T) Z) (Ms S R):=by
 intro j d s e H Q I h;refine isTrue_and (dF (ha d s e H _ I h) λc l ⟨i,g,f⟩=>?_);cases c with
 |true=>exact m j d l e i Q g f
 |false=>exact⟨i,g,f⟩
theorem uc(ha:PT X a S)(m:PW X (.BoolOp .Or (b::T) Z) R):PW X (.BoolOp .Or (a::b::T) Z) (OB S R):=by
 intro j d s e H Q I h;refine isTrue_or (dF (ha d s e H _ I h) λc l ⟨i,g,f⟩=>?_);cases c with
 |true=>exact⟨i,g,f⟩
 |false=>exact m j d l e i Q g f
theorem yK(ha:PT X a S):PT X (.UnaryOp .Not a Z) (K6 S):=by intro d s e H Q I h;exact isTrue_not (ha d s e H (λc f=>Q (!c) f) I h)
def F3(U Y:TE):TE:=λd H Q=>U d H λx e=>∃c,x=.bl c/\if c=Pr then Y d e Q else Q (.bl Py) e
theorem wb{op}(h:PE X a t):PE X (.BoolOp op [a] Z) t:=λd s e H Q I f=>BoolOp_one (h d s e H Q I f)
theorem v5(ha:PE X a U)(m:PE X (.BoolOp .And (b::T) Z) Y):PE X (.BoolOp .And (a::b::T) Z) (F3 U Y):=by
 intro d s f H Q I h;refine BoolOp_and (dF (ha d s f H _ I h) λv j ⟨x,i,g,l,e⟩=>?_);obtain⟨c,rfl,e⟩:=e;cases l;refine Ry ?_;cases c with
 |true=>exact m d j f i Q g e
 |false=>exact⟨.bl Py,i,g,rfl,e⟩
def OC(t:TT)(U Y:TE):TE:=λd H Q=>t d H λc e=>if c=Pr then U d e Q else Y d e Q
theorem xD(m:PT X c S)(ha:PE X a U)(n:PE X b Y):PE X (.IfExp c a b Z) (OC S U Y):=by
 intro e s f H Q I h;refine wpAny_IfExp (dF (m e s f H _ I h) λd g ⟨l,j,i⟩=>?_);cases d with
 |true=>exact ha e g f l Q j i
 |false=>exact n e g f l Q j i
end
def T6(K:Po)(H:Hp)(a:Pz)(xs:bb V):Prop:=
 Rd H a (.lst xs)\/
  ∃(o:Obj) (b:Array Pq) (n:Nat),K.lookup a=Bn o/\o.cls=.type "list"/\o.dict=Pn/\o.data=.seq b n/\b.size<=PZ/\Vals xs b.toList
def Uj(K:Po)(H:Hp)(a:Pz)(xs:bb V):Prop:=
 Rd H a (.tup xs)\/
  ∃(o:Obj) (b:Array Pq) (n:Nat),K.lookup a=Bn o/\(o.cls=.type "tuple"/\o.dict=Pn)/\o.data=.seq b n/\b.size<=PZ/\Vals xs b.toList
def OM:Pq->bg V
 |.none=>Bn .Sz
 |.bool b=>Bn (.bl b)
 |.int i _=>Bn (.int i)
 |.str x _=>Bn (.str x)
 |.bytes b _=>Bn (.byt b)
 |.float b _=>Bn (.flt b)
 |.ref a=>Bn (.ref a)
 |.type n=>Bn (.ty n)
 |_=>Pn
theorem RelV.abs(r:RelV x u):OM u=Bn x:=by
 cases x with
 |Sz=>cases r;rfl
 |bl _=>cases r;rfl
 |int _=>obtain⟨t,rfl⟩:=r;rfl
 |str _=>obtain⟨t,rfl⟩:=r;rfl
 |byt _=>obtain⟨t,rfl⟩:=r;rfl
 |flt _=>obtain⟨t,rfl⟩:=r;rfl
 |ref _=>cases r;rfl
 |ty _=>cases r;rfl
theorem RelV.inj(r:RelV x u)(q:RelV y u):x=y:=P4 (r.abs.symm.trans q.abs)
theorem Vals.inj:∀{xs ys:bb V} {us:bb Pq},Vals xs us->Vals ys us->xs=ys
 |_,_,_,.nil,.nil=>rfl
 |_,_,_,.cons r t,.cons r' t'=>by rw[r.inj r',Vals.inj t t']
section
variable{X:Cx}{Z:bb (Pz×Obj)}{Y:St}{H:Hp}{s:Px}{a:Pz}{xs ys:bb V}
theorem T6.of{K:Po}(h:H a=Bn (.lst xs)):T6 K H a xs:=.inl (.inl h)
theorem Uj.of{K:Po}(h:H a=Bn (.tup xs)):Uj K H a xs:=.inl (.inl h)
theorem Inv.list(I:Inv X Z Y H s)(h:T6 X.K H a xs):∃Qw:bb Pq,Vals xs Qw/\PlainL s.heap a Qw.toArray/\xs.length<=PZ:=by
 rcases h with h|⟨o,Qw,n,hk,hc,hd,hs,hz,r⟩
 .obtain⟨z,Qw,n,r,e⟩:=h.ok I.Ro;exact⟨Qw,r,⟨_,n,e,rfl,rfl,rfl⟩,z⟩
 .refine⟨Qw.toList,r,⟨o,n,I.Xu a o hk,hc,hd,by simpa using hs⟩,?_⟩;have e:=r.length;simp only[Qf]at e;ext
theorem Inv.tuple(I:Inv X Z Y H s)(h:Uj X.K H a xs):∃Qw:bb Pq,Vals xs Qw/\IsTup s.heap a Qw.toArray/\xs.length<=PZ:=by
 rcases h with h|⟨o,Qw,n,hk,hc,hs,hz,r⟩
 .obtain⟨z,Qw,r,p⟩:=h.ok I.Ro;exact⟨Qw,r,p.tup,z⟩
 .refine⟨Qw.toList,r,⟨o,I.Xu a o hk,hc.1,n,by simpa using hs⟩,?_⟩;have e:=r.length;simp only[Qf]at e;ext
theorem Inv.aaj(I:Inv X Z Y H s)(h:Uj X.K H a xs):∃Qw:bb Pq,Vals xs Qw/\VU s.heap a Qw.toArray/\xs.length<=PZ:=by
 rcases h with h|⟨o,Qw,n,hk,hc,hs,hz,r⟩
 .obtain⟨z,Qw,r,p⟩:=h.ok I.Ro;exact⟨Qw,r,p,z⟩
 .refine⟨Qw.toList,r,⟨o,I.Xu a o hk,⟨hc.1,n,by simpa using hs⟩,hc.2⟩,?_⟩;have e:=r.length;simp only[Qf]at e;ext
theorem Inv.YT(I:Inv X Z Y H s)(h:T6 X.K H a xs)(h':T6 X.K H a ys):xs=ys:=by
 obtain⟨j,r,⟨o,n,e,_,_,d⟩,_⟩:=I.list h;obtain⟨i,g,⟨l,m,b,_,_,f⟩,_⟩:=I.list h';rw[e]at b;cases b;rw[d]at f;injection f with d1 _;have:j=i:=by simpa using di Z8 d1
 subst this;exact r.inj g
theorem Inv.Ym(I:Inv X Z Y H s)(h:Uj X.K H a xs)(h':Uj X.K H a ys):xs=ys:=by
 obtain⟨j,r,⟨o,e,_,n,d⟩,_⟩:=I.tuple h;obtain⟨i,g,⟨l,b,_,m,f⟩,_⟩:=I.tuple h';rw[e]at b;cases b;rw[d]at f;injection f with d1 _;have:j=i:=by simpa using di Z8 d1
 subst this;exact r.inj g
end
abbrev Cx.VS(X:Cx)(E:Pq->Px->Prop):Cx:={X with xe:=E}
abbrev Cx.Zn(X:Cx):Cx:=X.VS λ_ _=>False
theorem Cx.Ok.VS{X:Cx}(ok:X.Ok)(E:Pq->Px->Prop):(X.VS E).Ok:=
 ⟨ok.mod,ok.kind,ok.glob,ok.blt,ok.above,ok.inj,ok.has,ok.cab,ok.hd,ok.frames,ok.stk,ok.exf,ok.bs,ok.Za,ok.Yq,ok.Yt,ok.Vx,ok.ZY⟩
theorem Cx.Ok.Uq{X:Cx}(ok:(X.VS E).Ok):X.Ok:=
 ⟨ok.mod,ok.kind,ok.glob,ok.blt,ok.above,ok.inj,ok.has,ok.cab,ok.hd,ok.frames,ok.stk,ok.exf,ok.bs,ok.Za,ok.Yq,ok.Yt,ok.Vx,ok.ZY⟩
section
variable{X:Cx}{Z:bb (Pz×Obj)}{Y:St}{H:Hp}{s:Px}{E:Pq->Px->Prop}
theorem Inv.VS(I:Inv X Z Y H s)(E:Pq->Px->Prop):Inv (X.VS E) Z Y H s:=⟨I.ok.VS E,I.os,I.bare,I.base,I.loc,I.cell,I.free,I.UT,I.pin,I.Ro,I.len⟩
theorem Inv.Uq(I:Inv (X.VS E) Z Y H s):Inv X Z Y H s:=⟨I.ok.Uq,I.os,I.bare,I.base,I.loc,I.cell,I.free,I.UT,I.pin,I.Ro,I.len⟩
theorem SP.Uq(h:SP (X.VS E) Z D f s'):SP X Z D f s':=by
 cases f with
 |next=>obtain⟨a,b,I,q⟩:=h;exact⟨a,b,I.Uq,q⟩
 |brk=>obtain⟨a,b,I,q⟩:=h;exact⟨a,b,I.Uq,q⟩
 |cont=>obtain⟨a,b,I,q⟩:=h;exact⟨a,b,I.Uq,q⟩
 |ret u=>obtain⟨v,a,b,I,r,q⟩:=h;exact⟨v,a,b,I.Uq,r,q⟩
theorem Wm.Zn{st:bb Sr}(h:Wm X.Zn st t):Wm X st t:=λZ s Y H D I a=>
 wpAny_mono (h Z s Y H D (I.VS _) a) (λ_ _ q=>q.Uq) λ_ _ z=>False.elim z
end
section
variable{X:Cx}{st:Sr}{U:bb Sr}{t u:TS}{e:QK}{Y:TE}{Z:Pos}
def D7:TS:=λD a H=>D.nx a H
def Lx(t u:TS):TS:=λD a H=>t {D with nx:=u D} a H
theorem fu:Wm X [] D7:=λ_ _ a H _ I h=>Xe ⟨a,H,I,h⟩
theorem ar(h1:PS X st t)(i:Wm X U u):Wm X (st::U) (Lx t u):=by
 intro a s d H D I h;refine abt (dF (h1 a s d H {D with nx:=u D} I h) λf g q=>?_);cases f with
 |next=>obtain⟨b,l,j,q⟩:=q;exact i a g b l D j q
 |ret v=>exact q
 |brk=>exact q
 |cont=>exact q
theorem aI(h1:PS X st t):Wm X [st] t:=by
 intro a s b H D I h;refine abt (dF (h1 a s b H D I h) λf d q=>?_);cases f with
 |next=>exact Xe q
 |ret v=>exact q
 |brk=>exact q
 |cont=>exact q
theorem Inv.quiet{a:bb (Pz×Obj)}{b:St}{H:Hp}{s:Px}(I:Inv X a b H s):interactive X.env=Py:=by simp[interactive,I.ok.kind]
def Ec(Y:TE):TS:=λD a H=>Y a H λ_ b=>D.nx a b
theorem gD(g:PE X e Y)(f:Rz e Pn Z.line X.env=pure Py:=by rfl):PS X (.Expr e Z) (Ec Y):=by intro a s b H D I h;exact wpAny_Expr_any (dF (g a s b H _ I h) λv l ⟨x,j,i,m,d⟩=>⟨b,j,i,d⟩) I.quiet f
def Km(Y:TE):TS:=λD a H=>Y a H D.rt
theorem dk(g:PE X e Y):PS X (.Return (Bn e) Z) (Km Y):=by intro a s b H D I h;exact wpAny_Return_some (dF (g a s b H _ I h) λv l ⟨x,j,i,d,f⟩=>⟨x,b,j,i,d,f⟩)
def JF:TS:=λD _ H=>D.rt .Sz H
theorem Hs:PS X (.Return Pn Z) JF:=λ_ _ a H _ I h=>wpAny_Return_none ⟨.Sz,a,H,I,rfl,h⟩
def La(c:TT)(t u:TS):TS:=λD a H=>c a H λb d=>if b=Pr then t D a d else u D a d
theorem iI(n:PT X c tc)(ha:Wm X a t)(o:Wm X b u):PS X (.If c a b Z) (La tc t u):=by
 intro f s g H D I h;refine wpAny_If (dF (n f s g H _ I h) λd i ⟨m,l,j⟩=>?_);cases d with
 |true=>exact ha f i g m D l j
 |false=>exact o f i g m D l j
end
abbrev TG:=V->St->Hp->(St->Hp->Prop)->Prop
abbrev Kb:=bb V->St->Hp->(St->Hp->Prop)->Prop
def PG(X:Cx)(a:QK)(t:TG):Prop:=
 ∀(b:bb (Pz×Obj)) (s:Px) (d:St) (H:Hp) (v:V) (u:Pq) (Q:St->Hp->Prop),Inv X b d H s->RelV v u->t v d H Q->
  wpAny (model X.prog X.w) X.A (assign a X.env u) (λ_ e=>∃σ' H',Inv X b σ' H' e/\Q σ' H') X.xe s
def NZ(X:Cx)(e:bb QK)(t:Kb):Prop:=
 ∀(a:bb (Pz×Obj)) (s:Px) (b:St) (H:Hp) (vs:bb V) (d:bb Pq) (Q:St->Hp->Prop),Inv X a b H s->Vals vs d->t vs b H Q->
  wpAny (model X.prog X.w) X.A (assignInOrder ((assignEach e X.env).map (·.2)) d) (λ_ f=>∃σ' H',Inv X a σ' H' f/\Q σ' H') X.xe s
section
variable{X:Cx}{Z:Pos}
def ya(i:Nat):TG:=λv a H Q=>Q (a.set i (Bn v)) H
theorem a8(hN:X.N.Nodup)(hi:X.N[i]?=Bn x)(hx:NY X.env.scope x)(hf:X.fn x=Pr\/X.env.scope.names.lookup x=Bn .local:=by first|exact .inl rfl|exact .inr rfl|assumption):PG X (.Name x Z) (ya i):=by intro pins s σ H v u Q I r h;exact aaT (xS I hN hi hx r (λs' I'=>⟨_,H,I',h⟩) hf)
def Ly:Kb:=λvs a H Q=>vs=[]/\Q a H
def Fi(t:TG)(u:Kb):Kb:=λvs b H Q=>∃v r,vs=v::r/\t v b H λa d=>u r a d Q
theorem ib:NZ X [] Ly:=by intro a s b H vs d Q I r h;obtain⟨e,h⟩:=h;subst e;cases r;exact assignInOrder_nil ⟨b,H,I,h⟩
theorem cr(h1:PG X e t)(l:NZ X es u)
  (j:(assignEach (e::es) X.env).map (·.2)=assign e X.env::(assignEach es X.env).map (·.2):=by rfl):NZ X (e::es) (Fi t u):=by
 intro a s d H vs q Q I r h;obtain⟨v,p,m,h⟩:=h;subst m;cases r with
 |cons r g=>rw[j];refine assignInOrder_cons (dF (h1 a s d H _ _ _ I r h) λ_ f ⟨b,o,n,i⟩=>?_);exact l a f b o _ _ Q n g i
def L5(K:Po)(n:Nat)(t:Kb):TG:=λv b H Q=>∃a xs,v=.ref a/\Uj K H a xs/\xs.length=n/\t xs b H Q
theorem j3(p:X.calm=Pr)(h:NZ X es t)
  (hn:(assignEach es X.env).length=n:=by rfl) (d9:(assignEach es X.env).findIdx? (·.1)=Pn:=by rfl):PG X (.Tuple es k Z) (L5 X.K n t):=by
 intro d s g H v u Q I r f;obtain⟨a,xs,q,l,m,f⟩:=f;subst q;cases r;obtain⟨A,rv,j,y⟩:=I.tuple l;refine assign_Tuple_tuple (I.ok.hd p) j (by simp[hn,<-m,rv.length]) d9 λz i=>?_;have w:=I.kept (t':=s.toks) λb o e=>i b o (P5 (bP e)) e;exact h d _ g H xs _ Q w (by simpa using rv) f
def Ex(b:TE)(g:TG):TS:=λD a H=>b a H λx d=>g x a d D.nx
theorem sK(n:PE X e te)(m:PG X tg g)(l:swapsWithSole [tg] e Z.line X.env=pure Py:=by rfl)(j:swappedStores [tg] e X.env=pure Pn:=by rfl)
  (h1:(assignEach [tg] X.env).map (·.2)=[assign tg X.env]:=by rfl):PS X (.Assign [tg] e Z) (Ex te g):=by
 intro a s b H D I h;refine wpAny_Assign_stores (dF (n a s b H _ I h) λv d ⟨x,p,o,f,i⟩=>?_) l j;rw[h1];exact dF (m a d b p x v _ o f i) λ_ r q=>q
theorem i7{i:Nat}{x:Str}{e:QK}{te:TE}{pos':Pos}(hN:X.N.Nodup)(hi:X.N[i]?=Bn x)(hx:NY X.env.scope x)(he:PE X e te)(hs:Rz e (Bn (.Name x pos')) Z.line X.env=pure Py:=by rfl)(hf:X.fn x=Pr\/X.env.scope.names.lookup x=Bn .local:=by first|exact .inl rfl|exact .inr rfl|assumption):
  PS X (.Assign [.Name x pos'] e Z) (Ex te (ya i)):=by
 intro pins s σ H D I h;refine wpAny_Assign_Name (dF (he pins s σ H _ I h) λv s1 ⟨y,H1,I1,r1,q1⟩=>?_) hs;exact xS I1 hN hi hx r1 (λs2 I2=>⟨_,H1,I2,q1⟩) hf
end
structure It where
 go:Nat->Hp->Prop
 yld:Nat->Hp->V->Hp->Prop
 stop:Nat->Hp->Prop
def oA(X:Cx)(a:bb (Pz×Obj))(H:Hp)(b:Pz):Prop:=
 H b=Pn/\b≠X.env.locals/\b∉X.fs/\(b∈X.ex\/X.s₀.heap.objs.size<=b)/\(∀x c,X.env.cells.lookup x=Bn c->c≠b)/\∀p∈X.pn++a,p.1≠b
theorem Inv.Yv(I:Inv X pins σ H s)(a:s.heap.objs.size<=b)(hn:H' b=Pn):oA X pins H' b:=by
 refine⟨hn,Q0 (Qd I.lt a),I.aeF a,.inr (Qz I.sz a),λx c e z=>?_,λp d z=>?_⟩
 .obtain⟨v,q⟩:=I.cell x c e;exact a5 (Qd q.lt (by rw[z];exact a)) (RB _)
 .exact a5 (Qd (bP (I.pin p d).1) (by rw[z];exact a)) (RB _)
structure Turn(P:Qc)(w:Qt)(K:Po)(tg:QK)(J:It)(fp:bb Pz)(it:Pz)(tn:Nat->Heap->Prop):Prop where
 mem:it∈fp
 obj:∀i h,tn i h->∀b∈fp,∃o,h.get? b=Bn o/\∀v,o.data≠.cell v
 keep:∀i h h',tn i h->(∀b∈fp,∀o,h.get? b=Bn o->h'.get? b=Bn o)->tn i h'
 item:∀(X:Cx),X.prog=P->X.w=w->X.K=K->X.calm=Pr->∀(i:Nat) (pins:bb (Pz×Obj)) (s:Px) (σ:St) (H:Hp) (E:Pq->Px->Prop),Inv X pins σ H s->(∀b∈fp,oA X pins H b)->tn i s.heap->J.go i H->
  wpAny (model P w) X.A (pyNext (.ref it)) (λr s1=>∃u,r=Bn u/\
   wpAny (model P w) X.A (letOwnedTupleGo tg (.ref it) u) (λ_ s2=>∃x H',Inv X pins σ H' s2/\RelV x u/\J.yld i H x H'/\tn (i+1) s2.heap/\∀b∈fp,H' b=Pn) E s1) E s
 done:∀(X:Cx),X.prog=P->X.w=w->X.K=K->X.calm=Pr->∀(i:Nat) (pins:bb (Pz×Obj)) (s:Px) (σ:St) (H:Hp) (E:Pq->Px->Prop),Inv X pins σ H s->(∀b∈fp,oA X pins H b)->tn i s.heap->J.stop i H->
  wpAny (model P w) X.A (pyNext (.ref it)) (λr s1=>r=Pn/\Inv X pins σ H s1) E s
 self:∀(A:Ql) (i:Nat) (s:Px) (Q:Pq->Px->Prop) (E:Pq->Px->Prop),tn i s.heap->Q (.ref it) s->wpAny (model P w) A (pyIter (.ref it)) Q E s
abbrev TI:=St->Hp->(It->Hp->Prop)->Prop
def ON(X:Cx)(a:bb (Pz×Obj))(j:St)(l:QK)(R:It->Hp->Prop)(d:Pq)(g:Px):Prop:=
 ∃(h:Pz) (i:bb Pz) (f:Nat->Heap->Prop) (J:It) (e:Hp),d=.ref h/\Inv X a j e g/\Turn X.prog X.w X.K l J i h f/\f 0 g.heap/\(∀b∈i,oA X a e b)/\R J e
def PI(X:Cx)(f b:QK)(e:TI):Prop:=
 ∀(a:bb (Pz×Obj)) (s:Px) (d:St) (H:Hp) (R:It->Hp->Prop),Inv X a d H s->e d H R->
  wpAny (model X.prog X.w) X.A (eval b X.env) (λv g=>wpAny (model X.prog X.w) X.A (pyIter v) (ON X a d f R) X.xe g) X.xe s
theorem Gc{M:Model}{A:Ql}{E:Pq->Px->Prop}{s:Px}{b:QK}{d:Pz}{u:Pq}{o:Obj}{n:String}{vs:Array Pq}{Q:Unit->Px->Prop}(e:s.heap.get? d=Bn o)(f:o.cls=.type n)(hd:o.data=.fields vs)
  (hn:["enumerate","zip","dict_itemiterator","dict_reverseitemiterator","odict_iterator","itertools.zip_longest","itertools.pairwise"].contains n=Py) (a:Q () s):wpAny M A (letOwnedTupleGo b (.ref d) u) Q E s:=by
 unfold letOwnedTupleGo;cases b<;>first
  |exact Pt a
  |(cases u<;>first
    |exact Pt a
    |(refine Ld (U9 e ?_)
      rw[f,hd];show wpAny M A (if(["enumerate","zip","dict_itemiterator","dict_reverseitemiterator","odict_iterator","itertools.zip_longest","itertools.pairwise"].contains n&&vs[0]? ==Bn (rawInt _))=Pr then _ else _) Q E s;rw[ax (by intro h;rw[hn,TR]at h;cases h)];exact Pt a))
def OD(K:Po)(a:Pz):It:=
 ⟨λi H=>∃xs x,T6 K H a xs/\xs[i]?=Bn x,λi H x b=>b=H/\∀xs,T6 K H a xs->xs[i]?=Bn x,λi H=>∃xs,T6 K H a xs/\xs.length<=i⟩
def Oz(K:Po)(a:Pz):It:=
 ⟨λi H=>∃xs x,Uj K H a xs/\xs[i]?=Bn x,λi H x b=>b=H/\∀xs,Uj K H a xs->xs[i]?=Bn x,λi H=>∃xs,Uj K H a xs/\xs.length<=i⟩
def NW(lo:Int)(n:Nat):It:=⟨λi _=>i<n,λi H x a=>a=H/\x=.int (lo+i),λi _=>n<=i⟩
theorem CG{K:Po}(a f:Pz):Turn P w K tg (OD K a) [f] f (λi h=>h.IsListIter f a i) where
 mem:=by simp
 obj:=λi h st b g=>by
  have e:b=f:=by simpa using g
  subst e;obtain⟨o,e,c,d⟩:=st;exact⟨o,e,λv z=>by rw[d]at z;cases z⟩
 keep:=λi h L st k=>st.at λo e=>k f (by simp) o e
 item:=by intro X t q y J i j s N H E I m st r;subst t q y;obtain⟨xs,x,l,n⟩:=r;obtain⟨Z,rv,p,R⟩:=I.list l;obtain⟨u,T,Q⟩:=rv.get n;obtain⟨G,F,U,C,B,A⟩:=m f (by simp);refine wpAny_pyNext_list_item st p.isList (by simpa using T) λL M O=>?_;have I1:=I.turned (t':=s.toks) (λb o g e=>(O.2 b g).trans e) G F C B A;obtain⟨o,e,c,d⟩:=id M;exact⟨u,rfl,Gc e c d (by decide) ⟨x,H,I1,Q,⟨rfl,λys S=>by rw[I.YT S l];exact n⟩,M,λb g=>(m b g).1⟩⟩
 done:=by intro X t q y J i j s N H E I m st r;subst t q y;obtain⟨xs,l,n⟩:=r;obtain⟨Z,rv,p,R⟩:=I.list l;obtain⟨G,F,U,C,B,A⟩:=m f (by simp);have hl:=rv.length;exact wpAny_pyNext_list_end (I.ok.hd J) st p.isList (by simp;ext) λL Y=>⟨rfl,I.turned (λb o g e=>Y b o g e) G F C B A⟩
 self:=λ_ _ _ _ _ st h=>wpAny_pyIter_listiter st h
theorem zl{K:Po}(a f:Pz):Turn P w K tg (Oz K a) [f] f (λi h=>h.IsTupleIter f a i) where
 mem:=by simp
 obj:=λi h st b g=>by
  have e:b=f:=by simpa using g
  subst e;obtain⟨o,e,c,d⟩:=st;exact⟨o,e,λv z=>by rw[d]at z;cases z⟩
 keep:=λi h M st k=>st.at λo e=>k f (by simp) o e
 item:=by intro X t q y L i j s O H E I m st r;subst t q y;obtain⟨xs,x,l,n⟩:=r;obtain⟨J,rv,p,S⟩:=I.tuple l;obtain⟨u,U,R⟩:=rv.get n;obtain⟨G,F,Y,C,B,A⟩:=m f (by simp);refine wpAny_pyNext_tuple_item st (show s.heap.IsTuple a J.toArray from p) (by simpa using U) λM N Q=>?_;have I1:=I.turned (t':=s.toks) (λb o g e=>(Q.2 b g).trans e) G F C B A;obtain⟨o,e,c,d⟩:=id N;exact⟨u,rfl,Gc e c d (by decide) ⟨x,H,I1,R,⟨rfl,λys T=>by rw[I.Ym T l];exact n⟩,N,λb g=>(m b g).1⟩⟩
 done:=by intro X t q y L i j s O H E I m st r;subst t q y;obtain⟨xs,l,n⟩:=r;obtain⟨J,rv,p,S⟩:=I.tuple l;obtain⟨G,F,Y,C,B,A⟩:=m f (by simp);have hl:=rv.length;exact wpAny_pyNext_tuple_end (I.ok.hd L) st (show s.heap.IsTuple a J.toArray from p) (by simp;ext) λM Z=>⟨rfl,I.turned (λb o g e=>Z b o g e) G F C B A⟩
 self:=λ_ _ _ _ _ st h=>wpAny_pyIter_tupleiter st h
theorem zH{K:Po}(d:Pz)(lo:Int)(n:Nat):Turn P w K tg (NW lo n) [d] d (λi h=>IsRangeIter h d (lo+(i:Nat)*1) ((n:Int) - (i:Nat)) 1) where
 mem:=by simp
 obj:=λi h st b f=>by
  have e:b=d:=by simpa using f
  subst e;exact⟨_,st,λv z=>by have J:=z;cases J⟩
 keep:=λi h r st k=>k d (by simp) _ st
 item:=by intro X p j q m i a s F H E I g st l;subst p j q;obtain⟨C,B,O,A,y,u⟩:=g d (by simp);have W:=Walks.range (prog:=X.prog) (w:=X.w) (I.ok.hd m) d lo 1 n;refine W.item i s _ _ l st λv r L N G M=>?_;obtain⟨t,rfl⟩:=N;have R:Inv X a F H {s with heap:=r,toks:=L}:=I.turned (λb o f e=>M b o (by simpa using f) e) C B A y u;refine⟨_,rfl,Gc G rfl rfl (by decide) ⟨.int (lo+i),H,R,⟨t,?_⟩,⟨rfl,rfl⟩,G,λb f=>(g b f).1⟩⟩;rw[Int.mul_one]
 done:=by intro X p j q m i a s F H E I g st l;subst p j q;obtain⟨C,B,O,A,y,u⟩:=g d (by simp);exact wpAny_pyNext_range_end (I.ok.hd m) st (by have:n<=i:=l;ext) λr Q=>⟨rfl,I.turned (λb o f e=>Q b o f e) C B A y u⟩
 self:=λ_ _ _ _ _ st h=>wpAny_pyIter_rangeiter st h
section
variable{X:Cx}{Z:QK}
theorem EI{a:bb (Pz×Obj)}{d:St}{H:Hp}{s:Px}{R:It->Hp->Prop}{E:Pq->Px->Prop}{lo hi:Int}{t u v:Tok}{f:Nat}(I:Inv X a d H s)(h1: -(2^62)<=lo)(l:lo<2^62)(j: -(2^62)<=hi)(i:hi<2^62)
  (q:R (NW lo (hi - lo).toNat) H):wpAny (model X.prog X.w) X.A (pyIter (.ref s.heap.objs.size)) (ON X a d Z R) E {s with heap:=s.heap.push {cls:=.type "range",data:=.fields #[.int lo t,.int hi u,.int 1 v]},toks:=f}:=by
 refine wpAny_pyIter_range (IsRange.new ..) (small_one h1 l j i) ?_;have g:Inv X a d H {s with heap:=s.heap.push {cls:=.type "range",data:=.fields #[.int lo t,.int hi u,.int 1 v]},toks:=f}:=I.kept λb o e=>br _ e;refine⟨(s.heap.push {cls:=.type "range",data:=.fields #[.int lo t,.int hi u,.int 1 v]}).objs.size,[(s.heap.push {cls:=.type "range",data:=.fields #[.int lo t,.int hi u,.int 1 v]}).objs.size],_,_,H,rfl,
  g.kept (t':=f) λb o e=>br _ e,zH _ lo (hi - lo).toNat,?_,λb h=>?_,q⟩
 .have n:lo+((0:Nat):Int)*1=lo:=by simp
  have m:(((hi - lo).toNat:Nat):Int) - ((0:Nat):Int)=Qe.Range.rangeSize lo hi 1:=by rw[rangeSize_one];split<;>ext
  show IsRangeIter _ _ (lo+((0:Nat):Int)*1) ((((hi - lo).toNat:Nat):Int) - ((0:Nat):Int)) 1;rw[n,m];exact b0 _ rfl
 .have e:b=(s.heap.push {cls:=.type "range",data:=.fields #[.int lo t,.int hi u,.int 1 v]}).objs.size:=by simpa using h
  subst e;exact g.Yv (PF _) (g.Ro.fresh (PF _))
def Jj(b:TA):TI:=λa H R=>b a H λvs d=>∃j:Int,vs=[.int j]/\ -(2^62)<=j/\j<2^62/\R (NW 0 j.toNat) d
theorem fM(n:Gl X "range")(hm:X.mg "range"=Pn)(ha:PA X [a] ta)(m:Qp [a] X.env=[(Py,eval a X.env)]:=by rfl):PI X Z (.Call (.Name "range" p) [a] [] pos) (Jj ta):=by
 intro b s f H R I h;refine Call_ (rX I n hm boot_range (S4 (dF (ha pos b s f H _ I h) λu v ⟨vs,w,o,i,d⟩=>?_) m rfl));obtain⟨j,e,d,l,q⟩:=d;subst e;cases i with
 |cons r g=>cases g;obtain⟨t,rfl⟩:=r;exact call_range_1 (EI o (by ext) (by ext) d l (by simpa using q))
def Lf(d:TI)(g:TG)(e:TS):TS:=λD a H=>d a H λJ h=>∃W:Nat->Nat->St->Hp->Prop,(∃m,W 0 m a h)/\∀i m a H,W i m a H->
 (J.stop i H/\D.nx a H)\/(J.go i H/\∃N:St->Hp->Prop,(∀σ' H',N σ' H'->∃m',m'<m/\W (i+1) m' σ' H')/\∀x H',J.yld i H x H'->g x a H' λb f=>e {D with nx:=N,ct:=N,bk:=D.nx} b f)
def sD(fp:bb Pz)(h:Heap):bb (Pz×Obj):=fp.filterMap λb=>(h.get? b).map λo=>(b,o)
theorem jF(a:b∈fp)(e:h.get? b=Bn o):(b,o)∈sD fp h:=SK.mpr ⟨b,a,by rw[e];rfl⟩
theorem CO(a:p∈sD fp h):p.1∈fp/\h.get? p.1=Bn p.2:=by
 obtain⟨b,d,e⟩:=SK.mp a;cases q:h.get? b with
 |none=>rw[q]at e;cases e
 |some o=>rw[q]at e;have f:=P4 e;subst f;exact⟨d,q⟩
theorem Inv.pinned(I:Inv X pins σ H s)(i:∀b∈fp,oA X pins H b)(h:∀b∈fp,∃o,s.heap.get? b=Bn o/\∀v,o.data≠.cell v):Inv X (pins++sD fp s.heap) σ H s:=
 I.Yb λp g=>(Qm.mp g).elim (λz=>I.pin p (QM _ z)) λz=>by obtain⟨a,e⟩:=CO z;obtain⟨m,l,j,_⟩:=i p.1 a;obtain⟨o,f,d⟩:=h p.1 a;rw[e]at f;cases f;exact⟨e,m,l,j,d⟩
theorem Inv.Vn(I:Inv X (pins++pl) σ H s):Inv X pins σ H s:=I.Yb λp a=>I.pin p (QM _ (XZ _ a))
theorem nQ(L:VD (model X.prog X.w) X.A X.env X.xe)(hc:X.calm=Pr)(hi:PI X Z iter wi)(hg:PG X Z g)(p:Wm X body tb)
  (hs:∀x,foldedSetIterable iter X.env x=pure x:=by intro _;rfl):PS X (.For Z iter body [] pos) (Lf wi g tb):=by
 intro j s σ H D I h;refine wpAny_For (dF (hi j s σ H _ I h) λv s1 h1=>dF h1 λitv s2 h2=>?_) hs;obtain⟨it,O,tn,J,H2,e,I2,T,R,f2,W,⟨m0,w0⟩,turn⟩:=h2;subst e;have E:∀{z:Hp},(∀b∈O,z b=Pn)->∀b∈O,oA X j z b:=λhn b p=>⟨hn b p,(f2 b p).2⟩;refine codeAny_forLoop_any (λn s'=>∃i σ' z,Inv X j σ' z s'/\tn i s'.heap/\(∀b∈O,z b=Pn)/\W i n σ' z) ?_ m0 ⟨0,σ,H2,I2,R,λb p=>(f2 b p).1,w0⟩;rintro n s3 ⟨i,l,P,I3,G,M,w3⟩;rcases turn i n l P w3 with⟨F,qn⟩|⟨go,N,hN,step⟩
 .refine TZ L (dF (T.done X rfl rfl rfl hc i j s3 l P X.xe I3 (E M) G F) λr s4 ⟨U,I4⟩=>?_);subst U;exact Xe ⟨l,P,I4,qn⟩
 .refine TZ L (dF (T.item X rfl rfl rfl hc i j s3 l P X.xe I3 (E M) G go) λr s4 ⟨u,U,h4⟩=>?_)
  subst U;refine TZ L (dF h4 λ_ s5 ⟨x,H5,I5,r5,y5,C,Y⟩=>?_);have I5':=I5.pinned (E Y) (T.obj _ _ C);refine TZ L (dF (hg _ s5 l H5 x u _ I5' r5 (step x H5 y5)) λ_ s6 ⟨Q,H6,I6,q6⟩=>?_);refine TZ L (dF (p _ s6 Q H6 _ I6 q6) λf S B=>?_);have q:∀{a:St} {y:Hp},Inv X (j++sD O s5.heap) a y S->N a y->∃m,m<n/\∃i σ' z,Inv X j σ' z S/\tn i S.heap/\(∀b∈O,z b=Pn)/\W i m σ' z:=λ{a y} t K=>by obtain⟨m',hm,w7⟩:=hN a y K;refine⟨m',hm,i+1,a,y,t.Vn,T.keep _ _ _ C λb p o e=>(t.pin (b,o) (QM _ (QM _ (jF p e)))).1,λb p=>?_,w7⟩;obtain⟨o,e,d⟩:=T.obj _ _ C b p;exact(t.pin (b,o) (QM _ (QM _ (jF p e)))).2.1
  cases f with
  |next=>obtain⟨a,y,t,K⟩:=B;exact q t K
  |cont=>obtain⟨a,y,t,K⟩:=B;exact q t K
  |brk=>obtain⟨a,y,t,B⟩:=B;exact⟨a,y,t.Vn,B⟩
  |ret v=>obtain⟨x7,a,y,t,r7,B⟩:=B;exact⟨x7,a,y,t.Vn,r7,B⟩
end
abbrev R2:=V->V->Hp->VK->Prop
def OpR(X:Cx)(f:Pq->Pq->Sem Pq)(r:R2):Prop:=
 ∀(a:bb (Pz×Obj)) (s:Px) (b:St) (H:Hp) (x y:V) (v u:Pq) (Q:VK),Inv X a b H s->RelV x v->RelV y u->r x y H Q->
  wpAny (model X.prog X.w) X.A (f v u) (EP X a b Q) X.xe s
def Sm(X:Cx)(f:Pq)(r:bb V->Hp->VK->Prop):Prop:=
 ∀(a:bb (Pz×Obj)) (s:Px) (b:St) (H:Hp) (xs:bb V) (d:bb Pq) (Q:VK),Inv X a b H s->Vals xs d->r xs H Q->
  wpAny (model X.prog X.w) X.A (call f d) (EP X a b Q) X.xe s
def J8(r:R2)(d b:TE):TE:=λa H Q=>d a H λx f=>b a f λy e=>r x y e Q
def rI(C:Int->Int->Prop)(g:Int->Int->V):R2:=λx y H Q=>∃i j,x=.int i/\y=.int j/\C i j/\Q (g i j) H
def yz(g:Int->Int->V):R2:=λx y H Q=>∃i j,x=.int i/\y=.int j/\Q (g i j) H
section
variable{X:Cx}{a b c:QK}{Y Z tc:TE}{U:Pos}
theorem Ke(ha:PE X a Y)(m:PE X b Z){R:V->V->Hp->Prop}(I:Inv X pins σ H s)
  (h:Y σ H λx H1=>Z σ H1 λy H2=>R x y H2) {f:Pq->Pq->Sem Pq}
  (l:∀v u s2 x y H2,Inv X pins σ H2 s2->RelV x v->RelV y u->R x y H2->wpAny (model X.prog X.w) X.A (f v u) Q X.xe s2):
  wpAny (model X.prog X.w) X.A (eval a X.env) (λv s₁=>wpAny (model X.prog X.w) X.A (eval b X.env) (λu s₂=>wpAny (model X.prog X.w) X.A (f v u) Q X.xe s₂) X.xe s₁) X.xe s:=by
 refine dF (ha pins s σ H _ I h) λv d ⟨x,H1,o,g,j⟩=>?_;refine dF (m pins d σ H1 _ o j) λu s2 ⟨y,H2,n,e,i⟩=>?_;exact l v u s2 x y H2 n g e i
theorem j9(j:OpR X (RM op) r)(ha:PE X a Y)(l:PE X b Z):PE X (.BinOp a op b U) (J8 r Y Z):=by intro d s e H Q I h;exact wpAny_BinOp (Ke ha l I h λv u f x y n m i g q=>j d f e n x y v u Q m i g q)
theorem MJ{g:Int->Int->Int}
  (d:∀(i j:Int) (t u:Tok) (s:Px) (Q:Pq->Px->Prop) (E:Pq->Px->Prop),C i j->Q (.int (g i j) s.toks) {s with toks:=s.toks+1}->wpAny (model X.prog X.w) X.A (f (.int i t) (.int j u)) Q E s):
  OpR X f (rI C λi j=>.int (g i j)):=by
 intro e s p H x y v u Q I n m h;obtain⟨i,j,rfl,rfl,o,q⟩:=h;obtain⟨t,rfl⟩:=n;obtain⟨l,rfl⟩:=m;exact d i j t l s _ _ o ⟨.int (g i j),H,I.tok _,⟨_,rfl⟩,q⟩
theorem K2{g:Int->Int->Int}
  (d:∀(i j:Int) (t u:Tok) (s:Px) (Q:Pq->Px->Prop) (E:Pq->Px->Prop),Q (.int (g i j) s.toks) {s with toks:=s.toks+1}->wpAny (model X.prog X.w) X.A (f (.int i t) (.int j u)) Q E s):
  OpR X f (yz λi j=>.int (g i j)):=by
 intro e s o H x y v u Q I n m h;obtain⟨i,j,rfl,rfl,q⟩:=h;obtain⟨t,rfl⟩:=n;obtain⟨l,rfl⟩:=m;exact d i j t l s _ _ ⟨.int (g i j),H,I.tok _,⟨_,rfl⟩,q⟩
theorem L7{g:Int->Int->Bool}
  (d:∀(i j:Int) (t u:Tok) (s:Px) (Q:Pq->Px->Prop) (E:Pq->Px->Prop),Q (.bool (g i j)) s->wpAny (model X.prog X.w) X.A (f (.int i t) (.int j u)) Q E s):
  OpR X f (yz λi j=>.bl (g i j)):=by
 intro e s o H x y v u Q I n m h;obtain⟨i,j,rfl,rfl,q⟩:=h;obtain⟨t,rfl⟩:=n;obtain⟨l,rfl⟩:=m;exact d i j t l s _ _ ⟨.bl (g i j),H,I,rfl,q⟩
def K0(i j:Int):Prop:=0<=j/\j<=1000000/\i.natAbs<2^64
def Zm(i j:Int):Prop:=(-(2^64)<i/\i<2^64)\/(-(2^64)<j/\j<2^64)
theorem Zm.ok(h:Zm i j):IntMulOk i j:=by
 rcases h with⟨e,d⟩|⟨e,d⟩
 .exact .of_left (afb e d)
 .exact .of_right (afb e d)
theorem two_pow_nn(k:Nat):(0:Int)<=2^k:=by rw[two_pow_cast];exact Int.natCast_nonneg _
theorem Mi:OpR X (RM .Add) (yz λi j=>.int (i+j)):=K2 λ_ _ _ _ _ _ _ q=>add_int q
theorem Kv:OpR X (RM .Sub) (yz λi j=>.int (i - j)):=K2 λ_ _ _ _ _ _ _ q=>sub_int q
theorem Mp:OpR X (RM .Mult) (rI Zm λi j=>.int (i*j)):=MJ λ_ _ _ _ _ _ _ d q=>mul_int q d.ok
theorem KC:OpR X (RM .Mod) (rI (λ_ j=>0<j) λi j=>.int (i % j)):=MJ λi j _ _ _ _ _ d q=>by have e:(0:Int)<j:=d;exact mod_int' (by ext) (by rw[Int.fmod_eq_emod_of_nonneg i (by ext)];exact q)
theorem KG:OpR X (RM .Pow) (rI K0 λi j=>.int (i^j.toNat)):=MJ λ_ _ _ _ _ _ _ d q=>pow_int_small d.1 d.2.1 d.2.2 q
theorem EH:OpR X (RM .RShift) (rI (λ_ j=>0<=j) λi j=>.int (i/2^j.toNat)):=MJ λi j _ _ _ _ _ d q=>
 rshift_int d (by rw[WB i (two_pow_nn _)];exact q)
theorem El:OpR X (RM .BitAnd) (yz λi j=>.int (Qe.bitAnd i j)):=K2 λ_ _ _ _ _ _ _ q=>and_int q
end
section
variable{X:Cx}{a b c:QK}{Y Z T:TE}{U:Pos}
theorem DL(I:Inv X pins σ H s)(q:Q (.bl k) H)(e:k=k'):EP X pins σ Q (.bool k') s:=by subst e;exact⟨.bl k,H,I,rfl,q⟩
theorem JK:OpR X (RG .Lt) (yz λi j=>.bl (decide (i<j))):=L7 λ_ _ _ _ _ _ _ q=>lt_int q
theorem NL:OpR X (RG .LtE) (yz λi j=>.bl (decide (i<=j))):=L7 λ_ _ _ _ _ _ _ q=>le_int q
theorem x8:OpR X (RG .Gt) (yz λi j=>.bl (decide (j<i))):=L7 λ_ _ _ _ _ _ _ q=>gt_int q
theorem LH:OpR X (RG .Is) (λx y H Q=>y=.Sz/\Q (.bl (decide (x=.Sz))) H):=by
 intro e s g H x y v u Q I d f h;obtain⟨rfl,q⟩:=h;cases f;refine is_none_gen (DL I q ?_);cases x<;>first
  |(cases d;rfl)
  |(obtain⟨t,rfl⟩:=d;rfl)
theorem mZ:OpR X (RG .IsNot) (λx y H Q=>y=.Sz/\Q (.bl (!decide (x=.Sz))) H):=by
 intro e s g H x y v u Q I d f h;obtain⟨rfl,q⟩:=h;cases f;refine isnot_none_gen (DL I q ?_);cases x<;>first
  |(cases d;rfl)
  |(obtain⟨t,rfl⟩:=d;rfl)
theorem bX(b:QK)(h:op≠.In:=by decide)(d:op≠.NotIn:=by decide):behindInMarks op b=Py:=by
 have f:(op==CmpOp.In)=Py:=by cases op<;>first|rfl|exact a5 rfl h
 have e:(op==CmpOp.NotIn)=Py:=by cases op<;>first|rfl|exact a5 rfl d
 cases b<;>simp[behindInMarks,f,e]
theorem hV{e:CmpOp}{r:R2}(l:OpR X (RG e) r)(ha:PE X a Y)(m:PE X b Z)(hm:behindInMarks e b=Py):PE X (.Compare a [e] [b] U) (J8 r Y Z):=by intro d s f H Q I h;exact wpAny_Compare1 (Ke ha m I h λv u g x y o n j i q=>l d g f o x y v u Q n j i q) hm
def Aj(t:TE):TT:=λd H Q=>t d H λx e=>∃k,x=.bl k/\Q k e
theorem bq(q:OpR X (RG op) r)(ha:PE X a Y)(t:PE X b Z)(hm:behindInMarks op b=Py):PT X (.Compare a [op] [b] U) (Aj (J8 r Y Z)):=by
 intro d s f H Q I h;refine Y6 (dF (ha d s f H _ I h) λv i ⟨x,F,B,m,p⟩=>dF (t d i f F _ B p) λu g ⟨y,E,A,l,o⟩=>
  dF (q d g f E x y v u _ A m l o) λc G ⟨z,C,w,j,k,e,n⟩=>?_) hm
 subst e;cases j;exact Ry ⟨C,w,n⟩
def Ds(r g:R2)(Y Z T:TE):TE:=λd H Q=>Y d H λx j=>Z d j λy i=>r x y i λz e=>∃k,z=.bl k/\
 (if k=Pr then T d e λf h=>g y f h Q else Q (.bl Py) e)
theorem D3(M:OpR X (RG op) r)(S:OpR X (RG op') r')(ha:PE X a Y)(O:PE X b Z)(N:PE X c T)
  (hm:lastMarks [op,op'] [b,c]=Py:=by with_unfolding_all rfl):PT X (.Compare a [op,op'] [b,c] U) (Aj (Ds r r' Y Z T)):=by
 intro f s g H Q I h;refine isTrue_chain (dF (ha f s g H _ I h) λv w ⟨x,H1,I1,E,K⟩=>test_link (dF (O f w g H1 _ I1 K) λu t ⟨y,H2,I2,i,J⟩=>
  dF (M f t g H2 x y v u _ I2 E i J) λd q ⟨z,m,l,C,k,e,j⟩=>?_)) hm
 subst e;cases C;refine Ry ?_;cases k with
 |false=>obtain⟨k',R,L⟩:=j;cases R;exact ite_ff ⟨m,l,L⟩
 |true=>refine ite_tt (test_last (dF (N f q g m _ l j) λo p ⟨n,H4,I4,B,G⟩=>dF (S f p g H4 y n u o _ I4 i B G) λd' s5 ⟨z2,H5,I5,A,k2,P,F⟩=>?_));subst P;cases A;exact Ry ⟨H5,I5,F⟩
theorem wj:(PZ:Nat)<2^63:=by rw[S5];decide
theorem ir(r:Vals [x] us):∃u,us=[u]/\RelV x u:=by
 cases r with
 |cons e d=>cases d;exact⟨_,rfl,e⟩
theorem JA(r:Vals [x,y] us):∃u w',us=[u,w']/\RelV x u/\RelV y w':=by
 cases r with
 |cons g f=>
  cases f with
  |cons e d=>cases d;exact⟨_,_,rfl,g,e⟩
theorem Ch(f:X.calm=Pr):Sm X (.builtin "max") (λxs H Q=>∃i j,xs=[.int i,.int j]/\Q (.int (if j>i then j else i)) H):=by
 intro e s g H xs m Q I r h;obtain⟨i,j,rfl,q⟩:=h;obtain⟨u,l,rfl,⟨t,rfl⟩,⟨o,rfl⟩⟩:=JA r;refine max_two_ints (I.ok.hd f) λp n k=>⟨_,H,I.kept k,?_,q⟩;by_cases d:j>i
 .rw[av d,av d];exact⟨_,rfl⟩
 .rw[ax d,ax d];exact⟨_,rfl⟩
def M5(K:Po)(x:V)(H:Hp)(n:Nat):Prop:=
 match x with
 |.str y=>y.length<=PZ/\n=y.length
 |.byt y=>y.size<=PZ/\n=y.size
 |.ref p=>(∃xs,T6 K H p xs/\n=xs.length)\/∃xs,Uj K H p xs/\n=xs.length
 |_=>False
theorem gM:Sm X (.builtin "len") (λxs H Q=>∃x n,xs=[x]/\M5 X.K x H n/\Q (.int n) H):=by
 intro l s w H xs z Q I r h;obtain⟨x,n,rfl,e,q⟩:=h;obtain⟨u,rfl,g⟩:=ir r;have B:=wj;have A:=S5;cases x with
 |str y=>obtain⟨t,rfl⟩:=g;obtain⟨o,f⟩:=e;subst f;exact len_str (by ext) ⟨.int _,H,I.tok _,⟨_,rfl⟩,q⟩
 |byt y=>obtain⟨t,rfl⟩:=g;obtain⟨o,f⟩:=e;subst f;exact PySem.W.len_bytes (by ext) ⟨.int _,H,I.tok _,⟨_,rfl⟩,q⟩
 |ref p=>
  cases g;have f:=e;rcases f with⟨xs,j,f⟩|⟨xs,j,f⟩
  .subst f;obtain⟨v,i,pl,m⟩:=I.list j;have d:=i.length;exact Calls.call_len_list pl.isList (by simp only[PX];ext) ⟨.int xs.length,H,I.tok _,⟨_,by simp only[PX];rw[d]⟩,q⟩
  .subst f;obtain⟨v,i,pl,m⟩:=I.tuple j;have d:=i.length;exact len_tuple pl (by simp only[PX];ext) ⟨.int xs.length,H,I.tok _,⟨_,by simp only[PX];rw[d]⟩,q⟩
 |_=>exact(show False from e).elim
end
structure XU(h:Heap)(x dx C:Pz)(mA:Str->bg Pq):Prop where
 obj:h.get? x=Bn (RF C dx)
 ns:h.Ns1 dx mA
 ne:dx≠x
theorem CD{h:Heap}(n:h.Ns1 dx mA):∃od,h.get? dx=Bn od/\∀name,UD name od=Bn (mA name):=by
 obtain⟨o,b,m,f,i,g,_,hm⟩:=n;refine⟨o,f,λname=>?_⟩;have e:=hm name;unfold nsFind findBy at e;rw[<-Array.find?_toList]at e;unfold UD;rw[i];dsimp only;split
 .rename_i y q;rw[q]at e;exact di Bn e
 .rename_i q
  rw[q]at e;have a:b.toList.any (·.refKey)=Py:=by rw[List.any_eq_false];intro y d;obtain⟨z,t,l⟩:=g y (Array.mem_toList_iff.mp d);simp[VF.refKey,l]
  have j:¬b.toList.any (·.refKey)=Pr:=by rw[a];exact P7
  rw[ax j];exact di Bn e
theorem XU.look(I:XU h x dx C mA):∃od,PySem.W.InstAt h x (RF C dx) C (Bn od)/\∀name,UD name od=Bn (mA name):=
 let⟨od,ho,hl⟩:=CD I.ns
 ⟨od,⟨I.obj,rfl,rfl,ho⟩,hl⟩
section
variable{prog:Qc}{w:Qt}{A:Ql}{E:Pq->Px->Prop}{s:Px}{K:Po}{x dx C f:Pz}{Z:Str->bg Pq}{name:Str}{v:Pq}
theorem Ix(X:K.In s.heap)(I:XU s.heap x dx C Z)(g:S1 K C name=Pr)(e:TU K C=Pr)
  (ha:QN K (.ref C) name=Bn Pn) (b:Z name=Bn v) (a:Yf v=Pr) (h:Q v {s with toks:=s.toks+1}):
  wpAny (model prog w) A (getAttr (.ref x) name expr) Q E s:=by
 obtain⟨i,J,d⟩:=I.look;exact PySem.W.get_value X J (UX g).1 (PySem.W.findObj_own e ha rfl (by rw[d,b])) a h
theorem Fw(X:K.In s.heap)(I:XU s.heap x dx C Z)(a:S1 K C name=Pr)
  (i:QN K (.ref C) name=Bn (Bn (.ref f))) (e:Vi K (.ref f)=Pr) (d:Z name=Pn) (h:Q (.ref f,[.ref x]) s):
  wpAny (model prog w) A (getMethod (.ref x) name pl) Q E s:=by
 obtain⟨b,J,g⟩:=I.look;exact PySem.W.method_fn X J (UX a).1 (UX a).2 i (beq_iff_eq.mp e) (by show(UD name b).map (·.isSome)=Bn Py;rw[g,d];rfl) h
theorem Jf(X:K.In s.heap)(I:XU s.heap x dx C Z)
  (n:QN K (.ref C) "__setattr__"=Bn (Bn (.builtin "object.__setattr__"))) (o:Vj K C=Pr) (m:VO K C name=Bn Pn) (p:TU K C=Pr)
  (l:Xd Z ns) (hsz:ns.length<=PZ)
  (h:∀h',XU h' x dx C (λy=>if y=name then Bn v else Z y)->Heap.SameBut dx s.heap h'->Q () {s with heap:=h',toks:=s.toks+2}):
  wpAny (model prog w) A (setAttr (.ref x) name v) Q E s:=by
 obtain⟨z,J,F⟩:=I.look;refine PySem.W.set_plain X J n (PySem.W.osa_open X J o m λb=>?_);obtain⟨G,q,u⟩:=PySem.W.any_some p;have j:=I.obj;refine Ld (Pt (Ld (Ld (wpAny_loadPart j (Ld (abu (PySem.W.looks_clsIn X q) ?_))))));rw[u];refine Pt (Ld (Pt (Ld ?_)));refine wpAny_nsSet1 I.ns λh' a i=>?_;obtain⟨B,r,t,d,e,g⟩:=a.count (acz name v l);refine Ld (wpAny_lookBehind d (by rw[e];exact pastItsLine_dict (Qz g (by rw[PN];ext))) ?_);exact Pt (h _ ⟨(i.2 _ (da I.ne)).trans I.obj,a,I.ne⟩ i)
theorem E8{R:WC->Px->Prop}{vs:bb Pq}{b:bb (Str×Pq)}(X:K.In s.heap)(hm:VP K C=Pr)
  (hi:QN K (.ref C) "__init__"=Bn (Bn (.ref f))) (e:PySem.W.typeIn K (.ref f)=Bn (.type "function"))
  (h:codeAny (model prog w) (A.under (.builtin "type.__call__" ⟨.ref C::vs,b⟩)) (.call (.ref f) ⟨.ref (s.heap.objs.size+1)::vs,b⟩) (PySem.W.InitBack (s.heap.objs.size+1) R)
   {s with heap:=(s.heap.push Q4).push (RF C s.heap.objs.size)}):
  codeAny (model prog w) A (.call (.ref C) ⟨vs,b⟩) R s:=by
 obtain⟨j,g,d,t,i⟩:=s;exact PySem.W.make_core (PySem.W.makes_of X hm) (PySem.W.looks_findIn X hi) (λa=>PySem.W.bind_fn X a e) (.inl rfl) h
end
def jh(f:Str)(v:V):bb (Str×V)->bb (Str×V)
 |[]=>[(f,v)]
 |(g,x)::r=>if g=f then(g,v)::r else(g,x)::jh f v r
theorem ph(f g:Str)(v:V):∀fs:bb (Str×V),(jh f v fs).lookup g=if g=f then Bn v else fs.lookup g
 |[]=>by
  show Tn g [(f,v)]=_;by_cases h:g=f
  .have a:=beq_iff_eq.mpr h;simp only[Tn,a,av h]
  .have a:=beq_eq_false_iff_ne.mpr h;simp only[Tn,a,ax h]
 |(k,x)::r=>by
  have d:=ph f g v r;rw[show jh f v ((k,x)::r)=(if k=f then(k,v)::r else(k,x)::jh f v r)from rfl];by_cases b:k=f
  .rw[av b]
   by_cases h:g=k
   .have a:=beq_iff_eq.mpr h;simp only[Tn,a,av (h.trans b)]
   .have a:=beq_eq_false_iff_ne.mpr h;simp only[Tn,a,ax (λe:g=f=>h (e.trans b.symm))]
  .rw[ax b]
   by_cases h:g=k
   .have a:=beq_iff_eq.mpr h;simp only[Tn,a,ax (λe:g=f=>b (h.symm.trans e))]
   .have a:=beq_eq_false_iff_ne.mpr h;simp only[Tn,a];exact d
theorem oM(f:Str)(v:V):∀fs:bb (Str×V),f∈(jh f v fs).map (·.1)/\∀g,g∈fs.map (·.1)->g∈(jh f v fs).map (·.1)
 |[]=>⟨by simp[jh],λg h=>by simp at h⟩
 |(k,x)::r=>by
  obtain⟨d,b⟩:=oM f v r;rw[show jh f v ((k,x)::r)=(if k=f then(k,v)::r else(k,x)::jh f v r)from rfl];by_cases a:k=f
  .rw[av a];subst a;exact⟨by simp,λg h=>by simpa using h⟩
  .rw[ax a]
   refine⟨?_,λg h=>?_⟩
   .rw[PY];exact PD _ d
   .rw[PY]at h⊢
    rcases P1.mp h with e|e
    .exact P1.mpr (.inl e)
    .exact PD _ (b g e)
theorem pi(f:Str)(v:V):∀fs:bb (Str×V),(jh f v fs).length<=fs.length+1
 |[]=>by simp[jh]
 |(k,x)::r=>by
  have b:=pi f v r;rw[show jh f v ((k,x)::r)=(if k=f then(k,v)::r else(k,x)::jh f v r)from rfl];by_cases a:k=f
  .rw[av a,PN,PN];ext
  .rw[ax a,PN,PN];ext
theorem UR.some_of(r:UR (Bn v) o):∃u,o=Bn u/\RelV v u:=by
 cases o with
 |none=>exact(show False from r).elim
 |some u=>exact⟨u,rfl,r⟩
theorem UR.none_of(r:UR Pn o):o=Pn:=by
 cases o with
 |none=>rfl
 |some u=>exact(show False from r).elim
theorem C4(r:RelV v u):Yf u=Pr:=by
 cases v with
 |Sz=>cases(show u=Pq.none from r);rfl
 |bl b=>cases(show u=Pq.bool b from r);rfl
 |int i=>obtain⟨t,e⟩:=(show∃t,u=Pq.int i t from r);cases e;rfl
 |str x=>obtain⟨t,e⟩:=(show∃t,u=Pq.str x t from r);cases e;rfl
 |byt b=>obtain⟨t,e⟩:=(show∃t,u=Pq.bytes b t from r);cases e;rfl
 |flt b=>obtain⟨t,e⟩:=(show∃t,u=Pq.float b t from r);cases e;rfl
 |ref a=>cases(show u=Pq.ref a from r);rfl
 |ty n=>cases(show u=Pq.type n from r);rfl
section
variable{P:Qc}{w:Qt}{H H':Hp}{h h':Heap}{a C dx:Pz}{fs fs':bb (Str×V)}
theorem vj(g:Vf P w H h)(e:H a=Bn (.ins C dx fs)):∃mA,XU h a dx C mA/\(∀f,UR (fs.lookup f) (mA f))/\Xd mA (fs.map (·.1))/\fs.length<=1000/\H dx=Bn (.own a):=by obtain⟨d,z,ne,b,mA,n,r,q⟩:=(show ObjOk P w H h a (.ins C dx fs)from g a _ e);exact⟨mA,⟨b,n,ne⟩,r,q,z,d⟩
end
structure Ys(K:Po)(C:Pz):Prop where
 pg:S1 K C Str.empty=Pr
 hd:TU K C=Pr
 po:Vj K C=Pr
 sa:QN K (.ref C) "__setattr__"=Bn (Bn (.builtin "object.__setattr__"))
theorem Ys.get{K:Po}(c:Ys K C)(f:Str):S1 K C f=Pr:=c.pg
def US(K:Po)(C:Pz)(f:Str):Prop:=QN K (.ref C) f=Bn Pn
theorem US.acd{K:Po}(n:US K C f):VO K C f=Bn Pn:=by unfold VO;rw[show QN K (.ref C) f=Bn Pn from n];rfl
structure Con(K:Po)(C:Pz)(f:Str)(v:V)(u:Pq):Prop where
 at_:QN K (.ref C) f=Bn (Bn u)
 rel:RelV v u
 get:X0 K u "__get__"=Bn Pn
 cp:PySem.W.copiedNames.contains f=Py
structure Meth(K:Po)(C:Pz)(m:Str)(f:Pz):Prop where
 at_:QN K (.ref C) m=Bn (Bn (.ref f))
 fn:Vi K (.ref f)=Pr
 kp:RX K (.ref f)=Pr
section
variable{X:Cx}{Z:bb (Pz×Obj)}{Y:St}{H:Hp}{s:Px}{a C dx:Pz}{fs:bb (Str×V)}{f:Str}{v:V}{A:Ql}{E:Pq->Px->Prop}
theorem zd(I:Inv X Z Y H s)(e:H a=Bn (.ins C dx fs))(c:Ys X.K C)(n:US X.K C f)(l:fs.lookup f=Bn v)
  (h:∀u s',Inv X Z Y H s'->RelV v u->Q u s'):wpAny (model X.prog X.w) A (getAttr (.ref a) f b) Q E s:=by
 obtain⟨i,O,r,_,_,_⟩:=vj I.Ro e;obtain⟨u,g,d⟩:=UR.some_of (by rw[<-l];exact r f);exact Ix I.Xu O (c.get f) c.hd n g (C4 d) (h u _ (I.tok _) d)
theorem qH(I:Inv X Z Y H s)(e:H a=Bn (.ins C dx fs))(c:Ys X.K C)(k:Meth X.K C m g)(l:fs.lookup m=Pn)
  (h:Q (.ref g,[.ref a]) s):wpAny (model X.prog X.w) A (getMethod (.ref a) m pl) Q E s:=by
 obtain⟨b,O,r,_,_,_⟩:=vj I.Ro e;have hn:=UR.none_of (by rw[<-l];exact r m);exact Fw I.Xu O (c.get m) k.at_ k.fn hn h
theorem yR(I:Inv X Z Y H s)(e:H a=Bn (.ins C dx fs))(c:Ys X.K C)(n:US X.K C f)(L:fs.length<1000)(p:RelV y u)
  (h:∀s',Inv X Z Y (bS H a (.ins C dx (jh f y fs))) s'->Q () s'):wpAny (model X.prog X.w) A (setAttr (.ref a) f u) Q E s:=by
 obtain⟨j,O,r,i,_,l⟩:=vj I.Ro e;have t:(fs.map (·.1)).length<=PZ:=by rw[Pp,S5];ext
 refine Jf I.Xu O c.sa c.po n.acd c.hd i t λJ d m=>h _ ?_;have F:∃o,J.get? dx=Bn o:=let⟨o,_,_,e',_⟩:=d.ns;⟨o,e'⟩
 refine I.write (by rw[e];exact True.intro) (.inr l) (λb q G z=>(m.2 b G).trans z) F ?_;refine⟨by rw[a9 O.ne];exact l,?_,O.ne,d.obj,_,d.ns,λg=>?_,λg B=>?_⟩
 .have:=pi f y fs;ext
 .show UR ((jh f y fs).lookup g) (if g=f then Bn u else j g)
  rw[ph];by_cases q:g=f
  .rw[av q,av q];exact p
  .rw[ax q,ax q];exact r g
 .by_cases q:g=f
  .rw[q];exact(oM f y fs).1
  .refine(oM f y fs).2 g (i g λz=>B ?_);show(if g=f then Bn u else j g)=Pn;rw[ax q];exact z
theorem Inv.made(I:Inv X Z Y H s):Inv X Z Y (bS (bS H s.heap.objs.size (.own (s.heap.objs.size+1))) (s.heap.objs.size+1) (.ins C s.heap.objs.size []))
  {s with heap:=(s.heap.push Q4).push (RF C s.heap.objs.size)}:=by
 have d:(s.heap.push Q4).get? s.heap.objs.size=Bn Q4:=b0 s.heap rfl;have j:((s.heap.push Q4).push (RF C s.heap.objs.size)).get? (s.heap.objs.size+1)=Bn (RF C s.heap.objs.size):=by have:=b0 (s.heap.push Q4) (o:=RF C s.heap.objs.size) rfl;rwa [b7]at this
 have i:(s.heap.push Q4).Ns s.heap.objs.size (λ_=>Pn):=⟨Q4,#[],_,d,rfl,(λe h=>a5 h (by simp)),λ_=>rfl⟩;have l:=I.laid (a:=s.heap.objs.size) (o:=.own (s.heap.objs.size+1)) (h':=s.heap.push Q4) (t':=s.toks) (λb u q=>br _ q) (PF _) ⟨_,d⟩;refine l.laid (a:=s.heap.objs.size+1) (o:=.ins C s.heap.objs.size []) (t':=s.toks) (λb u q=>br _ q) (abv (b7 _ _)) ?_;have ne:s.heap.objs.size≠s.heap.objs.size+1:=P5 (Tg _);refine⟨by rw[a9 ne,aJ],Qu _,ne,j,λ_=>Pn,(Heap.Ns1.of_empty i).at λo q=>br _ q,λ_=>True.intro,λy g=>a5 rfl g⟩
theorem Iz{prog:Qc}{w:Qt}{env:Env}{e:QK}{f:Str}{b:Pos}{s:Px}{Q:Pq->Px->Prop}(d:attributeBase e f env (eval e env)=eval e env)
  (h:wpAny (model prog w) A (eval e env) (λo s₁=>wpAny (model prog w) A (getAttr o f Pr) Q E s₁) E s):wpAny (model prog w) A (eval (.Attribute e f b) env) Q E s:=
 Attribute_any_ h (by rw[arm_eval_Attribute,d])
end
def NM(K:Po)(e:TE)(f:Str):TE:=λd H Q=>e d H λx b=>∃a C dx fs v,x=.ref a/\b a=Bn (.ins C dx fs)/\Ys K C/\US K C f/\fs.lookup f=Bn v/\Q v b
def MW(K:Po)(g e:TE)(f:Str):TS:=λD b H=>e b H λy h=>g b h λx d=>∃a C dx fs,x=.ref a/\d a=Bn (.ins C dx fs)/\Ys K C/\US K C f/\fs.length<1000/\
 D.nx b (bS d a (.ins C dx (jh f y fs)))
section
variable{X:Cx}{o e Z:QK}{f:Str}{U Y ae9:Pos}{T tv:TE}
theorem jT(j:PE X e T)(m:attributeBase e f X.env (eval e X.env)=eval e X.env):PE X (.Attribute e f U) (NM X.K T f):=by intro b s d H Q I h;refine Iz m (dF (j b s d H _ I h) λu B ⟨x,y,w,g,a,C,dx,fs,v,p,r,c,n,l,q⟩=>?_);subst p;obtain rfl:=g;exact zd w r c n l λz A t i=>⟨v,y,t,i,q⟩
theorem zW(ha:PE X o T)(p:PE X Z tv)(r:Rz Z (Bn (.Attribute o f Y)) U.line X.env=pure Py):PS X (.Assign [.Attribute o f Y] Z U) (MW X.K T tv f):=by intro b s d H D I h;refine plainObj_wpAny_Assign_Attribute (dF (p b s d H _ I h) λu g ⟨y,B,A,i,q⟩=>dF (ha b g d B _ A q) λG F ⟨x,J,z,j,a,C,dx,fs,t,v,c,n,l,m⟩=>?_) r;subst t;obtain rfl:=j;exact yR z v c n l i λE w=>⟨d,_,w,m⟩
end
section
variable{X:Cx}{pins:bb (Pz×Obj)}{σ:St}{H:Hp}{s:Px}{A:Ql}{E:Pq->Px->Prop}{Q:Pq->Px->Prop}{c:Pq}{b:Bool}
inductive Wa(K:Po)(H:Hp):V->Pq->Prop where
 |Sz:Wa K H .Sz (.type "NoneType")
 |bl (x:Bool):Wa K H (.bl x) (.type "bool")
 |int (i:Int):Wa K H (.int i) (.type "int")
 |str (x:Str):Wa K H (.str x) (.type "str")
 |flt (x:UInt64):Wa K H (.flt x) (.type "float")
 |lst {a:Pz} {xs:bb V} (e:H a=Bn (.lst xs)):Wa K H (.ref a) (.type "list")
 |frz {a:Pz} {o:Obj} {xs:bb V} (e:H a=Bn (.frz o (.lst xs))):Wa K H (.ref a) (.type "list")
 |tup {a:Pz} {xs:bb V} (e:H a=Bn (.tup xs)):Wa K H (.ref a) (.type "tuple")
 |dK {a:Pz} {Qk:bb (cT×V)} (e:H a=Bn (.dK Qk)):Wa K H (.ref a) (.type "dict")
 |dT {a:Pz} {Qk:bb (bb cT×V)} (e:H a=Bn (.dT Qk)):Wa K H (.ref a) (.type "dict")
 |ins {a C dx:Pz} {fs:bb (Str×V)} (e:H a=Bn (.ins C dx fs)) (cl:Ys K C) (ha:QN K (.ref C) "__class__"=Bn (Bn (.builtin "object.__class__")))
   (hn:X0 K (.builtin "object.__class__") "__get__"=Bn (Bn (.builtin "getset_descriptor.__get__"))) (htk:PySem.W.takesIn K (.builtin "object.__class__")=Bn Pr)
   (hm:PySem.W.mroIn K C (.type "object")=Bn Pr):Wa K H (.ref a) (.ref C)
end
structure Sg(k:Nat)(A:Ql):Prop where
 hd:A.handled=Pn
 dp:A.depth+3*k+5<recursionLimit
 un:A.units+16*k+200<cLine
theorem Sg.mono(r:Sg k A)(h:j<=k):Sg j A:=⟨r.hd,by have:=r.dp;ext,by have:=r.un;ext⟩
theorem Sg.deeper(r:Sg (k+1) A)(env:Env):Sg k (A.deeper env):=
 ⟨r.hd,by have:=r.dp;show A.depth+1+3*k+5<_;ext,by have:=r.un;show A.units+3+16*k+200<_;ext⟩
theorem yQ{A:Ql}:(A.under (.builtin "type.__call__" ⟨.ref C::us,kw⟩)).depth=A.depth+1:=by
 first|rfl|simp[Ql.under,Yg.weight,Yg.isCreation,Yg.isGuard,Yg.isCaller,Yg.frames,Yg.isFrame,guardIds]
theorem yX{A:Ql}:(A.under (.builtin "type.__call__" ⟨.ref C::us,kw⟩)).units=A.units+1:=by
 first|rfl|simp[Ql.under,Yg.cUnits,Yg.frames,Yg.isFrame]
theorem Sg.make(r:Sg (k+1) A)(C:Pz)(us:bb Pq)(a:bb (Str×Pq)):Sg k (A.under (.builtin "type.__call__" ⟨.ref C::us,a⟩)):=
 ⟨r.hd,by have:=r.dp;rw[yQ];ext,by have:=r.un;rw[yX];ext⟩
theorem Sg.depth(r:Sg k A):A.depth<recursionLimit:=by have:=r.dp;ext
theorem Sg.units(r:Sg k A):A.units+64<cLine:=by have:=r.un;ext
def ox:TA:=λ_ H Q=>Q [] H
def kU(d:TE)(b:TA):TA:=λa H Q=>d a H λx f=>b a f λxs e=>Q (x::xs) e
section
variable{X:Cx}{e:QK}{Y:bb QK}{te:TE}{t:TA}{Z:Pos}
theorem aD:PA X [] ox:=λ_ _ _ _ H Q I h=>Calls.spliced_nil ⟨[],H,I,.nil,h⟩
theorem aq(ha:PE X e te)(m:PA X Y t)(l:Qp (e::Y) X.env=(Py,eval e X.env)::Qp Y X.env:=by rfl):PA X (e::Y) (kU te t):=by intro Z a s b H Q I h;rw[l];refine Calls.spliced_cons (dF (ha a s b H _ I h) λu d ⟨x,q,o,g,j⟩=>?_);exact dF (m Z a d b q _ o j) λr v ⟨xs,p,n,f,i⟩=>⟨x::xs,p,n,.cons g f,i⟩
def Lr(t:TA):TE:=λb H Q=>t b H λxs a=>xs.length<=PZ/\∀p,a p=Pn->Q (.ref p) (bS a p (.tup xs))
def NQ(t:TA):TE:=λb H Q=>t b H λxs a=>xs.length<=PZ/\∀p,a p=Pn->Q (.ref p) (bS a p (.lst xs))
theorem jU{x1}(h:PA X Y t):PE X (.Tuple Y x1 Z) (Lr t):=by intro a s g H Q I j;refine wpAny_Tuple_spliced (dF (h Z a s g H _ I j) λi d ⟨xs,m,f,r,z,q⟩=>⟨by rw[<-r.length];exact z,?_⟩);have l:=f.Ro.fresh (PF _);refine⟨.ref d.heap.objs.size,bS m d.heap.objs.size (.tup xs),f.laid (λb u e=>br _ e) (PF _) ?_,rfl,q _ l⟩;exact⟨z,i,r,⟨_,b0 _ rfl,⟨rfl,_,rfl⟩,rfl⟩⟩
theorem jX(h:PA X Y t):PE X (.List Y Z) (NQ t):=by intro a s g H Q I j;refine wpAny_List_spliced (dF (h Z a s g H _ I j) λi d ⟨xs,m,f,r,z,q⟩=>⟨by rw[<-r.length];exact z,?_⟩);have l:=f.Ro.fresh (PF _);refine⟨.ref d.heap.objs.size,bS m d.heap.objs.size (.lst xs),f.laid (λb u e=>br _ e) (PF _) ?_,rfl,q _ l⟩;exact⟨z,i,0,r,b0 _ rfl⟩
end
abbrev Sp:=bb V->Hp->VK->XK->Prop
abbrev xl:=bb Env->Hp->Px->XK->Pq->Px->Prop
structure Env0(P:Qc)(w:Qt)(K:Po)(mg:Str->bg Pq)(base:Heap)(A:Ql)(outer:bb Env)(s:Px)(H:Hp):Prop where
 frames:A.frames=Bn outer
 mod:Mod K mg base
 bs:∀b o,base.get? b=Bn o->s.heap.get? b=Bn o/\H b=Pn
 Za:base.objs.size<=s.heap.objs.size
 Vx:s.heap.FunFrames base outer
 ZY:∀b∈C6 outer,H b=Pn
 Ro:Vf P w H s.heap
 bare:AllBare s.gens
def CE(outer:bb Env)(P:Qc)(w:Qt)(H:Hp)(s:Px)(Q:VK)(u:Pq)(a:Px):Prop:=
 ∃v H',a.os=s.os/\AllBare a.gens/\Un (C6 outer) [] H H' s.heap a.heap/\Vf P w H' a.heap/\RelV v u/\Q v H'
def CR(b:xl)(outer:bb Env)(P:Qc)(w:Qt)(H:Hp)(s:Px)(Q:VK)(E:XK)(r:WC)(a:Px):Prop:=
 match r with
 |.ok (.ret u)=>CE outer P w H s Q u a
 |.ok _=>False
 |.error e=>b outer H s E e a
structure FnOk(P:Qc)(w:Qt)(K:Po)(mg:Str->bg Pq)(base:Heap)(CX:xl)(k:Nat)(f:Pz)(fd:Q6)(ps:bb Str)(sp:Sp):Prop where
 len:∀vs H Q E,sp vs H Q E->vs.length=ps.length
 run:∀(A:Ql) (outer:bb Env) (s:Px) (H:Hp) (args:Args) (us:bb Pq) (vs:bb V) (Q:VK) (E:XK),Sg k A->Env0 P w K mg base A outer s H->VG s fd args (ps.zip us)->Vals vs us->sp vs H Q E->
  codeAny (model P w) A (.call (.ref f) args) (CR CX outer P w H s Q E) s
theorem FnOk.imp{P:Qc}{w:Qt}{K:Po}{mg:Str->bg Pq}{base:Heap}{g:xl}{k:Nat}{f:Pz}{e:Q6}{ps:bb Str}{sp b:Sp}(F:FnOk P w K mg base g k f e ps sp)
  (h:∀vs H Q E,b vs H Q E->sp vs H Q E):FnOk P w K mg base g k f e ps b:=
 ⟨λvs H Q E q=>F.len vs H Q E (h _ _ _ _ q),λA a s H d i vs Q E m n o j l=>F.run A a s H d i vs Q E m n o j (h _ _ _ _ l)⟩
theorem Env0.make{K:Po}(e:Env0 P w K mg base A outer s H)(C:Pz)(us:bb Pq)(a:bb (Str×Pq)):
  Env0 P w K mg base (A.under (.builtin "type.__call__" ⟨.ref C::us,a⟩)) outer s H:=⟨by first|exact e.frames|(simpa [Ql.under,Yg.envs,Yg.isFrame,pushEnvs]using e.frames),e.mod,e.bs,e.Za,e.Vx,e.ZY,e.Ro,e.bare⟩
section
variable{X:Cx}{Z:bb (Pz×Obj)}{Y:St}{H:Hp}{s U:Px}
theorem Inv.abW(I:Inv X Z Y H s):Env0 X.prog X.w X.K X.mg X.base X.A X.stack s H:=
 ⟨I.ok.frames,I.ok.mod,I.bs,Qz I.ok.Za I.sz,I.stack,I.Ya,I.Ro,I.bare⟩
theorem Inv.after{Q:VK}{u:Pq}(I:Inv X Z Y H s)(h:CE X.stack X.prog X.w H s Q u U):EP X Z Y Q u U:=by obtain⟨v,l,f,a,un,j,r,q⟩:=h;obtain⟨i,g,d,t,e⟩:=U;obtain rfl:e=s.os:=f;exact⟨v,l,I.call (h':=i) (g':=g) (d':=d) (t':=t) (ch:=[]) un j a (λb z=>a5 z (by simp)),r,q⟩
end
def rT(sp:Sp)(b:bb V)(E:XK)(t:TA):TE:=λa H Q=>t a H λvs d=>sp (vs++b) d Q E
def An(C:Pz)(m:Str)(sp:Sp)(f:bb V)(E:XK)(e:TE)(t:TA):TE:=λb H Q=>e b H λx d=>∃a dx fs,x=.ref a/\d a=Bn (.ins C dx fs)/\fs.lookup m=Pn/\
 t b d λvs g=>sp (x::(vs++f)) g Q E
def Gb(C:Pz)(sp:Sp)(d:bb V)(E:XK)(t:TA):TE:=λb H Q=>t b H λvs a=>∀x dx,a x=Pn->a dx=Pn->dx≠x->
 sp (.ref x::(vs++d)) (bS (bS a dx (.own x)) x (.ins C dx [])) (λv e=>v=.Sz/\Q (.ref x) e) E
def Binds(K:Po)(b:Q6)(ps:bb Str)(ds:bb Pq):Prop:=
 ∀(s:Px) (a:bb Pq),K.In s.heap->(a++ds).length=ps.length->VG s b ⟨a,[]⟩ (ps.zip (a++ds))
theorem Binds.all{K:Po}{b:Q6}{ps:bb Str}(h:∀us:bb Pq,us.length=ps.length->bindArgs b ⟨us,[]⟩=pure (ps.zip us)):Binds K b ps []:=λs us _ a=>by rw[Qh]at a⊢;exact .of_eq (h us a)
def i4(f:xl)(X:Cx)(E:XK):Prop:=∀(a:bb (Pz×Obj)) (d:St) (H:Hp) (s:Px) (e:Pq) (b:Px),Inv X a d H s->f X.stack H s E e b->X.xe e b
section
variable{X:Cx}{R:xl}{k:Nat}{f C:Pz}{S:Q6}{ps:bb Str}{sp:Sp}{T:bb V}{ds:bb Pq}{E:XK}{x m:Str}{p Z Y:Pos}{e o:QK}{U:bb QK}{P:TE}{t:TA}
theorem yU{a:bb (Pz×Obj)}{d:St}{H:Hp}{s:Px}{Q:VK}{us:bb Pq}{vs:bb V}(F:FnOk X.prog X.w X.K X.mg X.base R k f S ps sp)(j:Sg k X.A)(n:Binds X.K S ps ds)(hd:Vals T ds)(hx:i4 R X E)
  (I:Inv X a d H s) (r:Vals vs us) (h:sp (vs++T) H Q E):wpAny (model X.prog X.w) X.A (call (.ref f) us) (EP X a d Q) X.xe s:=by
 have g:Vals (vs++T) (us++ds):=r.append hd;have l:(us++ds).length=ps.length:=by rw[<-g.length];exact F.len _ _ _ _ h
 refine Xx (T8 (F.run X.A X.stack s H ⟨us,[]⟩ (us++ds) (vs++T) Q E j I.abW (n s us I.Xu l) g h) λr i b=>?_);cases r with
 |error e=>exact hx a d H s e i I b
 |ok q=>
  cases q with
  |ret u=>exact I.after b
  |next=>exact False.elim b
  |brk=>exact False.elim b
  |cont=>exact False.elim b
theorem IW(F:FnOk X.prog X.w X.K X.mg X.base R k f S ps sp)(g:Sg k X.A)(j:Gl X x)(hm:X.mg x=Bn (.ref f))(i:RX X.K (.ref f)=Pr)(n:Binds X.K S ps ds)(hd:Vals T ds)(hx:i4 R X E)
  (ha:PA X (e::U) t) (u:(x==("__debug__":Str))=Py:=by decide) (l:Qp (e::U) X.env=(Py,eval e X.env)::Qp U X.env:=by rfl) (v:(backTo Z (Qp U X.env)).any (·.1)=Py:=by rfl):
  PE X (.Call (.Name x p) (e::U) [] Z) (rT sp T E t):=by
 intro a s d H Q I h;refine S2 (wz I j hm ?_ u);refine Va I.ok.mod.Yk i (dF (ha Z a s d H _ I h) λy z ⟨vs,B,b,r,q⟩=>⟨b.Xu,?_⟩) l v;exact yU F g n hd hx b r q
theorem Ip{pl:Sem Bool}(B:PE X o P)(c:Ys X.K C)(hm:Meth X.K C m f)(F:FnOk X.prog X.w X.K X.mg X.base R k f S ps sp)(z:Sg k X.A)(G:Binds X.K S ps ds)(hd:Vals T ds)(hx:i4 R X E)(ha:PA X (e::U) t)
  (d9:Qp (e::U) X.env=(Py,eval e X.env)::Qp U X.env:=by rfl) (M:(backTo Z (Qp U X.env)).any (·.1)=Py:=by rfl)
  (y:eval (.Call (.Attribute o m Y) (e::U) [] Z) X.env=(do
   let ov<-eval o X.env
   standAt Y.atName
   let(f,first)<-holding [ov] (getMethod ov m pl)
   callWith Z f first (backTo Z (Qp (e::U) X.env)) (backToKw Z (keywordEach [] X.env))):=by rfl):
  PE X (.Call (.Attribute o m Y) (e::U) [] Z) (An C m sp T E P t):=by
 intro b s d H Q I h;refine WZ (pl:=pl) (dF (B b s d H _ I h) λu j ⟨x,N,i,n,a,dx,fs,J,L,l,q⟩=>?_) y;subst J;obtain rfl:u=Pq.ref a:=n;refine qH i L c hm l ?_;refine Va (first:=[.ref a]) (h₀:=X.base) I.ok.mod.Yk hm.kp (dF (ha Z b j d N _ i q) λus O ⟨vs,H2,g,r,v⟩=>⟨g.Xu,?_⟩) d9 M;exact yU (us:=.ref a::us) (vs:=.ref a::vs) F z G hd hx g (.cons rfl r) v
theorem Fx{pl:Sem Bool}(r:PE X o P)(c:Ys X.K C)(hm:Meth X.K C m f)(F:FnOk X.prog X.w X.K X.mg X.base R k f S ps sp)(n:Sg k X.A)(v:Binds X.K S ps ds)(hd:Vals T ds)(hx:i4 R X E)
  (j:eval (.Call (.Attribute o m Y) [] [] Z) X.env=(do
   let ov<-eval o X.env
   standAt Y.atName
   let(f,first)<-holding [ov] (getMethod ov m pl)
   callWith Z f first (backTo Z (Qp [] X.env)) (backToKw Z (keywordEach [] X.env))):=by rfl):
  PE X (.Call (.Attribute o m Y) [] [] Z) (An C m sp T E P ox):=by
 intro b s g H Q I h;refine WZ (pl:=pl) (dF (r b s g H _ I h) λu B ⟨x,G,d,i,a,dx,fs,y,z,l,q⟩=>?_) j;subst y;obtain rfl:u=Pq.ref a:=i;refine qH d z c hm l ?_;exact PySem.W.callWith_K0 (first:=[.ref a]) d.Xu hm.kp (yU (us:=[.ref a]) (vs:=[.ref a]) F n v hd hx d (.cons rfl .nil) q)
structure Mk(K:Po)(C f:Pz):Prop where
 makes:VP K C=Pr
 init:QN K (.ref C) "__init__"=Bn (Bn (.ref f))
 fn:Vi K (.ref f)=Pr
 kp:RX K (.ref C)=Pr
theorem Fc(M:Mk X.K C f)(F:FnOk X.prog X.w X.K X.mg X.base R k f S ps sp)(l:Sg (k+1) X.A)(q:Binds X.K S ps ds)(hd:Vals T ds)
  (hx:i4 R X E) (I:Inv X pins σ H s) (r:Vals vs us)
  (h:∀x dx,H x=Pn->H dx=Pn->dx≠x->sp (.ref x::(vs++T)) (bS (bS H dx (.own x)) x (.ins C dx [])) (λv H2=>v=.Sz/\Q (.ref x) H2) E):
  wpAny (model X.prog X.w) X.A (call (.ref C) us) (EP X pins σ Q) X.xe s:=by
 have g:=h (s.heap.objs.size+1) s.heap.objs.size (I.Ro.fresh (Rp _)) (I.Ro.fresh (PF _)) (P5 (Tg _));have b:=Inv.made (C:=C) I;have d:Vals (V.ref (s.heap.objs.size+1)::(vs++T)) (Pq.ref (s.heap.objs.size+1)::(us++ds)):=.cons rfl (r.append hd);have n:(Pq.ref (s.heap.objs.size+1)::us++ds).length=ps.length:=by have e:=d.length;rw[F.len _ _ _ _ g]at e;exact e.symm
 refine Xx (E8 I.Xu M.makes M.init (beq_iff_eq.mp M.fn) (T8 (F.run _ X.stack _ _ ⟨Pq.ref (s.heap.objs.size+1)::us,[]⟩ (Pq.ref (s.heap.objs.size+1)::(us++ds)) _ _ E (l.make C us [])
  (b.abW.make C us []) (q _ (Pq.ref (s.heap.objs.size+1)::us) b.Xu n) d g) λr i a=>?_))
 cases r with
 |error e=>exact hx pins σ _ _ e i b a
 |ok y=>
  cases y with
  |ret u=>obtain⟨v,B,z,rv,ev,j⟩:=b.after a;subst ev;exact⟨rv,⟨V.ref (s.heap.objs.size+1),B,z,rfl,j⟩⟩
  |next=>exact False.elim a
  |brk=>exact False.elim a
  |cont=>exact False.elim a
theorem HW(M:Mk X.K C f)(F:FnOk X.prog X.w X.K X.mg X.base R k f S ps sp)(g:Sg (k+1) X.A)(i:Gl X x)(hm:X.mg x=Bn (.ref C))(l:Binds X.K S ps ds)(hd:Vals T ds)(hx:i4 R X E)
  (ha:PA X (e::U) t) (n:(x==("__debug__":Str))=Py:=by decide) (j:Qp (e::U) X.env=(Py,eval e X.env)::Qp U X.env:=by rfl) (u:(backTo Z (Qp U X.env)).any (·.1)=Py:=by rfl):
  PE X (.Call (.Name x p) (e::U) [] Z) (Gb C sp T E t):=by
 intro a s d H Q I h;refine S2 (wz I i hm ?_ n);refine Va I.ok.mod.Yk M.kp (dF (ha Z a s d H _ I h) λv y ⟨vs,z,b,r,q⟩=>⟨b.Xu,?_⟩) j u;exact Fc M F g l hd hx b r q
end
section
variable{X:Cx}{CX:xl}{k:Nat}{f C:Pz}{fd:Q6}{ps ks:bb Str}{sp:Sp}{E:XK}{x m:Str}{p pos apos aiJ:Pos}{e o:QK}{es:bb QK}{kws:bb We}{te ta:TE}{t tk:TA}{nm:bg Str}
structure aeP(K:Po)(fd:Q6)(ps ks:bb Str)(g:bb Pq->bb Pq->bb Pq)(gV:bb V->bb V->bb V):Prop where
 to:∀(s:Px) (us ws:bb Pq),K.In s.heap->(g us ws).length=ps.length->VG s fd ⟨us,ks.zip ws⟩ (ps.zip (g us ws))
 rel:∀{vs:bb V} {us:bb Pq} {zs:bb V} {ws:bb Pq},Vals vs us->Vals zs ws->Vals (gV vs zs) (g us ws)
variable{g:bb Pq->bb Pq->bb Pq}{gV:bb V->bb V->bb V}
end
structure TX(N P:bb Str)(sc:TL):Prop where
 kind:sc.kind=.function
 co:sc.isCoroutine=Py
 gen:sc.isGenerator=Py
 nd:N.Nodup
 pre:N.take P.length=P
 par:∀x∈P,sc.names.lookup x=Bn .local\/sc.names.lookup x=Bn .cell
 aas:∀y∈sc.names,y.2≠.free
theorem ul{a:Str->bg Qn}:∀{binds:bb (Str×Pq)} {m:Str->bg Pq},(∀v,(x,v)∉binds)->bindL a binds m x=m x
 |[],_,_=>rfl
 |(n,v)::r,m,h=>by
  unfold bindL;rw[ul λw b=>h w (PD _ b)];split
  .have:x≠n:=by rintro rfl;exact h v PH
   simp[this]
  .rfl
theorem uq{a:Str->bg Qn}:∀{binds:bb (Str×Pq)} {m:Str->bg Pq},(∀v,(x,v)∉binds)->bindC a binds m x=m x
 |[],_,_=>rfl
 |(n,v)::r,m,h=>by
  unfold bindC;rw[uq λw b=>h w (PD _ b)];split
  .rfl
  .have:x≠n:=by rintro rfl;exact h v PH
   simp[this]
theorem uA{kindOf:Str->bg Qn}:∀{P:bb Str} {vs:bb Pq} {i:Nat} {m:Str->bg Pq},P.Nodup->P[i]?=Bn x->vs[i]?=Bn v->kindOf x=Bn .local->
  bindL kindOf (P.zip vs) m x=Bn v
 |[],_,_,_,_,h,_,_=>by simp at h
 |_::_,[],_,_,_,_,h,_=>by simp at h
 |p::P,w::vs,0,m,nd,h1,h2,hk=>by simp at h1 h2;subst h1;subst h2;show bindL kindOf ((p,w)::P.zip vs) m p=_;unfold bindL;rw[ul λv hv=>(Q3.mp nd).1 (Ts hv).1,av hk];simp
 |p::P,w::vs,i+1,m,nd,h1,h2,hk=>by unfold bindL;exact uA (Q3.mp nd).2 (by simpa using h1) (by simpa using h2) hk
theorem tS{kindOf:Str->bg Qn}:∀{P:bb Str} {vs:bb Pq} {i:Nat} {m:Str->bg Pq},P.Nodup->P[i]?=Bn x->vs[i]?=Bn v->kindOf x≠Bn .local->
  bindC kindOf (P.zip vs) m x=Bn v
 |[],_,_,_,_,h,_,_=>by simp at h
 |_::_,[],_,_,_,_,h,_=>by simp at h
 |p::P,w::vs,0,m,nd,h1,h2,hk=>by simp at h1 h2;subst h1;subst h2;show bindC kindOf ((p,w)::P.zip vs) m p=_;unfold bindC;rw[uq λv hv=>(Q3.mp nd).1 (Ts hv).1,ax hk];simp
 |p::P,w::vs,i+1,m,nd,h1,h2,hk=>by unfold bindC;exact tS (Q3.mp nd).2 (by simpa using h1) (by simpa using h2) hk
def start(N:bb Str)(vs:bb V):St:=vs.map Bn++PK (N.length - vs.length) Pn
def rY(h:xl)(P:Qc)(w:Qt)(K:Po)(mg:Str->bg Pq)(base:Heap)(N:bb Str)(b:Str)(a:TL)(f:Pz)(g:Pq)(A:Ql)(outer:bb Env)(s:Px)(H:Hp)(E:XK):Cx where
 prog:=P
 w:=w
 K:=K
 mg:=mg
 base:=base
 A:=A.deeper (envOfC b a s.heap.objs.size f g)
 N:=N
 s₀:=s
 H₀:=H
 env:=envOfC b a s.heap.objs.size f g
 outer:=outer
 stack:=envOfC b a s.heap.objs.size f g::outer
 ex:=[]
 calm:=Pr
 fn:=λ_=>Pr
 pn:=[]
 xe:=λe i=>wpAny (model P w) (A.deeper (envOfC b a s.heap.objs.size f g)) (leaving (envOfC b a s.heap.objs.size f g) e) (λ_ d=>h outer H s E e d) (λj d=>h outer H s E j d) i
theorem yj{a:TL}(h:a.names.lookup x=Bn .cell):∃c,(RH n a.names []).lookup x=Bn c:=by have q:=SM a.names n [] (.inl h);exact Wo.mp q
theorem CH{K:Po}
  (S:TX N ps scope) (hd:A.handled=Pn) (e0:Env0 P w K mg base A outer s H) (C:vs.length=ps.length) (r:Vals vs us)
  (x:InCallC s s.heap.objs.size (bindL (envOfC qual scope s.heap.objs.size f cd).kindOf (ps.zip us) λ_=>Pn) (RH (s.heap.objs.size+1) scope.names []) (bindC (envOfC qual scope s.heap.objs.size f cd).kindOf (ps.zip us) λ_=>Pn) s1):
  Inv (rY CX P w K mg base N qual scope f cd A outer s H E) [] (start N vs) H s1:=by
 have G:ps.length<=N.length:=by have:=di U0 S.pre;rw[QH]at this;ext
 obtain⟨n,B,rfl,t⟩:=x.done;have g:∀b:Pz,b∉(rY CX P w K mg base N qual scope f cd A outer s H E).ex:=λb z=>a5 (show b∈([]:bb Pz)from z) (by simp);refine⟨⟨e0.mod,S.kind,rfl,rfl,PF _,λy z c n d=>?_,λy j=>?_,λy c _ h=>?_,λ_=>hd,Ql.frames_deeper e0.frames,.inr ⟨rfl,rfl⟩,λb z=>a5 z (g b),e0.bs,e0.Za,λb _ _=>g b,λb z=>a5 z (g b),e0.Vx,e0.ZY⟩,
  rfl,e0.bare,Un.kept t,⟨_,x.toInCall.ns,λi y v n d F=>?_⟩,λy c h=>⟨_,x.cell y c h⟩,e0.Ro.fresh (PF _),λy c h=>?_,λp m=>a5 (show p∈([]:bb (Pz×Obj))from m) (by simp),e0.Ro.kept t,?_⟩
 .exact name_of_addr x.apart (Rt n) (Rt d)
 .have j:=j
  rcases j with j|j
  .exact yj j
  .exact a5 rfl (S.aas _ (Rt j))
 .exact UC (x.above y c (Rt h))
 .have hi:i<vs.length:=by
   unfold start at d;by_cases hi:i<vs.length
   .exact hi
   .rw[Qq (by simpa using hi)]at d;rw[R8]at d;split at d<;>cases d
  have ha:vs[i]?=Bn v:=by
   unfold start at d;rw[P9 (by simpa using hi),PU]at d;cases e:vs[i]? with
   |none=>rw[e]at d;cases d
   |some a=>rw[e]at d;cases d;rfl
  obtain⟨u,o,rv⟩:=r.get ha;have m:ps[i]?=Bn y:=by rw[<-S.pre,W0 (by ext)];exact n
  have l:ps.Nodup:=by rw[<-S.pre];exact S.nd.sublist (List.take_sublist _ _)
  refine⟨u,rv,?_⟩;rcases S.par y (Qs m)with k|k
  .exact .inl ⟨k,uA l m o k⟩
  .obtain⟨c,e⟩:=yj k;refine .inr ⟨.inl k,c,e,?_⟩;have q:=x.cell y c e;rw[tS l m o (by show scope.names.lookup y≠_;rw[k];decide)]at q;exact q
 .exact e0.Ro.fresh (UC (x.above y c (Rt h)))
 .unfold start;show _=N.length;rw[PJ,Pp,Qg];ext
theorem NN{CX:xl}{P:Qc}{w:Qt}{K:Po}{mg:Str->bg Pq}{base:Heap}{k:Nat}{f:Pz}{name qual:Str}{params:Arguments}{body:bb Sr}{scope:TL}{dV kV doc pm R0 ct oc:Pq}{an od:bg Pz}
  {YX:Array (bg Pq)} {N ps:bb Str} {sp:Sp} (lk:K.lookup f=Bn ⟨oc,od,.func (Ss name qual params body scope dV kV doc pm an R0 ct),YX⟩) (YG:UE K R0 qual=Pr) (S:TX N ps scope)
  (len:∀vs H Q E,sp vs H Q E->vs.length=ps.length)
  (Uc:∀(A:Ql) (outer:bb Env) (s:Px) (H:Hp) (vs:bb V) (Q:VK) (E:XK),Sg k (A.deeper (envOfC qual scope s.heap.objs.size f R0))->sp vs H Q E->
   ∃t,Wm (rY CX P w K mg base N qual scope f R0 A outer s H E) body t/\t {nx:=λ_ H'=>Q .Sz H',rt:=Q} (start N vs) H):
  FnOk P w K mg base CX (k+1) f (Ss name qual params body scope dV kV doc pm an R0 ct) ps sp:=by
 refine⟨len,λA outer s H args us vs Q E hr e0 hb r hsp=>?_⟩;have hl:=len _ _ _ _ hsp;have KX:K.In s.heap:=e0.mod.Yk.keeps λb o e=>(e0.bs b o e).1;have lim:s.heap.NoLimit:=e0.mod.nolimit.keeps λb o e=>(e0.bs b o e).1;have TY:∀y∈ps.zip us,scope.names.lookup y.1=Bn .local\/(scope.names.lookup y.1=Bn .cell/\((RH (s.heap.objs.size+1) scope.names []).lookup y.1).isSome=Pr):=λ⟨n,v⟩ hy=>by
  rcases S.par n (Ts hy).1 with q|q
  .exact .inl q
  .exact .inr ⟨q,SM _ _ _ (.inl q)⟩
 refine codeAny_call_function hr.depth (KX _ _ lk) rfl S.co S.gen rfl (PySem.W.codeRec_of KX YG) (hb _ _ _ _ ?_);refine wpAny_newFunctionEnv_cells S.kind TY λenv he s1 x=>?_;subst he;refine⟨lim.keeps x.toInCall.keep,codeAny_func ?_⟩;obtain⟨t,ht,hq⟩:=Uc A outer s H vs Q E (hr.deeper _) hsp;have I:Inv (rY CX P w K mg base N qual scope f R0 A outer s H E) [] (start N vs) H s1:=CH S hr.hd e0 hl r x;refine wpAny_mono (ht [] s1 (start N vs) H _ I hq) (λfl s' hs=>?_) λe s' hs=>hs
 have fin:∀{σ':St} {H':Hp} {v:V} {u:Pq},Inv (rY CX P w K mg base N qual scope f R0 A outer s H E) [] σ' H' s'->RelV v u->Q v H'->CE outer P w H s Q u s':=
  λ{σ' H' v u} J rv q=>⟨v,H',J.os,J.bare,J.base,J.Ro,rv,q⟩
 cases fl with
 |ret u=>obtain⟨v,σ',H',J,rv,q⟩:=hs;exact fin J rv q
 |next=>obtain⟨σ',H',J,q⟩:=hs;exact fin (v:=V.Sz) (u:=Pq.none) J rfl q
 |brk=>obtain⟨_,_,_,q⟩:=hs;exact False.elim q
 |cont=>obtain⟨_,_,_,q⟩:=hs;exact False.elim q
section
variable{X:Cx}{x:Str}{p Z:Pos}{e:QK}{Y:bb QK}{t:TA}{id T:String}{r:bb V->Hp->VK->Prop}
def C8(r:bb V->Hp->VK->Prop)(t:TA):TE:=λa H Q=>t a H λvs b=>r vs b Q
theorem cI(n:Sm X (.builtin id) r)(l:Gl X x)(hm:X.mg x=Pn)(j:QY x=Bn (.builtin id))(ha:PA X (e::Y) t)(hn:x≠ "__name__":=by decide)(o:(x==("__debug__":Str))=Py:=by decide)
  (m:Qp (e::Y) X.env=(Py,eval e X.env)::Qp Y X.env:=by rfl) (q:(backTo Z (Qp Y X.env)).any (·.1)=Py:=by rfl):PE X (.Call (.Name x p) (e::Y) [] Z) (C8 r t):=by
 intro a s b H Q I h;refine S2 (rX I l hm j ?_ hn o);exact acA (dF (ha Z a s b H _ I h) λd f ⟨vs,v,u,g,i⟩=>n a f b v vs d Q u g i) m q
theorem d4(n:Sm X (.type T) r)(l:Gl X x)(hm:X.mg x=Pn)(j:QY x=Bn (.type T))(ha:PA X (e::Y) t)(hn:x≠ "__name__":=by decide)(o:(x==("__debug__":Str))=Py:=by decide)
  (m:Qp (e::Y) X.env=(Py,eval e X.env)::Qp Y X.env:=by rfl) (q:(backTo Z (Qp Y X.env)).any (·.1)=Py:=by rfl):PE X (.Call (.Name x p) (e::Y) [] Z) (C8 r t):=by
 intro a s b H Q I h;refine S2 (rX I l hm j ?_ hn o);exact S4 (dF (ha Z a s b H _ I h) λd f ⟨vs,v,u,g,i⟩=>n a f b v vs d Q u g i) m q
end
end L2
namespace HT
open PySem PyProof.Rows
section
open PySem.SeqAt
open PySem.AutoSeq1 (wpAny_loadPart')
open PySem.MeetsSeq PySem.MeetsSeq2 PySem.MeetsSeq3
end
section
variable{prog:Qc}{w:Qt}{A:Ql}{E:Pq->Px->Prop}{s:Px}
theorem cat_tup{t b:Pz}{vs ws:bb Pq}{Q:Pq->Px->Prop}(r:IsTup s.heap t vs.toArray)(u:IsTup s.heap b ws.toArray)(m:vs≠[])
  (h1:ws=[]->Q (.ref t) s) (v:ws≠[]->Q (.ref s.heap.objs.size) {s with heap:=s.heap.push {cls:=.type "tuple",data:=.seq (vs++ws).toArray}})
  (hsz:vs.length+ws.length<=PZ):wpAny (model prog w) A (RM .Add (.ref t) (.ref b)) Q E s:=by
 obtain⟨⟨cls,dd,data,sl⟩,i,p,n,o⟩:=id r;obtain⟨⟨y,g,j,q⟩,a,f,l,d⟩:=id u;simp only at p o f d;subst p o f d;have e:vs.toArray++ws.toArray=(vs++ws).toArray:=by simp
 by_cases h:ws=[]
 .exact concat_meets ⟨_,i,rfl⟩ ⟨_,a,rfl⟩ abw afc WG Wr (Wf _ _)
   (tuple_addW1 t b vs.toArray ws.toArray n l dd g sl q (by simpa using m) (by simp[h])) ⟨i,a,h1 h⟩
 .refine concat_meets ⟨_,i,rfl⟩ ⟨_,a,rfl⟩ abw afc WG Wr (Wf _ _)
   (tuple_addW2 t b vs.toArray ws.toArray n l dd g sl q (by simpa using m) (by simpa using h) (by rw[PX,PX];exact hsz)) ⟨i,a,?_⟩
  rw[e];exact v h
def sIx(n d:Nat):bg Int->Nat
 |none=>d
 |some v=>if v<0 then(v+(n:Int)).toNat else min v.toNat n
theorem sIx_nat(n d k:Nat):sIx n d (Bn (k:Int))=min k n:=by show(if(k:Int)<0 then((k:Int)+(n:Int)).toNat else min (k:Int).toNat n)=min k n;rw[ax (by ext),Q8]
theorem Kc(n d:Nat)(hd:d<=n)(o:bg Int):sIx n d o<=n:=by
 cases o with
 |none=>exact hd
 |some v=>
  show(if v<0 then(v+(n:Int)).toNat else min v.toNat n)<=n;by_cases a:v<0
  .rw[av a];ext
  .rw[ax a];exact V1 _ _
theorem Bh(v:Int)(n d:Nat):(if v<0 then max (v+(n:Int)) 0 else min v (n:Int))=((sIx n d (Bn v):Nat):Int):=by
 show(if v<0 then max (v+(n:Int)) 0 else min v (n:Int))=(((if v<0 then(v+(n:Int)).toNat else min v.toNat n):Nat):Int);by_cases a:v<0
 .simp only[av a];ext
 .simp only[ax a];ext
theorem zM(lo hi:bg Int)(n:Nat):Qe.Slice.sliceAdjust lo hi 1 (n:Int)=(((sIx n 0 lo:Nat):Int),((sIx n n hi:Nat):Int)):=by
 have a:¬((1:Int)<0):=by ext
 unfold Qe.Slice.sliceAdjust;simp only[a,if_false];refine Prod.ext ?_ ?_
 .cases lo with
  |none=>rfl
  |some v=>exact Bh v n 0
 .cases hi with
  |none=>rfl
  |some v=>exact Bh v n n
theorem z7(i j:Nat):Qe.Slice.slicePlaces (i:Int) (j:Int) 1=j - i:=by
 unfold Qe.Slice.slicePlaces;have a:(1:Int)>0:=by ext
 simp only[a,if_true,Int.ediv_one];split<;>ext
theorem rn(p:Vr v o)(h:Q o s):wpAny (model prog w) A (Qe.Slice.slicePartIndex v) Q E s:=by
 cases p with
 |none=>exact slicePart_none h
 |int i t=>exact slicePart_int h
theorem jt{lo hi:bg Int}{Q:Int×Int×Nat->Px->Prop}(e:s.heap.IsSliceOf sl vl vu .none)(pl:Vr vl lo)(d:Vr vu hi)
  (h:Q (((sIx n 0 lo:Nat):Int),1,sIx n n hi - sIx n 0 lo) s):wpAny (model prog w) A (Qe.Slice.sliceApplied (.ref sl) (pure (n:Int))) Q E s:=by
 obtain⟨g,a,f,b⟩:=id e;unfold Qe.Slice.sliceApplied Qe.Slice.sliceFields;refine Ld (Ld (Q7 a b rfl (Ld (Q7 a b rfl (Ld (Q7 a b rfl (Pt ?_)))))));refine Ld (slicePart_none ?_);rw[ax (by decide)];refine Ld (rn pl (Ld (rn d (Ld (Pt ?_)))));show wpAny _ _ (match Qe.Slice.sliceAdjust lo hi 1 (n:Int)with|(lo,hi)=>pure (lo,(1:Int),Qe.Slice.slicePlaces lo hi 1)) _ _ s;rw[zM lo hi n];show wpAny _ _ (pure (((sIx n 0 lo:Nat):Int),(1:Int),Qe.Slice.slicePlaces ((sIx n 0 lo:Nat):Int) ((sIx n n hi:Nat):Int) 1)) _ _ s;rw[z7];exact Pt h
theorem Gx(xs:Array Pq)(i k:Nat):((P0 k).filterMap λ(m:Nat)=>xs[((i:Int)+(m:Int)*1).toNat]?).toArray=((xs.toList.drop i).take k).toArray:=by
 have e:(λ(m:Nat)=>xs[((i:Int)+(m:Int)*1).toNat]?)=λm=>xs[i+m]? :=by
  funext m;have:((i:Int)+(m:Int)*1).toNat=i+m:=by ext
  rw[this]
 rw[e];have:=pick_run xs i k;rw[List.filterMap_map]at this;have a:((λx=>xs[x]?)∘λx=>i+x)=λm=>xs[i+m]? :=rfl;rw[a]at this;rw[this]
theorem getItem_tuple_cut{lo hi:bg Int}(a:IsTup s.heap t items)(i:s.heap.IsSliceOf sl vl vu .none)(pl:Vr vl lo)(j:Vr vu hi)
  (m:¬(sIx items.size 0 lo=0/\sIx items.size items.size hi=items.size))
  (h:Q (.ref s.heap.objs.size) {s with heap:=s.heap.push {cls:=.type "tuple",data:=.seq ((items.toList.drop (sIx items.size 0 lo)).take (sIx items.size items.size hi - sIx items.size 0 lo)).toArray}})
  (hsz:items.size<=PZ):wpAny (model prog w) A (getItem (.ref t) (.ref sl)) Q E s:=by
 have b:sizeOk (.seq ((items.toList.drop (sIx items.size 0 lo)).take (sIx items.size items.size hi - sIx items.size 0 lo)).toArray):=by show((items.toList.drop (sIx items.size 0 lo)).take (sIx items.size items.size hi - sIx items.size 0 lo)).toArray.size<=PZ;rw[PX,QH,VV,Qf];ext
 have r:sIx items.size items.size hi<=items.size:=Kc _ _ (PF _) hi;obtain⟨l,d,f,n⟩:=id i;have g:s.TypeIs (.ref sl) "slice":=⟨l,d,f⟩;unfold getItem
 try specialize Q1 ?_
 first|refine Ld (Pt ?_)|skip
 refine Ld (aaU a.typeIs (by decide) ?_);refine Ld (QG a.typeIs QR
  (QC QR a.typeIs entry_tuple_getitem ?_ (args_tuple_getitem _ _)))
 show wpAny _ _ (Qe.Tuple.tupleItemsOf (.ref t)>>=_) _ _ s;refine Ld (tupleItemsOf_ a ?_);refine Ld (Ti g ?_);rw[av (by decide)];refine Ld (jt i pl j ?_);have e:¬((((sIx items.size 0 lo:Nat):Int)==0&&(1:Int)==1&&(sIx items.size items.size hi - sIx items.size 0 lo)==items.size)=Pr):=by intro q;rw[P2,P2]at q;have p:=eq_of_beq q.1.1;have o:=eq_of_beq q.2;exact m ⟨by ext,by ext⟩
 show wpAny _ _ (if(((sIx items.size 0 lo:Nat):Int)==0&&(1:Int)==1&&(sIx items.size items.size hi - sIx items.size 0 lo)==items.size)=Pr then _ else _) _ _ s;rw[ax e,Gx]
 first
  |exact Ld (QE (Pt ⟨_,rfl,Pt h⟩) b)
  |exact Ld (QE (Ld (Pt (Pt ⟨_,rfl,Pt h⟩))) b)
  |exact Ld (Ld (QE (Pt (Pt ⟨_,rfl,Pt h⟩)) b))
  |exact Ld (Ld (QE (Pt ⟨_,rfl,Pt h⟩) b))
end
end HT
namespace L2
open PySem PySem.Spec PyProof.Rows
abbrev TO:=St->Hp->(bg Int->Hp->Prop)->Prop
def PO(X:Cx)(e:bg QK)(t:TO):Prop:=
 ∀(a:bb (Pz×Obj)) (s:Px) (b:St) (H:Hp) (Q:bg Int->Hp->Prop),Inv X a b H s->t b H Q->
  wpAny (model X.prog X.w) X.A (evalPart e X.env) (λu d=>∃o H',Inv X a b H' d/\Vr u o/\Q o H') X.xe s
def Au:TO:=λ_ H Q=>Q Pn H
def Dy(t:TE):TO:=λa H Q=>t a H λx b=>∃i,x=.int i/\Q (Bn i) b
theorem iz:∀{us:bb Pq},Vals (ns.map V.int) us->IntsAre us ns:=by
 induction ns with
 |nil=>intro us r;rw[Uz]at r;cases r;exact .nil
 |cons n ns d=>
  intro us r;rw[PY]at r;cases r with
  |cons b a=>obtain⟨t,e⟩:=b;subst e;exact .cons n t (d a)
section
variable{X:Cx}{e:QK}{U:TE}{Z Y:bg QK}{S R:TO}{O P:Pos}
theorem uP:PO X Pn Au:=by intro a s b H Q I h;rw[afd];exact Pt ⟨Pn,H,I,.none,h⟩
theorem vv(h:PE X e U):PO X (Bn e) (Dy U):=by intro a s b H Q I g;rw[evalPart_some];refine dF (h a s b H _ I g) λu m ⟨x,l,j,d,f⟩=>?_;obtain⟨i,rfl,q⟩:=f;obtain⟨t,rfl⟩:=d;exact⟨Bn i,l,j,.int i t,q⟩
def MA(X:Cx)(r:V->bg Int->bg Int->Hp->VK->Prop):Prop:=
 ∀(a:bb (Pz×Obj)) (s:Px) (b:St) (H:Hp) (x:V) (v f d:Pq) (Z Y:bg Int) (sl:Pz) (Q:VK),Inv X a b H s->RelV x v->s.heap.IsSliceOf sl f d .none->Vr f Z->Vr d Y->r x Z Y H Q->
  ∃T id,typeLookup (.type T) "__getitem__"=pure (Bn (.builtin id))/\s.TypeIs v T/\wpAny (model X.prog X.w) X.A (getItem v (.ref sl)) (EP X a b Q) X.xe s
def Ow(r:V->bg Int->bg Int->Hp->VK->Prop)(U:TE)(S R:TO):TE:=λa H Q=>U a H λx f=>S a f λl d=>R a d λu b=>r x l u b Q
theorem ro{r:V->bg Int->bg Int->Hp->VK->Prop}(E:MA X r)(J:PE X e U)(F:PO X Z S)(B:PO X Y R):PE X (.Subscript e (.Slice Z Y Pn P) O) (Ow r U S R):=by intro a s f H Q I h;refine Subscript_ (dF (J a s f H _ I h) λv n ⟨x,H1,I1,o,y⟩=>?_);refine wpAny_Slice (dF (F a n f H1 _ I1 y) λi m ⟨l,H2,N,pl,t⟩=>dF (B a m f H2 _ N t) λg d ⟨u,j,M,z,p⟩=>?_);rw[afd];refine Pt ?_;have L:Inv X a f j {d with heap:=d.heap.push {cls:=.type "slice",data:=.fields #[i,g,.none]}}:=M.kept (t':=d.toks) λb ob q=>br _ q;obtain⟨T,id,K,C,G⟩:=E a {d with heap:=d.heap.push {cls:=.type "slice",data:=.fields #[i,g,.none]}} f j x v i g l u d.heap.objs.size Q L o (Heap.IsSliceOf.new ..) pl z p;show wpAny (model X.prog X.w) X.A (subscriptTail e (.Slice Z Y Pn P) v (.ref d.heap.objs.size)) (EP X a f Q) X.xe {d with heap:=d.heap.push {cls:=.type "slice",data:=.fields #[i,g,.none]}};exact tail_any (ops:=[.ref d.heap.objs.size,v]) C K G (by with_unfolding_all rfl)
def xM(xs:bb V)(Z Y:bg Int):bb V:=(xs.drop (HT.sIx xs.length 0 Z)).take (HT.sIx xs.length xs.length Y - HT.sIx xs.length 0 Z)
theorem pf(xs:bb V)(Z Y:bg Int):(xM xs Z Y).length<=xs.length:=by unfold xM;rw[QH,VV];ext
def Nt(K:Po):V->bg Int->bg Int->Hp->VK->Prop:=λx Z Y H Q=>∃a xs,x=.ref a/\Uj K H a xs/\
 ¬(HT.sIx xs.length 0 Z=0/\HT.sIx xs.length xs.length Y=xs.length)/\∀p,H p=Pn->Q (.ref p) (bS H p (.tup (xM xs Z Y)))
theorem Mf:MA X (Nt X.K):=by
 intro f s t H x v w u Z Y sl Q I j o pl l h;obtain⟨a,xs,rfl,m,n,q⟩:=h;cases j;obtain⟨p,r,i,g⟩:=I.tuple m;have d:p.toArray.size=xs.length:=by rw[PX];exact r.length.symm
 refine⟨"tuple",_,QR.lookup,i.typeIs,?_⟩;refine HT.getItem_tuple_cut i o pl l (by rw[d];exact n) ?_ (by rw[d];exact g);rw[d];refine⟨.ref s.heap.objs.size,_,I.laid (λb y q=>br _ q) (PF _) ?_,rfl,q _ (I.Ro.fresh (PF _))⟩;exact⟨Qz (pf xs Z Y) g,_,(r.drop (HT.sIx xs.length 0 Z)).take (HT.sIx xs.length xs.length Y - HT.sIx xs.length 0 Z),VU.new _ _⟩
def Jo(K:Po):R2:=λx y H Q=>∃a b xs ys,x=.ref a/\y=.ref b/\Uj K H a xs/\Uj K H b ys/\xs≠[]/\xs.length+ys.length<=PZ/\
 (ys=[]->Q (.ref a) H)/\(ys≠[]->∀p,H p=Pn->Q (.ref p) (bS H p (.tup (xs++ys))))
theorem Vals.WO(r:Vals xs us):us=[]↔xs=[]:=by
 cases r with
 |nil=>simp
 |cons _ _=>simp
theorem HE:OpR X (RM .Add) (Jo X.K):=by intro g s t H x y v u Q I l j h;obtain⟨a,b,xs,A,rfl,rfl,ha,r,p,i,n,m⟩:=h;cases l;cases j;obtain⟨E,f,o,_⟩:=I.tuple ha;obtain⟨C,d,P,_⟩:=I.tuple r;refine HT.cat_tup o P (λz=>p (f.WO.mp z)) (λz=>⟨.ref a,H,I,rfl,n (d.WO.mp z)⟩) (λz=>?_) (by rw[<-f.length,<-d.length];exact i);refine⟨.ref s.heap.objs.size,_,I.laid (λb B q=>br _ q) (PF _) ?_,rfl,m (λw=>z (d.WO.mpr w)) _ (I.Ro.fresh (PF _))⟩;exact⟨by rw[PJ];exact i,_,f.append d,VU.new _ _⟩
end
def JH(n:Nat)(i:Int):bg Nat:=if 0<=i then(if i<n then Bn i.toNat else Pn)else if -(n:Int)<=i then Bn (i+n).toNat else Pn
def lO(xs:bb α)(i:Int):bg α:=(JH xs.length i).bind λj=>xs[j]?
theorem IP(h:JH n i=Bn j):seqIndex? i n=Bn j/\j<n/\ -(n:Int)<=i/\i<n:=by
 unfold JH at h;by_cases b:0<=i
 .rw[av b]at h
  by_cases a:i<n
  .rw[av a]at h;have e:=P4 h;exact⟨by rw[seqIndex_of b a,e],by ext,by ext,a⟩
  .rw[ax a]at h;cases h
 .rw[ax b]at h
  by_cases a: -(n:Int)<=i
  .rw[av a]at h;have e:=P4 h;exact⟨by rw[seqIndex_neg (by ext) a,e],by ext,a,by ext⟩
  .rw[ax a]at h;cases h
theorem vQ(h:lO xs i=Bn v):∃j,seqIndex? i xs.length=Bn j/\xs[j]?=Bn v/\j<xs.length/\ -(xs.length:Int)<=i/\i<xs.length:=by
 unfold lO at h;cases e:JH xs.length i with
 |none=>rw[e]at h;cases h
 |some j=>rw[e]at h;obtain⟨f,d,b,a⟩:=IP e;exact⟨j,f,h,d,b,a⟩
theorem Ah{j:Nat}(h:xs[j]?=Bn v):lO xs (j:Int)=Bn v:=by
 have a:=(Pu.mp h).1;have e:JH xs.length (j:Int)=Bn j:=by unfold JH;rw[av (by ext),av (by ext)];simp
 unfold lO;rw[e];exact h
def HY(b:QK):Prop:=∀o i,subscripted b Py o i=operate [o,i] (getItem o i)
def ZD(X:Cx)(r:R2):Prop:=
 ∀(d a:QK) (b:bb (Pz×Obj)) (s:Px) (e:St) (H:Hp) (x y:V) (v u:Pq) (Q:VK),Inv X b e H s->RelV x v->RelV y u->r x y H Q->
  subscripted a Py v u=operate [v,u] (getItem v u)->wpAny (model X.prog X.w) X.A (subscriptTail d a v u) (EP X b e Q) X.xe s
def Oi(X:Cx)(e:String)(r:V->bb V->Hp->VK->Prop):Prop:=
 ∀(a:bb (Pz×Obj)) (s:Px) (b:St) (H:Hp) (x:V) (xs:bb V) (v:Pq) (d:bb Pq) (Q:VK),Inv X a b H s->RelV x v->Vals xs d->r x xs H Q->
  wpAny (model X.prog X.w) X.A (call (.builtin e) (v::d)) (EP X a b Q) X.xe s
section
variable{X:Cx}{a b:QK}{ta tb:TE}{Z:Pos}
theorem ZD.or(h:ZD X r)(h':ZD X r'):ZD X (λx y H Q=>r x y H Q\/r' x y H Q):=by
 intro d e f s g H x y v u Q I j i q l;rcases q with q|q
 .exact h d e f s g H x y v u Q I j i q l
 .exact h' d e f s g H x y v u Q I j i q l
theorem cA{r:R2}(l:ZD X r)(ha:PE X a ta)(m:PE X b tb)(j:HY b):PE X (.Subscript a b Z) (J8 r ta tb):=by intro d s e H Q I h;exact Subscript_ (Ke ha m I h λv u f x y o n i g q=>l a b d f e o x y v u Q n i g q (j _ _))
def MU(K:Po):R2:=λx y H Q=>∃p xs i v,x=.ref p/\y=.int i/\T6 K H p xs/\lO xs i=Bn v/\Q v H
def MH(K:Po):R2:=λx y H Q=>∃p xs i v,x=.ref p/\y=.int i/\Uj K H p xs/\lO xs i=Bn v/\Q v H
def MO:R2:=λx y H Q=>∃z i c,x=.str z/\y=.int i/\z.length<=PZ/\lO z.cps.toList i=Bn c/\Q (.str ⟨#[c]⟩) H
theorem G8:ZD X (MU X.K):=by
 intro g l d s B H x y v u Q I E C h n;obtain⟨p,xs,i,z,rfl,rfl,F,J,q⟩:=h;cases E;obtain⟨t,rfl⟩:=C;obtain⟨P,r,pl,R⟩:=I.list F;obtain⟨j,f,N,S,M,L⟩:=vQ J;obtain⟨w,A,O⟩:=r.get N;have G:=r.length;have hn:=wj;have e:EP X d B Q w s:=⟨z,H,I,O,q⟩;by_cases o:0<=i
 .have m:i.toNat=j:=by
   rw[seqIndex_of o L]at f;exact P4 f
  exact item_listR pl.isList o (by ext) (by rw[m];simpa using A) e n
 .have m:(i+(P.toArray.size:Int)).toNat=j:=by
   rw[seqIndex_neg (by ext) M]at f;rw[PX,<-G];exact P4 f
  exact subscriptTail_builtinR pl.isList.typeIs aaV.lookup
   (wpAny_getItem_list_neg pl.isList (by ext) (by rw[PX]<;>ext) (by ext) (by rw[m];simpa using A) ⟨rfl,e⟩) n
theorem Lp:ZD X (MH X.K):=by
 intro e f d s l H x y v u Q I n m h o;obtain⟨p,xs,i,z,rfl,rfl,A,C,q⟩:=h;cases n;obtain⟨t,rfl⟩:=m;obtain⟨P,r,pl,L⟩:=I.tuple A;obtain⟨j,F,E,O,N,M⟩:=vQ C;obtain⟨w,G,J⟩:=r.get E;have B:=r.length;have hn:=wj;have g:EP X d l Q w s:=⟨z,H,I,J,q⟩;exact subscriptTail_builtinR pl.typeIs slot_tuple_getitem.lookup
  (getItem_tuple pl (by ext) (by ext) (by rw[PX,<-B];exact F) (by simpa using G) ⟨rfl,g⟩) o
theorem LC:ZD X MO:=by
 intro d e f s E H x y v u Q I m l h n;obtain⟨z,i,c,rfl,rfl,G,p,q⟩:=h;obtain⟨t,rfl⟩:=m;obtain⟨F,rfl⟩:=l;obtain⟨j,g,A,J,w,r⟩:=vQ p;have o:z.cps.toList.length=z.length:=by simp[Str.length]
 rw[o]at g w r;have hn:=wj;exact tail_any (typeIs_str s z t) slot_str_getitem.lookup (getItem_str (by have C:decide (i< -(2^63:Int))=Py:=a3 (by ext);have B:decide (i≥2^63)=Py:=a3 (by ext);rw[C,B,Z9]) (by rw[g];simpa using A) ⟨.str ⟨#[c]⟩,H,I.tok _,⟨_,rfl⟩,q⟩) n
def N8(K:Po):R2:=λx y H Q=>MU K x y H Q\/MH K x y H Q\/MO x y H Q
theorem bI:ZD X (N8 X.K):=G8.or (Lp.or LC)
theorem wo(lo hi:bg Int)(n:Nat):(sliceBounds lo hi Pn n).1=((HT.sIx n 0 lo:Nat):Int)/\(sliceBounds lo hi Pn n).2.1=((HT.sIx n n hi:Nat):Int)/\(sliceBounds lo hi Pn n).2.2=1:=by
 refine⟨?_,?_,rfl⟩
 .cases lo with
  |none=>simp[sliceBounds,HT.sIx]
  |some i=>
   simp only[sliceBounds,HT.sIx,Yw,show(1:Int)>0 by decide,if_true];by_cases h:i<0
   .simp only[h,if_true]<;>ext
   .simp only[h,if_false]<;>ext
 .cases hi with
  |none=>simp[sliceBounds,HT.sIx]
  |some i=>
   simp only[sliceBounds,HT.sIx,Yw,show(1:Int)>0 by decide,if_true];by_cases h:i<0
   .simp only[h,if_true]<;>ext
   .simp only[h,if_false]<;>ext
theorem tF(d:bb Pq)(lo hi:bg Int):slicePick d.toArray lo hi Pn=((d.drop (HT.sIx d.length 0 lo)).take (HT.sIx d.length d.length hi - HT.sIx d.length 0 lo)).toArray:=by obtain⟨g,f,e⟩:=wo lo hi d.toArray.size;unfold slicePick;rw[g,f,e];simp only[sliceRange_one,pick_run,PX]<;>rfl
def Nv(K:Po):V->bg Int->bg Int->Hp->VK->Prop:=λx lo hi H Q=>∃a xs,x=.ref a/\T6 K H a xs/\∀p,H p=Pn->Q (.ref p) (bS H p (.lst (xM xs lo hi)))
theorem HM:MA X (Nv X.K):=by intro e s n H x v p o lo hi sl Q I g m pl i h;obtain⟨a,xs,rfl,l,q⟩:=h;cases g;obtain⟨u,r,f,j⟩:=I.list l;have d:=r.length;refine⟨"list",_,aaV.lookup,f.isList.typeIs,?_⟩;refine wpAny_getItem_list_slice f.isList m pl i .none (by simp) ?_ (by rw[PX]<;>ext);rw[tF,<-d];refine⟨.ref s.heap.objs.size,_,I.laid (λb t q=>br _ q) (PF _) ?_,rfl,q _ (I.Ro.fresh (PF _))⟩;exact⟨Qz (pf xs lo hi) j,_,0,(r.drop (HT.sIx xs.length 0 lo)).take (HT.sIx xs.length xs.length hi - HT.sIx xs.length 0 lo),b0 _ rfl⟩
theorem Sm.or(h:Sm X f r)(h':Sm X f r'):Sm X f (λxs H Q=>r xs H Q\/r' xs H Q):=by
 intro d s e H xs g Q I i q;rcases q with q|q
 .exact h d s e H xs g Q I i q
 .exact h' d s e H xs g Q I i q
theorem nj:Sm X (.type "list") (λxs H Q=>∃p ys,xs=[.ref p]/\(T6 X.K H p ys\/Uj X.K H p ys)/\∀l,H l=Pn->Q (.ref l) (bS H l (.lst ys))):=by
 intro j s E H xs G Q I r h;obtain⟨p,ys,rfl,v,q⟩:=h;obtain⟨u,rfl,F⟩:=ir r;cases F
 have z:∀(f:bb Pq),Vals ys f->ys.length<=PZ->∀(d:Heap) (i:Nat),(∀b o',s.heap.get? b=Bn o'->d.get? b=Bn o')->
   d.get? s.heap.objs.size=Bn {cls:=.type "list",dict:=Pn,data:=.seq f.toArray i,slots:= #[]}->EP X j E Q (.ref s.heap.objs.size) {s with heap:=d}:=λf g t d i m e=>
  ⟨.ref s.heap.objs.size,_,I.laid m (PF _) (show ObjOk X.prog X.w _ d _ (.lst ys)from⟨t,f,i,g,e⟩),rfl,q _ (I.Ro.fresh (PF _))⟩
 rcases v with v|v
 .obtain⟨f,g,pl,t⟩:=I.list v;have y:=g.length;obtain⟨o,A,C,n,B⟩:=pl.isList;exact afe p (.inl rfl) A C B (λd i m e=>z f g t d i m e) (by simp only[PX]<;>ext)
 .obtain⟨f,g,pl,t⟩:=I.tuple v;have y:=g.length;obtain⟨o,A,C,n,B⟩:=pl;exact afe p (.inr rfl) A C B (λd i m e=>z f g t d i m e) (by simp only[PX]<;>ext)
theorem eY:Sm X (.type "tuple") (λxs H Q=>∃p ys,xs=[.ref p]/\((T6 X.K H p ys/\∀l,H l=Pn->Q (.ref l) (bS H l (.tup ys)))\/(Uj X.K H p ys/\Q (.ref p) H))):=by
 intro g s A H xs B Q I r h;obtain⟨p,ys,rfl,h⟩:=h;obtain⟨u,rfl,t⟩:=ir r;cases t;rcases h with⟨f,q⟩|⟨f,q⟩
 .obtain⟨m,d,pl,i⟩:=I.list f
  have j:=d.length;refine call_tuple_list pl.isList (λy v=>?_) (by simp only[PX]<;>ext);have n:=I.kept (t':=s.toks) v
  have z:=
   n.laid (t':=s.toks) (λb o e=>br _ e) (PF _) (show ObjOk X.prog X.w _ _ _ (.tup ys)from⟨i,m,d,VU.new _ _⟩)
  exact⟨.ref y.objs.size,_,z,rfl,q _ (n.Ro.fresh (PF _))⟩
 .obtain⟨m,d,pl,i⟩:=I.tuple f;exact call_tuple_same pl ⟨.ref p,H,I,rfl,q⟩
def Os(K:Po)(T:String)(x:V)(H:Hp):Prop:=match x with
 |.str _=>T= "str"
 |.int _=>T= "int"
 |.ref p=>(T= "list"/\∃xs,T6 K H p xs)\/(T= "tuple"/\∃o,K.lookup p=Bn o/\o.cls=.type "tuple"/\o.dict=Pn)\/
   (T= "dict"/\((∃Qk,H p=Bn (.dK Qk))\/∃Qk,H p=Bn (.dT Qk)))\/(T= "set"/\∃S n,H p=Bn (.set S n))
 |_=>False
theorem Eg(I:Inv X pins σ H s)(r:RelV x v)(ty:Os X.K T x H):
  s.TypeIs v T/\∀a,v=.ref a->∃ob,s.heap.get? a=Bn ob/\ob.dict=Pn:=by
 cases x with
 |str z=>obtain⟨t,rfl⟩:=r;cases(show T= "str" from ty);exact⟨typeIs_str s z t,λ_ e=>nomatch e⟩
 |int i=>obtain⟨t,rfl⟩:=r;cases(show T= "int" from ty);exact⟨V2 s i t,λ_ e=>nomatch e⟩
 |ref p=>
  cases r;rcases ty with⟨rfl,xs,j⟩|⟨rfl,o,d,l,g⟩|⟨rfl,d⟩|⟨rfl,S,n,d⟩
  .obtain⟨m,_,pl,_⟩:=I.list j;refine⟨pl.isList.typeIs,λa e=>?_⟩;cases e;obtain⟨o,n,e,c,g,_⟩:=pl;exact⟨o,e,g⟩
  .refine⟨⟨o,I.Xu p o d,l⟩,λa e=>?_⟩;cases e;exact⟨o,I.Xu _ o d,g⟩
  .have z:∃o,s.heap.get? p=Bn o/\o.ExactDict:=by
    rcases d with⟨Qk,d⟩|⟨Qk,d⟩
    .obtain⟨_,_,_,_,o,_,_,e,f,_⟩:=I.Ro p _ d;exact⟨o,e,f⟩
    .obtain⟨_,_,_,_,o,_,_,e,f,_⟩:=I.Ro p _ d;exact⟨o,e,f⟩
   obtain⟨o,e,f⟩:=z;refine⟨⟨o,e,f.1⟩,λa h=>?_⟩;cases h;exact⟨o,e,f.2.1⟩
  .obtain⟨o,_,_,_,e,f,_⟩:=I.Ro p _ d;refine⟨⟨o,e,f.1⟩,λa h=>?_⟩;cases h;exact⟨o,e,f.2.1⟩
 |_=>exact False.elim ty
def NP(K:Po)(T:String)(r:V->bb V->Hp->VK->Prop)(to:TE):TE:=λe H Q=>to e H λx d=>Os K T x d/\r x [] d Q
def N9(K:Po)(T:String)(r:V->bb V->Hp->VK->Prop)(to:TE)(t:TA):TE:=λd H Q=>to d H λx e=>Os K T x e/\t d e λxs f=>r x xs f Q
variable{o e:QK}{S:bb QK}{to:TE}{t:TA}{name:Str}{Z Y:Pos}{T U:String}{r:V->bb V->Hp->VK->Prop}
theorem Gv(pa:PlainAttrs T)(slot:Slot T name U)(f:typeOf (.builtin U)=pure (.type "method_descriptor"))(hm:Oi X U r)(n:PE X o to)
  (u:attributeBase o name X.env (eval o X.env)=eval o X.env:=by rfl) (w:(Z.endLine==Y.line)=Pr:=by rfl):PE X (.Call (.Attribute o name Z) [] [] Y) (NP X.K T r to):=by
 intro d s g H Q I h;refine wpAny_Call_method0_late u w (dF (n d s g H _ I h) λv l ⟨x,y,j,i,ty,m⟩=>?_);obtain⟨q,p⟩:=Eg j i ty;exact⟨T,U,pa,slot,f,q,p,Calls.callWith_builtin rfl (PySem.evalArgs_none (hm d l g y x [] v [] Q j i .nil m))⟩
theorem oW(pa:PlainAttrs T)(slot:Slot T name U)(g:typeOf (.builtin U)=pure (.type "method_descriptor"))(hm:Oi X U r)(B:PE X o to)(ha:PA X (e::S) t)
  (F:attributeBase o name X.env (eval o X.env)=eval o X.env:=by rfl)
  (i:((backTo Y (Qp (e::S) X.env)).all (λx=> !x.1)&&(backToKw Y (keywordEach [] X.env)).all (λx=>x.1.isSome)
   &&decide ((e::S).length+([]:bb We).length+(if([]:bb We).isEmpty then 0 else 1)<30))=Pr:=by rfl)
  (G:(Z.endLine==Y.line)=Pr:=by rfl) (A:Qp (e::S) X.env=(Py,eval e X.env)::Qp S X.env:=by rfl) (j:(backTo Y (Qp S X.env)).any (·.1)=Py:=by rfl):
  PE X (.Call (.Attribute o name Z) (e::S) [] Y) (N9 X.K T r to t):=by
 intro d s f H Q I h;refine wpAny_Call_method_late F i G rfl (dF (B d s f H _ I h) λv u ⟨x,M,n,l,ty,z⟩=>?_);obtain⟨E,C⟩:=Eg n l ty;refine⟨T,U,pa,slot,g,E,C,?_⟩;have m:=ha Y d u f M _ n z;rw[A]at m⊢;refine Calls.callWith_builtin (by show(Py||(backTo Y (Qp S X.env)).any (·.1))=Py;rw[j]<;>rfl) (Calls.evalArgs_plain ?_);exact dF m λp q ⟨vs,L,J,w,y⟩=>hm d q f L x vs v p Q J l w y
end
def O0(X:Cx)(e:String)(r:V->bb V->Hp->VK->Prop):Prop:=
 ∀(a:bb (Pz×Obj)) (s:Px) (b:St) (H:Hp) (x:V) (xs:bb V) (v:Pq) (d:bb Pq) (Q:VK),Inv X a b H s->RelV x v->Vals xs d->r x xs H Q->
  wpAny (model X.prog X.w) X.A (call (.builtin e) (v::d)) (EP X a b Q) X.xe s
theorem Vals.one:∀{x:V} {us:bb Pq},Vals [x] us->∃u,us=[u]/\RelV x u
 |_,_,.cons r .nil=>⟨_,rfl,r⟩
theorem Vals.eraseIdx:∀{xs:bb V} {us:bb Pq} (i:Nat),Vals xs us->Vals (xs.eraseIdx i) (us.eraseIdx i)
 |_,_,_,.nil=>.nil
 |_,_,0,.cons _ t=>t
 |_,_,i+1,.cons r t=>.cons r (Vals.eraseIdx i t)
theorem Vals.rep(h:Vals xs us):∀k:Nat,Vals (PK k xs).flatten (PK k us).flatten
 |0=>.nil
 |k+1=>by rw[QF,QF,RO,RO];exact Vals.append h (Vals.rep h k)
theorem uy:∀(l:bb α) (i:Nat),(l.eraseIdx i).length<=l.length
 |[],_=>PF _
 |_::_,0=>Rp _
 |_::r,i+1=>Zc (uy r i)
theorem oT(b:bb Pq):∀(k:Nat) (a:bb Pq),
  UA (λx1 x2=>x1++x2) a.toArray (PK k b.toArray)=(a++(PK k b).flatten).toArray
 |0,a=>by simp
 |k+1,a=>by
  have e:a.toArray++b.toArray=(a++b).toArray:=by simp
  have d:(a++b)++(PK k b).flatten=a++(PK (k+1) b).flatten:=by rw[QF,RO,QS]
  rw[<-d,<-oT b k (a++b),<-e,QF,QO]
section
variable{X:Cx}{Z:bb (Pz×Obj)}{Y:St}{H:Hp}{s:Px}{l b:Pz}{xs ys zs:bb V}
theorem Inv.acg{d a:bb Pq}(I:Inv X Z Y H s)(m:H l=Bn (.lst xs))
  (e:s.heap.get? l=Bn {cls:=.type "list",data:=.seq d.toArray n}) (i:f d.toArray=a.toArray) (g:Vals ys a) (hz:ys.length<=PZ):
  Inv X Z Y (bS H l (.lst ys)) {s with heap:=s.heap.update l (Obj.mapSeq f),toks:=t'}:=by
 have q:=ags e f;rw[i]at q;refine I.write (by rw[m];exact trivial) (.inl rfl) (λo u j h=>(b3 s.heap (Obj.mapSeq f) (da j)).trans h) ⟨_,q⟩ ?_;exact⟨hz,a,_,g,q⟩
theorem Inv.acm(I:Inv X Z Y H s)(a:Vals ys Qw)(hz:ys.length<=PZ):
  Inv X Z Y (bS H s.heap.objs.size (.lst ys)) {s with heap:=s.heap.push {cls:=.type "list",data:=.seq Qw.toArray},toks:=t'}:=
 I.laid (λ_ _ q=>br _ q) (PF _) ⟨hz,Qw,0,a,b0 _ rfl⟩
theorem Inv.fresh(I:Inv X Z Y H s):H s.heap.objs.size=Pn:=I.Ro.fresh (PF _)
theorem Inv.aal(I:Inv X Z Y H s)(d:H l=Bn (.lst xs)):xs.length<=PZ/\∃(a:bb Pq) (n:Nat),Vals xs a/\xs.length=a.length/\s.heap.get? l=Bn {cls:=.type "list",data:=.seq a.toArray n}:=by obtain⟨z,a,n,r,e⟩:=I.Ro l _ d;exact⟨z,a,n,r,r.length,e⟩
theorem Di(h:n<=PZ):Qe.List.listTooLong n=Py:=by unfold Qe.List.listTooLong;exact a3 (by ext)
end
section
variable{X:Cx}
def we:V->bb V->Hp->VK->Prop:=λx vs H Q=>∃l xs y,x=.ref l/\vs=[y]/\H l=Bn (.lst xs)/\xs.length<PZ/\Q .Sz (bS H l (.lst (xs++[y])))
theorem gn:O0 X "list.append" we:=by intro a s i H x vs v j Q I d rv h;obtain⟨l,xs,y,rfl,rfl,b,m,q⟩:=h;cases d;obtain⟨u,rfl,f⟩:=rv.one;obtain⟨z,g,n,r,o,e⟩:=I.aal b;refine Ul F.slot_list_append ⟨_,e,rfl⟩ F.entry_list_append (F.args_list_append_2 _ _) (PySem.list_append l g.toArray n u (by rw[PX];ext)) ⟨e,?_⟩;refine⟨.Sz,_,I.acg b e (by simp) (r.append (.cons f .nil)) ?_,rfl,q⟩;rw[PJ,Ta];ext
theorem A2(xs:bb α)(k:Nat):(PK k xs).flatten.length=k*xs.length:=by
 induction k with
 |zero=>simp
 |succ k a=>rw[QF,RO,PJ,a,abx,VQ]
end
section
variable{prog:Qc}{w:Qt}{A:Ql}{E:Pq->Px->Prop}{s:Px}
set_option maxRecDepth 100000 in
end
end L2
namespace Att
open PySem PySem.W PySem.Calls PyProof.Rows
theorem pN:∀(d:bb Int) (vs:bb Pq),WellAll P h vs (d.map WData.int)->IntsAre vs d:=by
 intro d
 induction d with
 |nil=>intro vs w;rw[Uz]at w;cases w;exact .nil
 |cons n d e=>
  intro vs w;rw[PY]at w;cases w with
  |cons a b=>cases a;exact .cons _ _ (e _ b)
theorem B7{l:OpenLaw}(hn:l.most=Bn n)
  (o:l.row.toRowW.claim.pre args=Pr) (g:WellAll P h vals args):
  ∃a vs ns,vals=[Pq.ref a]/\args=[WData.list (ns.map WData.int)]/\h.get? a=Bn {cls:=.type "list",data:=.seq vs.toArray}/\IntsAre vs ns/\ns.length<=n:=by
 have i:=(pre_splitW o).1;have m:l.pre.holds [] {args:=args}=Pr:=(pre_splitW o).2;obtain⟨d,r,rfl,z,y⟩:=hasAllW_cons i;obtain rfl:=hasAllW_nil y;obtain⟨xs,rfl,w⟩:=hasW_list z;obtain⟨ns,rfl⟩:=items_int w;have b:ns.length<=n:=by
  unfold OpenLaw.pre at m;have f:(WTm.not (.lt (.lit (.int (n:Int))) (.len (.arg 0)))).holds [] {args:=[.list (ns.map .int)]}=Pr:=by have f:=(holds_andW m).1;rw[hn]at f;exact f
  have e:=condW_of f (w_not (w_lt w_lit (w_len_list (w_arg rfl))));rw[Pp]at e;refine Nat.le_of_not_lt λq=>?_;have u:(n:Int)<((ns.length:Nat):Int):=by ext
  first
   |(rw[aP u]at e;exact a5 e (by decide))
   |(simp at e;ext)
 cases g with
 |cons t p=>
  cases p;cases t with
  |list v j=>exact⟨_,_,ns,rfl,rfl,v,pN ns _ j,b⟩
theorem CS(l:OpenLaw)(args:bb WData):l.row.toRowW.claim.post args (.bool Pr) args=Pr:=
 postW_of
  (show WShape.has [] (.bool Pr) .bool=Pr by first|rfl|decide|simp[WShape.has,WShape.arms,WShape.armsAll])
  (show(WTm.eq .res (.lit (.bool Pr))).value [] {args:=args,res:=Bn (.bool Pr),after:=args}=Bn (.bool (Pr==Pr))from w_eq_bool (w_res rfl) w_lit) rfl
theorem attach_call{l:OpenLaw}{n:Nat}{q:Qc}{e:bb Str}{F:(Str->bg Pq)->Heap->Prop}{E:Qt->Heap->Prop}{d:DefRec}
  (hn:l.most=Bn n) (y:d.params.defaults=[])
  (call:∀(w:Qt) (s₀ b:Px) (mg t:Str->bg Pq) (fa:Pz) (o:Obj) (p m h:Pq) (a:Pz) (vs:bb Pq) (j:bb Int),
   Ground q e [] F w s₀ mg t b.heap->E w b.heap->
   b.heap.get? fa=Bn o->o.data=.func (docDef d.name d.params d.body d.scope p m h)->b.heap.CodeRec m d.name->mg d.name=Bn (.ref fa)->
   b.heap.get? a=Bn {cls:=.type "list",data:=.seq vs.toArray}->IntsAre vs j->j.length<=n->b.gens= #[]->
   codeAny (model l.prog w) callerA (.call (.ref fa) ⟨[.ref a],[]⟩) (λr s'=>r=.ok (.ret (.bool Pr))/\OldK b.heap s'.heap/\s'.os=b.os/\AllBare s'.gens) b):
  WalkO q e F E l.row.toRowW d [] (λf vs=>aby f vs):=by
 intro w s₀ b mg t G Y fa o p m h dV kV J M S B v L C A T R Q H u K;obtain rfl:dV=.none:=Dflts.none B y;obtain rfl:kV=.none:=Dflts.noKw B;obtain⟨a,vs,j,rfl,rfl,z,g,i⟩:=B7 hn R u;refine enter_call (T8 (call w s₀ b mg t fa o p m h a vs j G Y J (fd_plain M) S v z g i L) λr s' I=>?_);obtain⟨rfl,P,O,N⟩:=I;exact⟨.inl ⟨.bool Pr,.bool Pr,[],rfl,λ_=>rfl,.bool Pr,CS l _,λ_=>⟨R9,λ_ hm=>(nomatch hm)⟩⟩,P,O,N⟩
end Att
namespace L2
open PySem PySem.Spec PyProof.Rows
theorem ie:∀{vs:bb Pq} {a:bb Int},IntsAre vs a->Vals (a.map V.int) vs
 |_,_,.nil=>.nil
 |_,_,.cons n t h=>.cons ⟨t,rfl⟩ (ie h)
def Nw(H:Hp):Prop:=∀b,H b=Pn\/∃o xs,H b=Bn (.frz o (.lst xs))
theorem F0{P:Qc}{w:Qt}{K:Po}{mg E:Str->bg Pq}{CX:xl}{k:Nat}{fa a:Pz}{T:Q6}{x:Str}{sp:Sp}{f:Px}{vs:bb Pq}{p:bb Int}
  (KX:K.In f.heap) (X:f.heap.Ns P8 mg) (g:f.heap.Ns builtinsNs E) (I:∀x:Str,x≠ "__name__"->E x=QY x) (O:f.heap.NoLimit) (hg:f.gens= #[])
  (ha:f.heap.get? a=Bn {cls:=.type "list",data:=.seq vs.toArray}) (hi:IntsAre vs p) (Q:p.length<=PZ) (hr:Sg k callerA)
  (F:∀base:Heap,K.In base->base.Ns P8 mg->FnOk P w K mg base CX k fa T [x] sp) (YW:∀(s:Px) (u:Pq),VG s T ⟨[u],[]⟩ [(x,u)])
  (G:∀H:Hp,Nw H->T6 K H a (p.map V.int)->sp [.ref a] H (λv _=>v=.bl Pr) λ_ _ _=>False)
  (J:∀H e s',CX [] H f (λ_ _ _=>False) e s'->False):
  codeAny (model P w) callerA (.call (.ref fa) ⟨[.ref a],[]⟩) (λr s'=>r=.ok (.ret (.bool Pr))/\OldK f.heap s'.heap/\s'.os=f.os/\AllBare s'.gens) f:=by
 have rv:=ie hi;have M:=hi.length
 have j:∀H:Hp,Nw H->T6 K H a (p.map V.int)->Vf P w H f.heap->(∀b,H b≠Pn->b=a)->(H a≠Pn->K.lookup a=Pn)->
   codeAny (model P w) callerA (.call (.ref fa) ⟨[.ref a],[]⟩) (λr s'=>r=.ok (.ret (.bool Pr))/\OldK f.heap s'.heap/\s'.os=f.os/\AllBare s'.gens) f:=by
  intro H R hS Z S hK;have Y:∀{b:Pz} {o:Obj},f.heap.get? b=Bn o->H b=Pn->(uQ f.heap H).get? b=Bn o:=λe n=>Gh e n;have C:∀{b:Pz} {o:Obj} {y:Array VF} {A:Nat},f.heap.get? b=Bn o->o.data=.dict y A->H b=Pn:=λ{b o y A} e d=>by
   cases q:H b with
   |none=>rfl
   |some u=>have L:b=a:=S b (by rw[q];simp);subst L;rw[ha]at e;cases e;have d':Data.seq vs.toArray _=Data.dict y A:=d;cases d'
  have i:∀{b:Pz} {m:Str->bg Pq},f.heap.Ns b m->(uQ f.heap H).Ns b m:=λ{b m} ⟨o,y,A,e,d,r⟩=>⟨o,y,A,Y e (C e d),d,r⟩;have t:K.In (uQ f.heap H):=λb o e=>Y (KX b o e) (by
   cases q:H b with
   |none=>rfl
   |some u=>have L:b=a:=S b (by rw[q];simp);subst L;rw[hK (by rw[q];simp)]at e;cases e)
  have hM:Mod K mg (uQ f.heap H):=⟨t,i X,⟨E,i g,I⟩,let⟨mc,h1,h2⟩:=O;⟨mc,i h1,h2⟩⟩;have e0:Env0 P w K mg (uQ f.heap H) callerA [] f H:=⟨rfl,hM,λb o e=>HH e,abv (Ck _ _),trivial,λb g=>a5 (show b∈([]:bb Pz)from g) (by simp),Z,.of_eq hg⟩;refine T8 ((F _ t (i X)).run callerA [] f H ⟨[.ref a],[]⟩ [.ref a] [.ref a] _ _ hr e0 (YW f (.ref a)) (.cons rfl .nil) (G H R hS)) λr s' h=>?_;cases r with
  |error e=>exact(J H e s' h).elim
  |ok fl=>
   cases fl with
   |next=>exact False.elim h
   |brk=>exact False.elim h
   |cont=>exact False.elim h
   |ret u=>
    obtain⟨v,H',os,B,un,N,r',q⟩:=h;have q':v=.bl Pr:=q;subst q';obtain rfl:u=Pq.bool Pr:=r';refine⟨rfl,OldK.of_keep λb o e=>?_,os,B⟩;cases q:H b with
    |none=>exact un.keep b o e q (by intro z;exact a5 (show b∈([]:bb Pz)from z) (by simp)) (by simp)
    |some u=>
     rcases R b with z|⟨ob,xs,z⟩
     .rw[q]at z;cases z
     .have z2:=un.WX b ob _ z;obtain⟨U,_⟩:=Z b _ z;obtain⟨e2,_⟩:=N b _ z2;rw[e]at U;cases U;exact e2
 cases hk:K.lookup a with
 |some o=>have e:=KX a o hk;rw[ha]at e;cases e;refine j (λ_=>Pn) (λ_=>.inl rfl) (.inr ⟨_,vs.toArray,_,hk,rfl,rfl,rfl,by rw[PX,M];exact Q,by simpa using rv⟩) (λb u z=>by have l:(Pn:bg HO)=Bn u:=z;cases l) (λb z=>a5 rfl z) λz=>a5 rfl z
 |none=>
  refine j (λb=>if b=a then Bn (.frz {cls:=.type "list",data:=.seq vs.toArray} (.lst (p.map V.int)))else Pn) (λb=>?_) (.inl (.inr ⟨{cls:=.type "list",data:=.seq vs.toArray},av rfl⟩)) (λb u z=>?_) (λb z=>?_) λ_=>hk
  .by_cases g:b=a
   .exact .inr ⟨_,_,av g⟩
   .exact .inl (ax g)
  .by_cases g:b=a
   .have l:=(av g).symm.trans z;cases l;subst g;exact⟨ha,by rw[Pp];exact Q,vs,_,rv,ha⟩
   .have l:=(ax g).symm.trans z;cases l
  .by_cases g:b=a
   .exact g
   .exact a5 (ax g) z
def bF(s:Sr)(j:Nat):Sr:=match s with
 |.ClassDef _ _ _ body _ _ _ _ _ _ _=>body.getD j (.Pass ⟨0,0,0,0⟩)
 |_=>.Pass ⟨0,0,0,0⟩
def lh(s:Sr):Arguments:=match s with
 |.FunctionDef _ a _ _ _ _ _ _ _ _=>a
 |_=>{posonlyargs:=[],args:=[],vararg:=Pn,kwonlyargs:=[],kw_defaults:=[],kwarg:=Pn,defaults:=[]}
def fq(s:Sr):bb Sr:=match s with
 |.FunctionDef _ _ b _ _ _ _ _ _ _=>b
 |_=>[]
def aU(s:Sr):TL:=match s with
 |.FunctionDef _ _ _ _ _ _ sc _ _ _=>sc
 |_=>{kind:=.function,names:=[],isGenerator:=Py,isCoroutine:=Py}
abbrev dL:xl:=λ_ _ _ _ _ _=>False
abbrev E0:XK:=λ_ _ _=>False
theorem EG:i4 dL X E0:=λ_ _ _ _ _ _ _ h=>h.elim
structure S9(K:Po)(x qual:Str)(st:Sr)(f:Pz)(fd:Q6):Prop where
 ex:∃(oc:Pq) (od:bg Pz) (kV doc pm:Pq) (an:bg Pz) (R0 ct:Pq) (YX:Array (bg Pq)),
  fd=Ss x qual (lh st) (fq st) (aU st) .none kV doc pm an R0 ct/\K.lookup f=Bn ⟨oc,od,.func fd,YX⟩/\UE K R0 qual=Pr
 kp:RX K (.ref f)=Pr
section
variable{P:Qc}{w:Qt}{K:Po}{mg:Str->bg Pq}{base:Heap}
theorem S9.ok{x a:Str}{st:Sr}{f:Pz}{e:Q6}{N ps:bb Str}{k:Nat}{sp:Sp}(F:S9 K x a st f e)(S:TX N ps (aU st))(len:∀vs H Q E,sp vs H Q E->vs.length=ps.length)
  (m:∀(b:Pq) (A:Ql) (outer:bb Env) (s:Px) (H:Hp) (vs:bb V) (Q:VK) (E:XK),Sg k (A.deeper (envOfC a (aU st) s.heap.objs.size f b))->sp vs H Q E->
   ∃t,Wm (rY dL P w K mg base N a (aU st) f b A outer s H E).Zn (fq st) t/\t {nx:=λ_ H'=>Q .Sz H',rt:=Q} (start N vs) H):FnOk P w K mg base dL (k+1) f e ps sp:=by
 obtain⟨p,o,kV,j,n,r,b,ct,u,rfl,g,l⟩:=F.ex;refine NN g l S len λA outer s H vs Q E i d=>?_;obtain⟨t,h,q⟩:=m b A outer s H vs Q E i d;exact⟨t,h.Zn,q⟩
theorem S9.binds{x a:Str}{st:Sr}{f:Pz}{i:Q6}{ps:bb Str}(F:S9 K x a st f i)
  (h:∀(kV b d:Pq) (e:bg Pz) (g ct:Pq) (us:bb Pq),us.length=ps.length->bindArgs (Ss x a (lh st) (fq st) (aU st) .none kV b d e g ct) ⟨us,[]⟩=pure (ps.zip us)):Binds K i ps []:=by
 obtain⟨l,j,kV,b,d,e,g,ct,n,rfl,m,o⟩:=F.ex;exact .all (h kV b d e g ct)
theorem Gk{st:Sr}{kV a d b ct:Pq}(l:K.lookup f=Bn ⟨oc,od,.func (Ss x qual (lh st) (fq st) (aU st) .none kV a d an b ct),YX⟩)
  (c:UE K b qual=Pr) (k:RX K (.ref f)=Pr):S9 K x qual st f (Ss x qual (lh st) (fq st) (aU st) .none kV a d an b ct):=⟨⟨oc,od,kV,a,d,an,b,ct,YX,rfl,l,c⟩,k⟩
end
theorem Jh(a:Sg k A):A.units+1<cLine:=Nat.lt_of_le_of_lt (Nat.add_le_add_left (by decide:1<=64) _) a.units
section
variable{X:Cx}
theorem pv(i:Nat)(b:X.N[i]?=Bn x:=by rfl)(a:Og X.env.scope x:=by first|exact a6 rfl|exact a7 (a6 rfl)|exact a7 (a7 rfl))(hd:(x==("__debug__":Str))=Py:=by decide)
  (d:(x==("__classdict__":Str))=Py:=by decide):PE X (.Name x pos) (CM i):=Kg b a hd d
end
def Rx(H a:Hp):Prop:=∀b o,H b=Bn o->a b=Bn o
theorem Rx.refl(H:Hp):Rx H H:=λ_ _ h=>h
theorem Rx.trans(a:Rx H H1)(b:Rx H1 H2):Rx H H2:=λc o h=>b c o (a c o h)
theorem Rx.free(e:Rx H H')(h:H' l=Pn):H l=Pn:=by
 cases q:H l with
 |none=>rfl
 |some o=>rw[e l o q]at h;cases h
end L2
set_option maxHeartbeats 4000000
namespace L2
open PySem PySem.Spec PyProof.Rows
section
variable{X:Cx}{Z:bb (Pz×Obj)}{σ:St}{H:Hp}{s:Px}{h':Heap}
theorem Inv.XS{ch:bb Pz}(I:Inv X Z σ H s)(g:∀b∈ch,oA X Z H b)
  (k:∀b u,b∉ch->s.heap.get? b=Bn u->h'.get? b=Bn u) (i:s.heap.objs.size<=p)
  (new:ObjOk X.prog X.w (bS H p o) h' p o):Inv X Z σ (bS H p o) {s with heap:=h',toks:=t'}:=by
 have hn:=I.Ro.fresh i;have j:∀b u,H b=Bn u->b∉ch:=λb u e z=>by rw[(g b z).1]at e;cases e
 have f:∀b u,s.heap.get? b=Bn u->b≠p:=λb u e=>P5 (Qd (bP e) i);refine I.step (λb d=>?_) (λb u _ _ a e _=>k b u a e) (λb u _ _ a e _=>⟨u.slots,k b u a e⟩)
  (λb u _ e n=>by rw[a9 (f b u e)];exact n) (λb u a e=>⟨u,k b u a e⟩) (λb xs e=>by rw[a9 (cg e hn)];exact e)
  (λb u xs e=>by rw[a9 (cg e hn)];exact e) (λb ps e=>⟨#[],by rw[a9 (cg e hn),e];simp⟩) (λm hm=>?_) (λb u e=>?_) I.bare
 .obtain⟨_,B,_,A,y,t⟩:=g b d;exact⟨A,B,y,t⟩
 .obtain⟨h,C,E,l,r⟩:=hm;exact⟨h,C,E,k _ h (λz=>(g _ z).2.1 rfl) l,r⟩
 .by_cases d:b=p
  .subst d;rw[aJ]at e;cases e;exact new
  .rw[a9 d]at e
   refine(I.Ro b u e).XR (λc v a q=>k c v ?_ q) (λc q=>by rw[a9 (cg q hn)];exact q) λc xs q=>by rw[a9 (cg q hn)];exact q
   rcases a with z|z
   .rw[z];exact j b u e
   .exact j c _ z
end
mutual
inductive DV(K:Po)(H:Hp):V->Pw->Prop
 |Sz:DV K H .Sz .none
 |bl (b:Bool):DV K H (.bl b) (.bool b)
 |int (i:Int):DV K H (.int i) (.int i)
 |str (x:Str):DV K H (.str x) (.str x)
 |tup {a:Pz} {xs:bb V} {ds:bb Pw}:Uj K H a xs->Rk K H xs ds->DV K H (.ref a) (.tuple ds)
 |lst {a:Pz} {xs:bb V} {ds:bb Pw}:T6 K H a xs->Rk K H xs ds->DV K H (.ref a) (.list ds)
inductive Rk(K:Po)(H:Hp):bb V->bb Pw->Prop
 |nil:Rk K H [] []
 |cons {v:V} {vs:bb V} {d:Pw} {ds:bb Pw}:DV K H v d->Rk K H vs ds->Rk K H (v::vs) (d::ds)
end
section
variable{X:Cx}{Z:bb (Pz×Obj)}{σ:St}{H:Hp}{s:Px}
mutual
theorem DV.reads(I:Inv X Z σ H s):∀{v:V} {d:Pw} {u:Pq},DV X.K H v d->RelV v u->∃as,Reads s.heap u d as
 |_,_,_,.Sz,r=>by cases r;exact⟨_,.none⟩
 |_,_,_,.bl b,r=>by cases r;exact⟨_,.bool b⟩
 |_,_,_,.int i,r=>by obtain⟨t,rfl⟩:=r;exact⟨_,.int i t⟩
 |_,_,_,.str x,r=>by obtain⟨t,rfl⟩:=r;exact⟨_,.str x t⟩
 |_,_,_,.tup h hs,r=>by cases r;obtain⟨a,rv,⟨o,e,c,n,d⟩,_⟩:=I.tuple h;obtain⟨as,q⟩:=Rk.reads I hs rv;exact⟨_,.tuple e c d (by simpa using q)⟩
 |_,_,_,.lst h hs,r=>by cases r;obtain⟨a,rv,⟨o,n,e,c,_,d⟩,_⟩:=I.list h;obtain⟨as,q⟩:=Rk.reads I hs rv;exact⟨_,.list e c d (by simpa using q)⟩
theorem Rk.reads(I:Inv X Z σ H s):∀{vs:bb V} {ds:bb Pw} {us:bb Pq},Rk X.K H vs ds->Vals vs us->∃as,Zd s.heap us ds as
 |_,_,_,.nil,r=>by cases r;exact⟨_,.nil⟩
 |_,_,_,.cons h hs,r=>by
  cases r with
  |cons b a=>obtain⟨as,q⟩:=DV.reads I h b;obtain⟨bs,d⟩:=Rk.reads I hs a;exact⟨_,.cons q d⟩
end
end
def Ha(K:Po)(a:Bool):R2:=λx y H Q=>∃dx dy,DV K H x dx/\DV K H y dy/\dx.canLay0=Pr/\dy.canLay0=Pr/\dx.depth<=64/\Q (.bl (if a then !Pw.eqv dx dy else Pw.eqv dx dy)) H
section
variable{X:Cx}
theorem eN(n:X.A.units+64<cLine):OpR X (RG .Eq) (Ha X.K Py):=by intro a s m H x y v u Q I d b h;obtain⟨dx,p,l,j,i,g,o,q⟩:=h;obtain⟨r,f⟩:=l.reads I d;obtain⟨bs,e⟩:=j.reads I b;exact adm f e i g (by ext) ⟨.bl _,H,I,rfl,q⟩
theorem mB(n:X.A.units+64<cLine):OpR X (RG .NotEq) (Ha X.K Pr):=by intro a s m H x y v u Q I d b h;obtain⟨dx,p,l,j,i,g,o,q⟩:=h;obtain⟨r,f⟩:=l.reads I d;obtain⟨bs,e⟩:=j.reads I b;exact adn f e i g (by ext) ⟨.bl _,H,I,rfl,q⟩
theorem D0:OpR X (RM .FloorDiv) (rI (λ_ j=>0<j/\j.natAbs.log2<9000) λi j=>.int (i/j)):=MJ λi j _ _ _ _ _ a q=>by have b:(0:Int)<j:=a.1;exact floordiv_int (by ext) (by rw[WB i (by ext)];exact q) (.inl (PyProof.noPylong_of_log2 a.2))
end
def iH(env:Env):bb (Str×Qn)->bb (Str×Pz)->bb (Str×Pz)
 |[],acc=>acc
 |(n,k)::r,acc=>if(k==Qn.free)=Pr then(match env.cells.lookup n with|some c=>iH env r ((n,c)::acc)|none=>iH env r acc)else iH env r acc
theorem my{f:Str×Qn->bb (Str×Pz)->Sem (ForInStep (bb (Str×Pz)))}
  (h1:∀n k a,(k==Qn.free)=Py->f (n,k) a=pure (.yield a)) (b:∀n c a,env.cells.lookup n=Bn c->f (n,.free) a=pure (.yield ((n,c)::a))):
  ∀(names:bb (Str×Qn)) (a:bb (Str×Pz)),(∀y∈names,y.2=.free->∃c,env.cells.lookup y.1=Bn c)->forIn names a f=pure (iH env names a)
 |[],a,_=>rfl
 |(n,k)::r,a,h=>by
  have d:=λy i=>h y (PD _ i);rw[UG];cases hk:(k==Qn.free)with
  |false=>rw[h1 n k a hk,pure_bind];show forIn r a f=_;rw[my h1 b r a d];simp only[iH,hk,Ri,if_false]
  |true=>
   have e:k=.free:=by simpa using hk
   subst e;obtain⟨c,g⟩:=h _ PH rfl;rw[b n c a g,pure_bind];show forIn r ((n,c)::a) f=_;rw[my h1 b r _ d];have j:=g;simp only[iH,hk,if_true,j]
theorem qL(h:∀y∈scope.names,y.2=.free->∃c,env.cells.lookup y.1=Bn c):closureFor scope env=pure (iH env scope.names []):=by simp only[closureFor];rw[my (λn k a b=>by simp only[b,Ri,if_false]) (λn c a d=>by simp only[dn,if_true,cellOf,d,pure_bind]) scope.names [] h,pure_bind]
theorem kJ:∀(names:bb (Str×Qn)) (a:bb (Str×Pz)),(∀x c,a.lookup x=Bn c->env.cells.lookup x=Bn c)->∀x c,(iH env names a).lookup x=Bn c->env.cells.lookup x=Bn c
 |[],_,h,x,c,e=>h x c e
 |(n,k)::r,a,h,x,c,e=>by
  unfold iH at e;split at e
  .split at e
   .rename_i g f
    refine kJ r _ (λy d q=>?_) x c e;rw[P6]at q;split at q
    .rename_i b;cases q;rw[eq_of_beq b];exact f
    .exact h y d q
   .exact kJ r a h x c e
  .exact kJ r a h x c e
theorem k7:∀(names:bb (Str×Qn)) (a:bb (Str×Pz)) (x:Str),(a.lookup x).isSome=Pr->((iH env names a).lookup x).isSome=Pr
 |[],_,_,h=>h
 |(n,k)::r,a,x,h=>by
  unfold iH;split
  .split
   .refine k7 r _ x ?_
    rw[P6];split
    .rfl
    .exact h
   .exact k7 r a x h
  .exact k7 r a x h
theorem mO:∀(names:bb (Str×Qn)) (a:bb (Str×Pz)) (x:Str) (c:Pz),(x,Qn.free)∈names->env.cells.lookup x=Bn c->((iH env names a).lookup x).isSome=Pr
 |[],_,_,_,h,_=>by cases h
 |(n,k)::r,a,x,c,h,hc=>by
  rcases P1.mp h with z|h
  .cases z;simp only[iH,dn,if_true,hc];exact k7 r _ _ (by simp[P6])
  .unfold iH
   split
   .split
    .exact mO r _ x c h hc
    .exact mO r a x c h hc
   .exact mO r a x c h hc
theorem w6(h:(x,Qn.free)∈names)(a:env.cells.lookup x=Bn c):(iH env names []).lookup x=Bn c:=by
 have q:=mO names [] x c h a;cases e:(iH env names []).lookup x with
 |none=>rw[e]at q;cases q
 |some d=>have z:=kJ names [] (λy d q=>by cases q) x d e;rw[a]at z;exact z.symm
theorem xt{env:Env}{a:TL}{x:Str}{k:Qn}(h:(relabel a env).names.lookup x=Bn k):∃k0,(x,k0)∈a.names/\(k=k0\/(k0=.free/\k=.cell)):=by
 obtain⟨⟨n,k0⟩,hm,e⟩:=Qo.mp (Rt h);simp only at e;split at e
 .rename_i b
  cases e;have d:(k0==Qn.free)=Pr:=by rw[P2,P2]at b;exact b.1.1
  exact⟨k0,hm,.inr ⟨by simpa using d,rfl⟩⟩
 .cases e;exact⟨_,hm,.inl rfl⟩
theorem j7{env:Env}:∀{names:bb (Str×Qn)} {x:Str},names.lookup x=Bn .free->
  (names.map λ(n,k)=>if(k==Qn.free&&env.scope.kind==.function&&env.kindOf n==Bn .cell)then(n,Qn.cell)else(n,k)).lookup x=Bn .cell\/
  (names.map λ(n,k)=>if(k==Qn.free&&env.scope.kind==.function&&env.kindOf n==Bn .cell)then(n,Qn.cell)else(n,k)).lookup x=Bn .free
 |[],_,h=>by cases h
 |(n,k)::r,x,h=>by
  rw[P6]at h;rw[PY];dsimp only;by_cases a:(k==Qn.free&&env.scope.kind==.function&&env.kindOf n==Bn .cell)=Pr
  .rw[av a,P6]
   cases hx:x==n with
   |true=>exact .inl rfl
   |false=>rw[hx]at h;exact j7 h
  .rw[ax a,P6]
   cases hx:x==n with
   |true=>rw[hx]at h;exact .inr h
   |false=>rw[hx]at h;exact j7 h
def gi(own:bb Str)(a:bb (Str×Nat)):bb Str:=own++a.map (·.1)
def iW(own:bb Str)(b:bb (Str×Nat))(a:St):St:=own.map (λ_=>Pn)++b.map λp=>(a[p.2]?).join
def XJ(X:Cx)(a:TL):bb (Str×Nat)->Prop
 |[]=>True
 |p::r=>(X.N[p.2]?=Bn p.1/\a.names.lookup p.1=Bn .free/\(X.env.scope.names.lookup p.1=Bn .cell\/X.env.scope.names.lookup p.1=Bn .free))/\XJ X a r
theorem XJ.mem:∀{a:bb (Str×Nat)},XJ X scope a->∀p∈a,X.N[p.2]?=Bn p.1/\scope.names.lookup p.1=Bn .free/\(X.env.scope.names.lookup p.1=Bn .cell\/X.env.scope.names.lookup p.1=Bn .free)
 |[],_,p,hp=>by cases hp
 |q::r,h,p,hp=>by
  rcases P1.mp hp with z|hp
  .rw[z];exact h.1
  .exact h.2.mem p hp
def wD(X:Cx)(a:TL)(C:Pz):bb (Str×Pz):=RH (C+1) a.names (iH X.env a.names [])
theorem qW:∀(names:bb (Str×Qn)) (n:Nat) (b:bb (Str×Pz)) (x:Str) (c:Pz),(RH n names b).lookup x=Bn c->(n<=c/\(x,Qn.cell)∈names)\/b.lookup x=Bn c
 |[],_,_,_,_,h=>.inr h
 |(y,k)::r,n,b,x,c,h=>by
  unfold RH at h;by_cases d:(k==Qn.cell)=Pr
  .rw[av d]at h
   have e:k=.cell:=by simpa using d
   rcases qW r _ _ x c h with⟨a,f⟩|a
   .exact .inl ⟨Ue a,PD _ f⟩
   .rw[P6]at a
    split at a
    .rename_i g;cases a;exact .inl ⟨PF _,by rw[eq_of_beq g,e];exact PH⟩
    .exact .inr a
  .rw[ax d]at h
   rcases qW r _ _ x c h with⟨a,f⟩|a
   .exact .inl ⟨a,PD _ f⟩
   .exact .inr a
theorem Fn:∀(names:bb (Str×Qn)) (n:Nat) (a:bb (Str×Pz)) (x:Str),(x,Qn.cell)∉names->(RH n names a).lookup x=a.lookup x
 |[],_,_,_,_=>rfl
 |(y,k)::r,n,a,x,h=>by
  have d:=λz=>h (PD _ z);unfold RH;by_cases b:(k==Qn.cell)=Pr
  .have e:k=.cell:=by simpa using b
   rw[av b,Fn r _ _ x d,P6];have f:(x==y)=Py:=by refine beq_eq_false_iff_ne.mpr λz=>h ?_;rw[z,e];exact PH
   rw[f]
  .rw[ax b];exact Fn r _ _ x d
theorem rz:∀(names:bb (Str×Qn)) (h:Heap) (b:bb (Str×Pz)) (x:Str) (c:Pz),(RH h.objs.size names b).lookup x=Bn c->(h.objs.size<=c/\(pushCells h names).IsCell c Pn)\/b.lookup x=Bn c
 |[],_,_,_,_,e=>.inr e
 |(y,k)::r,h,b,x,c,e=>by
  unfold RH at e;unfold pushCells;by_cases d:(k==Qn.cell)=Pr
  .rw[av d]at e⊢
   rw[<-b7 h {cls:=.type "cell",data:=.cell Pn}]at e;rcases rz r _ _ x c e with⟨a,f⟩|a
   .rw[b7]at a;exact .inl ⟨Ue a,f⟩
   .rw[P6]at a
    split at a
    .cases a;exact .inl ⟨PF _,_,Xf _ _ _ _ (b0 _ rfl),rfl⟩
    .exact .inr a
  .rw[ax d]at e⊢;exact rz r _ _ x c e
theorem zn:∀(names:bb (Str×Qn)) (n:Nat) (e:bb (Str×Pz)),(∀x c,e.lookup x=Bn c->c<n)->(∀x y c,e.lookup x=Bn c->e.lookup y=Bn c->x=y)->∀x y c,(RH n names e).lookup x=Bn c->(RH n names e).lookup y=Bn c->x=y
 |[],_,_,_,h2,x,y,c,e1,e2=>h2 x y c e1 e2
 |(z,k)::r,n,e,h1,h2,x,y,c,e1,e2=>by
  unfold RH at e1 e2;by_cases h:(k==Qn.cell)=Pr
  .rw[av h]at e1 e2
   refine zn r (n+1) ((z,n)::e) (λa d q=>?_) (λa b d g f=>?_) x y c e1 e2
   .rw[P6]at q
    split at q
    .cases q;exact Tg _
    .exact RT (h1 a d q)
   .rw[P6]at g f
    split at g
    .rename_i ha
     split at f
     .rename_i i;rw[eq_of_beq ha,eq_of_beq i]
     .cases g;exact a5 (h1 b _ f) (RB _)
    .split at f
     .cases f;exact a5 (h1 a _ g) (RB _)
     .exact h2 a b d g f
  .rw[ax h]at e1 e2;exact zn r n e h1 h2 x y c e1 e2
theorem z5:∀{names:bb (Str×Qn)} {x:Str} {k a:Qn},(names.map (·.1)).Nodup->names.lookup x=Bn k->(x,a)∈names->k=a
 |[],_,_,_,_,h,_=>by cases h
 |(y,j)::r,x,k,a,hn,h,hm=>by
  rw[PY,Q3]at hn;rw[P6]at h;rcases P1.mp hm with e|hm'
  .cases e;rw[dn]at h;exact(P4 h).symm
  .cases hx:x==y with
   |true=>rw[eq_of_beq hx]at hm';exact a5 (Qo.mpr ⟨_,hm',rfl⟩) hn.1
   |false=>rw[hx]at h;exact z5 hn.2 h hm'
def ef(X:Cx)(s:Px)(H:Hp)(a:TL)(C:Pz)(N:bb Str)(fp:bb Pz):Cx:=
 {X with N:=N,s₀:=s,H₀:=H,env:=compEnvC a (wD X a C) C X.env,outer:=X.stack,stack:=X.stack,ex:=fp,fn:=λx=>((iH X.env a.names []).lookup x).isNone,pn:=[],xe:=λ_ _=>False}
section
variable{X:Cx}{Z:bb (Pz×Obj)}{Y:St}{H:Hp}{s:Px}
theorem tZ{a:TL}(I:Inv X Z Y H s)(e:(iH X.env a.names []).lookup x=Bn c):X.env.cells.lookup x=Bn c/\c<s.heap.objs.size:=by have h:=kJ _ _ (λ_ _ q=>by cases q) x c e;obtain⟨v,o,z,_⟩:=I.cell x c h;exact⟨h,bP z⟩
theorem BQ(I:Inv X Z Y H s)(L:scope.kind=.function)(G:(scope.names.map (·.1)).Nodup)
  (F:∀y∈scope.names,y.2=.free->∃c,X.env.cells.lookup y.1=Bn c) (d:s.heap.objs.size<=C) (g:∀b∈fp,oA X Z H b) (u:∀b∈fp,b<s.heap.objs.size):(ef X s H scope C N fp).Ok where
 mod:=I.ok.mod
 kind:=L
 glob:=I.ok.glob
 blt:=I.ok.blt
 above:=d
 inj:=zn _ _ _ (λx c e=>RT (Qd (tZ I e).2 d)) λx y c n m=>I.ok.inj x y c (tZ I n).1 (tZ I m).1
 has:=λx w=>by
  have J:∃k,(relabel scope X.env).names.lookup x=Bn k/\(k=.cell\/k=.free):=by
   rcases w with z|z
   .exact⟨_,z,.inl rfl⟩
   .exact⟨_,z,.inr rfl⟩
  obtain⟨k,B,K⟩:=J;obtain⟨t,hm,i⟩:=xt B;have e:t=.free\/t=.cell:=by
   rcases i with z|⟨z,_⟩
   .subst z
    rcases K with z|z
    .exact .inr z
    .exact .inl z
   .exact .inl z
  have q:((wD X scope C).lookup x).isSome=Pr:=by
   rcases e with e|e
   .subst e;obtain⟨c,E⟩:=F _ hm rfl;exact SM _ _ _ (.inr (by rw[w6 hm E];rfl))
   .subst e
    refine SM _ _ _ (.inl ?_);cases z:scope.names.lookup x with
    |none=>exact a5 hm (λhm=>by
      have:∀{l:bb (Str×Qn)},l.lookup x=Pn->(x,Qn.cell)∉l:=λ{l}=>by
       induction l with
       |nil=>exact λ_=>by simp
       |cons p r v=>
        intro h q;rw[P6]at h;rcases P1.mp q with q|q
        .rw[<-q,dn]at h;cases h
        .split at h
         .cases h
         .exact v h q
      exact this z hm)
    |some M=>rw[z5 G z hm]
  exact Wo.mp q
 cab:=λx c n m=>by
  have f:((iH X.env scope.names []).lookup x).isNone=Pr:=n;have j:=m;rcases qW _ _ _ x c j with⟨z,_⟩|z
  .exact Qz d (Ue z)
  .rw[z]at f;cases f
 hd:=I.ok.hd
 frames:=I.ok.frames
 stk:=.inl rfl
 exf:=λb a=>⟨P5 (Qd (u b a) d),λx c e=>by
  rcases qW _ _ _ x c e with⟨z,_⟩|z
  .exact Q0 (Qd (Qd (u b a) d) (Ue z))
  .exact(g b a).2.2.2.2.1 x c (tZ I z).1⟩
 bs:=I.bs
 Za:=Qz I.ok.Za I.sz
 Yq:=λb o e a=>by
  rcases(g b a).2.2.2.1 with z|z
  .exact I.ok.Yq b o e z
  .exact a5 (Qd (bP e) (Qz I.ok.Za z)) (RB _)
 Yt:=λb a A=>by
  rcases P1.mp (I.XX b A)with z|z
  .exact(g b a).2.1 z
  .exact(g b a).2.2.1 z
 Vx:=I.stack
 ZY:=I.Ya
theorem Fd(I:Inv X Z Y H s)(TY:scope.kind=.function)(Y5:(scope.names.map (·.1)).Nodup)
  (YE:∀y∈scope.names,y.2=.free->∃c,X.env.cells.lookup y.1=Bn c) (hfv:XJ X scope fv) (hD:s.heap.objs.size<=D) (hDC:D<C) (hC:s.heap.objs.size<=C) (hf:∀b∈fp,oA X Z H b) (ZU:∀b∈fp,b<s.heap.objs.size)
  (Yo:h1.Ns C m) (hoc:∀x c,(wD X scope C).lookup x=Bn c->C<c->∃v,h1.IsCell c v) (hk:∀b o,s.heap.get? b=Bn o->h1.get? b=Bn o) (hd:∃n,h1.get? D=Bn {cls:=.type "list",data:=.seq #[] n}):
  Inv (ef X s H scope C (gi own fv) fp) [] (iW own fv Y) (bS H D (.lst [])) {s with heap:=h1,toks:=t1}:=by
 have hn:=I.Ro.fresh hD;obtain⟨n,hd⟩:=hd;have hCD:=Q0 hDC;have hcs:∀x c,(wD X scope C).lookup x=Bn c->C<c\/(X.env.cells.lookup x=Bn c/\c<s.heap.objs.size):=λx c e=>by
  rcases qW _ _ _ x c e with⟨z,_⟩|z
  .exact .inl z
  .exact .inr (tZ I z)
 refine⟨BQ I TY Y5 YE hC hf ZU,rfl,I.bare,Un.laid hk hD hn,⟨m,Yo,λi x v e1 e2 e3=>?_⟩,λx c e=>?_,?_,λx c e=>?_,λp hp=>a5 (show p∈([]:bb (Pz×Obj))from hp) (by simp),?_,?_⟩
 .
  have e1':(own++fv.map (·.1))[i]?=Bn x:=e1;have ZZ:(own.map (λ_=>(Pn:bg V))++fv.map λp=>(Y[p.2]?).join)[i]?=Bn (Bn v):=e2;have hi:own.length<=i:=by
   by_cases hi:i<own.length
   .rw[P9 (by simpa using hi),PU]at ZZ
    cases q:own[i]? with
    |none=>rw[q]at ZZ;cases ZZ
    |some _=>rw[q]at ZZ;cases ZZ
   .omega
  rw[Qq hi,PU]at e1';rw[Qq (by simpa using hi),PU,Pp]at ZZ;cases q:fv[i - own.length]? with
  |none=>rw[q]at e1';cases e1'
  |some p=>
   rw[q]at e1' ZZ;have ex:=P4 e1';subst ex;have ev:(Y[p.2]?).join=Bn v:=P4 ZZ;obtain⟨g1,g2,g3⟩:=hfv.mem p (Qs q);have ev2:Y[p.2]?=Bn (Bn v):=by
    cases z:Y[p.2]? with
    |none=>rw[z]at ev;cases ev
    |some y=>rw[z]at ev;exact di Bn ev
   obtain⟨m0,_,hl⟩:=I.loc;obtain⟨u,r,l⟩:=hl p.2 p.1 v g1 ev2 (.inr g3);refine⟨u,r,?_⟩;have l2:∃c,X.env.cells.lookup p.1=Bn c/\s.heap.IsCell c (Bn u):=by
    rcases l with⟨k,_⟩|⟨_,c,e,z⟩
    .have k':X.env.scope.names.lookup p.1=Bn .local:=k
     rcases g3 with z|z
     .rw[z]at k';cases k'
     .rw[z]at k';cases k'
    .exact⟨c,e,z⟩
   obtain⟨c,e,o,ho,hdc⟩:=l2;refine .inr ⟨?_,c,?_,o,hk c o ho,hdc⟩
   .exact j7 g2
   .show(wD X scope C).lookup p.1=Bn c;unfold wD;rw[Fn _ _ _ _ λz=>by cases z5 Y5 g2 z];exact w6 (Rt g2) e
 .rcases hcs x c e with z|⟨z,_⟩
  .exact hoc x c e z
  .obtain⟨v,o,ho,hdc⟩:=I.cell x c z;exact⟨v,o,hk c o ho,hdc⟩
 .show bS H D (.lst []) C=Pn;rw[a9 hCD];exact I.Ro.fresh hC
 .show bS H D (.lst []) c=Pn
  rcases hcs x c e with z|⟨z1,z2⟩
  .rw[a9 (Q0 (Sx hDC z))];exact I.Ro.fresh (Qz hC (UC z))
  .rw[a9 (P5 (Qd z2 hD))];exact I.UT x c z1
 .exact I.Ro.laid hk hD ⟨by show 0<=PZ;exact Qu _,[],n,.nil,hd⟩
 .show(own.map (λ_=>(Pn:bg V))++fv.map λp=>(Y[p.2]?).join).length=(own++fv.map (·.1)).length;simp
end
def Df(X:Cx)(d:bb QK)(t:TT):Prop:=
 ∀(a:bb (Pz×Obj)) (s:Px) (b:St) (H:Hp) (Q:Bool->Hp->Prop),Inv X a b H s->t b H Q->
  wpAny (model X.prog X.w) X.A (forIn d Pr λc r=>if r=Pr then do let ok<-isTrue c X.env (eval c X.env);pure (ForInStep.yield ok)else pure (ForInStep.yield r)) (TP X a b Q) X.xe s
def Fq:TT:=λ_ H Q=>Q Pr H
theorem eZ:Df X [] Fq:=λ_ _ _ H _ I h=>wpAny_tests_nil ⟨H,I,h⟩
theorem jn(h:PT X c tc):Df X [c] tc:=λa s b H Q I d=>wpAny_tests_one (h a s b H Q I d)
def ES(J:It)(D:Pz)(d:St)(g:TG)(j:TT)(h:TE)(n:Hp)(Fin:Hp->Prop):Prop:=
 ∃W:Nat->Nat->St->Hp->Prop,(∃m,W 0 m d (bS n D (.lst [])))/\∀i m σ H,W i m σ H->
  (J.stop i H/\Fin H)\/(J.go i H/\∃N:St->Hp->Prop,(∀σ' H',N σ' H'->∃m',m'<m/\W (i+1) m' σ' H')/\
   ∀x H',J.yld i H x H'->g x σ H' λa l=>j a l λb f=>if b=Pr then h a f λy e=>∃ys,e D=Bn (.lst ys)/\ys.length<PZ/\N a (bS e D (.lst (ys++[y])))else N a f)
section
variable{prog:Qc}{w:Qt}{A:Ql}{s:Px}
theorem Cl{g o d:QK}{f:bb QK}{b:TL}{j:Pos}{p i:Pq}{env:Env}{R:WC->Px->Prop}{XE:Pq->Px->Prop}(C:∀x s1,XE x s1->notedBy (model prog w) A env (λe s2=>R (.error e) s2) x s1)(I:Nat->Px->Prop)
  (turn:∀n s,I n s->wpAny (model prog w) A (pyNext p) (λr s1=>match r with
   |none=>R (.ok .next) s1
   |some v=>wpAny (model prog w) A (letOwnedTupleGo o p v) (λ_ s2=>wpAny (model prog w) A (assign o env v) (λ_ s3=>
     wpAny (model prog w) A (forIn f Pr λc r=>if r=Pr then do let ok<-isTrue c env (eval c env);pure (ForInStep.yield ok)else pure (ForInStep.yield r)) (λok s4=>
      if ok=Pr then wpAny (model prog w) A (eval g env) (λx s5=>
       wpAny (model prog w) A (call (.builtin "list.append") [i,x]) (λ_ s6=>∃m,m<n/\I m s6) (λ_ _=>False) s5) XE s4
      else∃m,m<n/\I m s4) (λ_ _=>False) s3) (λ_ _=>False) s2) (λ_ _=>False) s1) (λ_ _=>False) s)
  (n:Nat) (h:I n s):codeAny (model prog w) A (.compLoop (.ListComp g [⟨o,d,f,0⟩] b j) 0 p i env) R s:=by
 refine codeAny_loop rfl I (λn s F=>?_) n h;show wpAny _ A (Sem.onRaise (compTurn (.ListComp g [⟨o,d,f,0⟩] b j) 0 p i env) (λx=>do noteFrame x env;theTreesLotGoes x)) _ _ s;refine wpAny_noted ?_;rw[compTurn_list]
 have l:∀{α:Type} {t:Sem α} {Q B:α->Px->Prop} {E:Pq->Px->Prop} {s:Px},wpAny (model prog w) A t Q (λ_ _=>False) s->(∀a s',Q a s'->B a s')->wpAny (model prog w) A t B E s:=
  λq u=>wpAny_mono q u λ_ _ z=>False.elim z
 refine Ld (aff (Ld (l (turn n s F) λr s1 q=>?_)));cases r with
 |none=>exact Pt q
 |some v=>
  refine Ld (l q λ_ s2 u=>Ld (l u λ_ s3 J=>Ld (l J λok s4 y=>?_)));cases ok with
  |false=>exact Pt ⟨rfl,y⟩
  |true=>exact Ld (Ld (wpAny_mono y (λx s5 H=>Ld (l H λ_ s6 G=>Pt (Pt ⟨rfl,G⟩))) C))
end
section
variable{X:Cx}{Z:bb (Pz×Obj)}{Y:St}{H:Hp}{s:Px}
theorem uY
  (h:Q (newEnv scope s.heap.objs.size globals (RH (s.heap.objs.size+1) scope.names closure) qual Pn .none (Bn env) builtinsNs) {s with heap:=pushCells (s.heap.push {cls:=.type "dict",data:=.dict #[]}) scope.names}):
  wpAny M A (newFunctionEnv scope globals closure [] qual Pn .none (Bn env)) Q E s:=by
 simp only[newFunctionEnv,X3,if_true];refine Ld (wpAny_alloc ?_);refine Ld (wpAny_layCells _ (λd a b=>by cases hkc:a==Qn.cell<;>simp[hkc]) _ _ _ _ ?_);rw[show({s with heap:=s.heap.push {cls:=.type "dict",data:=.dict #[]}}:Px).heap.objs.size=s.heap.objs.size+1 from b7 ..];rw[Ws];exact Ld (Pt (Pt h))
theorem sr{O tg q:QK}{F:bb QK}{scope:TL}{pos:Pos}{own:bb Str}{h:bb (Str×Nat)}{g:TG}{tc:TT}{te:TE}{E:Pq->Px->Prop}{it:Pz}{fp:bb Pz}{U:Nat->Heap->Prop}{J:It}{Fin:Pz->Hp->Prop}
  {RR:Pq->Pz->WC->Px->Prop} (I:Inv X Z Y H s) (hc:X.calm=Pr) (TY:scope.kind=.function) (Y5:(scope.names.map (·.1)).Nodup) (YE:∀y∈scope.names,y.2=.free->∃c,X.env.cells.lookup y.1=Bn c) (hfv:XJ X scope h)
  (T:Turn X.prog X.w X.K tg J fp it U) (st:U 0 s.heap) (G:∀b∈fp,oA X Z H b)
  (hg:∀C,PG (ef X s H scope C (gi own h) fp) tg g) (ht:∀C,Df (ef X s H scope C (gi own h) fp) F tc) {W:Pz->Pq->Px->Prop} (he:∀C,PE ((ef X s H scope C (gi own h) fp).VS (W C)) O te) (hEE:∀D C x s1,s.heap.objs.size<=C->W C x s1->notedBy (model X.prog X.w) X.A (compEnvC scope (wD X scope C) C X.env) (λe s2=>RR (.ref D) C (.error e) s2) x s1)
  (hR:∀D,H D=Pn->ES J D (iW own h Y) g tc te H (Fin D))
  (hRR:∀D C H' s',Inv X Z Y H' s'->Fin D H'->(∃m,s'.heap.Ns C m)->s.heap.objs.size<=C->H' C=Pn->RR (.ref D) C (.ok .next) s'):
  wpAny (model X.prog X.w) X.A (newList []) (λacc s3=>wpAny (model X.prog X.w) X.A (newFunctionEnv scope X.env.globals (iH X.env scope.names []) [] X.env.qual Pn .none (Bn X.env)) (λace s4=>
   codeAny (model X.prog X.w) X.A (.compStart (.ListComp O [⟨tg,q,F,0⟩] scope pos) 0 (.ref it) acc {ace with scope:=relabel scope X.env}) (RR acc ace.locals) s4) E s3) E s:=by
 refine QE ?_;generalize hH2:s.heap.push {cls:=.type "list",dict:=Pn,data:=.seq ([]:bb Pq).toArray}=h2;have hz:h2.objs.size=s.heap.objs.size+1:=by rw[<-hH2,b7]
 refine uY (s:={s with heap:=h2}) ?_;have L:s.heap.objs.size<h2.objs.size:=by rw[hz];exact Tg _
 have hC:s.heap.objs.size<=h2.objs.size:=UC L;generalize hH1:pushCells (h2.push {cls:=.type "dict",data:=.dict #[]}) scope.names=h1;have kp2:∀b o,h2.get? b=Bn o->h1.get? b=Bn o:=λb o e=>by rw[<-hH1];exact Xf _ _ b o (br _ e)
 have kp:∀b o,s.heap.get? b=Bn o->h1.get? b=Bn o:=λb o e=>kp2 b o (by rw[<-hH2];exact br _ e);have Yo:h1.Ns h2.objs.size (λ_=>Pn):=by rw[<-hH1];exact(Heap.Ns.new h2 (.type "dict")).keeps (Xf _ _)
 have hoc:∀x c,(wD X scope h2.objs.size).lookup x=Bn c->h2.objs.size<c->∃v,h1.IsCell c v:=λx c e T7=>by
  have e':(RH (h2.push {cls:=.type "dict",data:=.dict #[]}).objs.size scope.names (iH X.env scope.names [])).lookup x=Bn c:=by rw[b7];exact e
  rcases rz _ _ _ x c e' with⟨_,z⟩|z
  .exact⟨Pn,by rw[<-hH1];exact z⟩
  .exact a5 (Sx (tZ I z).2 (Sx L T7)) (RB _)
 have hd:∃n,h1.get? s.heap.objs.size=Bn {cls:=.type "list",data:=.seq #[] n}:=⟨0,kp2 _ _ (by rw[<-hH2];exact b0 _ rfl)⟩;have ZU:∀b∈fp,b<s.heap.objs.size:=λb f=>by obtain⟨o,e,_⟩:=T.obj 0 _ st b f;exact bP e
 have hn:H s.heap.objs.size=Pn:=I.Ro.fresh (PF _);obtain⟨W,⟨m0,w0⟩,turn⟩:=hR s.heap.objs.size hn;have M:∀{pl:bb (Pz×Obj)} {H':Hp},(∀b∈fp,H' b=Pn)->(∀p∈pl,p.1∉fp)->∀b∈fp,oA (ef X s H scope h2.objs.size (gi own h) fp) pl H' b:=λ{pl H'} ZW Xb b f=>by have ok:=BQ (C:=h2.objs.size) (N:=gi own h) I TY Y5 YE hC G ZU;exact⟨ZW b f,(ok.exf b f).1,ok.Yt b f,.inl f,(ok.exf b f).2,λp hp=>by have hp':p∈([]:bb (Pz×Obj))++pl:=hp;intro z;exact Xb p (by simpa using hp') (by rw[z];exact f)⟩
 have l:∀s4:Px,s4={s with heap:=h1}->
   codeAny (model X.prog X.w) X.A (.compLoop (.ListComp O [⟨tg,q,F,0⟩] scope pos) 0 (.ref it) (.ref s.heap.objs.size) (compEnvC scope (wD X scope h2.objs.size) h2.objs.size X.env)) (RR (.ref s.heap.objs.size) h2.objs.size) s4:=by
  rintro s4 rfl
  have I0:Inv (ef X s H scope h2.objs.size (gi own h) fp) [] (iW own h Y) (bS H s.heap.objs.size (.lst [])) {s with heap:=h1}:=
   Fd I TY Y5 YE hfv (PF _) L hC G ZU Yo hoc kp hd
  have st0:U 0 h1:=T.keep 0 _ _ st λb _ o e=>kp b o e;have fr0:∀b∈fp,(bS H s.heap.objs.size (.lst [])) b=Pn:=λb f=>by rw[a9 (P5 (ZU b f))];exact(G b f).1
  refine Cl (λx s1 z=>hEE _ _ x s1 hC z) (λn s'=>∃i σ' H',Inv (ef X s H scope h2.objs.size (gi own h) fp) [] σ' H' s'/\U i s'.heap/\(∀b∈fp,H' b=Pn)/\W i n σ' H') ?_ m0 ⟨0,_,_,I0,st0,fr0,w0⟩;rintro n s5 ⟨i,j,H5,I5,st5,fr5,w5⟩;rcases turn i n j H5 w5 with⟨stop,fin⟩|⟨go,N,hN,step⟩
  .refine dF (T.done (ef X s H scope h2.objs.size (gi own h) fp) rfl rfl rfl hc i [] s5 j H5 (λ_ _=>False) I5 (M fr5 (by simp)) st5 stop) λr s6 ⟨hr,R⟩=>?_;subst hr;obtain⟨mm,hm,_⟩:=R.loc;refine hRR _ _ H5 s6 ?_ fin ⟨mm,hm⟩ hC R.free;exact I.ab5 (ch:=fp) R.os R.base R.Ro R.bare λb f=>⟨(G b f).2.2.2.1,(G b f).2.1,(G b f).2.2.2.2.1,(G b f).2.2.2.2.2⟩
  .refine dF (T.item (ef X s H scope h2.objs.size (gi own h) fp) rfl rfl rfl hc i [] s5 j H5 (λ_ _=>False) I5 (M fr5 (by simp)) st5 go) λr s6 ⟨u,hr,h6⟩=>?_
   subst hr;refine dF h6 λ_ s7 ⟨x,H7,I7,r7,y7,B,fr7⟩=>?_;have I7':=I7.pinned (fp:=fp) (M fr7 (by simp)) (T.obj _ _ B);have t:∀{a:St} {P:Hp} {Q:Px},Inv (ef X s H scope h2.objs.size (gi own h) fp) ([]++sD fp s7.heap) a P Q->N a P->∃m,m<n/\∃i σ' H',Inv (ef X s H scope h2.objs.size (gi own h) fp) [] σ' H' Q/\U i Q.heap/\(∀b∈fp,H' b=Pn)/\W i m σ' H':=λ{a P Q} I8 n8=>by obtain⟨m',hm,w8⟩:=hN a P n8;refine⟨m',hm,i+1,a,P,I8.Vn,T.keep _ _ _ B λb f o e=>(I8.pin (b,o) (QM _ (QM _ (jF f e)))).1,λb f=>?_,w8⟩;obtain⟨o,e,d⟩:=T.obj _ _ B b f;exact(I8.pin (b,o) (QM _ (QM _ (jF f e)))).2.1
   refine dF (hg _ _ s7 j H7 x u _ I7' r7 (step x H7 y7)) λ_ Q ⟨a,P,I8,q8⟩=>?_;refine dF (ht _ _ Q a P _ I8 q8) λok s9 ⟨H9,I9,q9⟩=>?_;cases ok with
   |false=>rw[ax P7]at q9⊢;exact t I9 q9
   |true=>rw[av rfl]at q9⊢;refine dF (he _ _ s9 a H9 _ (I9.VS _) q9) λy s10 ⟨S,H10,adJ,r10,ys,hy,hl,q10⟩=>?_;have I10:=adJ.Uq;refine dF (gn _ s10 a H10 (.ref s.heap.objs.size) [S] (.ref s.heap.objs.size) [y] (λ_ H11=>N a H11) I10 rfl (.cons r10 .nil) ⟨_,ys,S,rfl,rfl,hy,hl,q10⟩) λ_ s11 ⟨v11,H11,I11,_,q11⟩=>?_;exact t I11 q11
 exact codeAny_compStart_list (l _ rfl) (T.self _ 0 _ _ _ (T.keep 0 _ _ st λb _ o e=>kp b o e) (l _ rfl))
def yu(own:bb Str)(f:bb (Str×Nat))(b:TI)(g:TG)(e:TT)(d:TE):TE:=λY H Q=>b Y H λJ a=>∀D,a D=Pn->ES J D (iW own f Y) g e d a λh=>Q (.ref D) h
theorem qu{a:TL}(ok:X.Ok)(h:∀y∈a.names,y.2=.free->(X.env.scope.names.lookup y.1=Bn .cell\/X.env.scope.names.lookup y.1=Bn .free)):∀y∈a.names,y.2=.free->∃c,X.env.cells.lookup y.1=Bn c:=
 λy b e=>ok.has y.1 (h y b e)
theorem Jl{a b:TL}(h:(a.names.all λy=> !(y.2==Qn.free)||(b.names.lookup y.1==Bn Qn.cell)||(b.names.lookup y.1==Bn Qn.free))=Pr):
  ∀y∈a.names,y.2=.free->(b.names.lookup y.1=Bn .cell\/b.names.lookup y.1=Bn .free):=λy d e=>by
 have q:=Sa.mp h y d;rw[e]at q
 simpa using q
theorem eG{elt tg iter:QK}{ifs:bb QK}{scope:TL}{pos:Pos}(own:bb Str)(fv:bb (Str×Nat)){wi:TI}{g:TG}{tc:TT}{te:TE}(hc:X.calm=Pr)(hi:PI X tg iter wi)
  (hg:∀s H C fp,PG (ef X s H scope C (gi own fv) fp) tg g) (ht:∀s H C fp,Df (ef X s H scope C (gi own fv) fp) ifs tc) (he:∀s H C fp,PE (ef X s H scope C (gi own fv) fp) elt te) (hfv:XJ X scope fv)
  (aaB:(scope.names.all λy=> !(y.2==Qn.free)||(X.env.scope.names.lookup y.1==Bn Qn.cell)||(X.env.scope.names.lookup y.1==Bn Qn.free))=Pr)
  (TY:scope.kind=.function:=by rfl) (Y5:(scope.names.map (·.1)).Nodup:=by left)
  (XG:∀y∈scope.names,y.2=.local->scope.names.lookup y.1=Bn .local:=by left) (hs:∀x,foldedSetIterable iter X.env x=pure x:=by intro _;rfl):
  PE X (.ListComp elt [⟨tg,iter,ifs,0⟩] scope pos) (yu own fv wi g tc te):=by
 intro Z s Y H Q I h;have YE:=Jl aaB;rw[eval_ListComp];refine Yh (use:=Pn) rfl hs (qL (qu I.ok YE)) TY XG (dF (hi Z s Y H _ I h) λxv s1 h1=>dF h1 λitv s2 h2=>?_);obtain⟨it,fp,tn,J,H2,e,I2,T,st2,f2,R⟩:=h2;subst e;refine sr I2 hc TY Y5 (qu I.ok YE) hfv T st2 f2 (λC=>hg _ _ C _) (λC=>ht _ _ C _) (W:=λ_ _ _=>False) (λC=>he _ _ C _) (λ_ _ _ _ _ z=>z.elim) (Fin:=λD H'=>Q (.ref D) H') R ?_;intro D C H' s' I' fin hm hC hn;obtain⟨m,hm⟩:=hm;refine⟨m,hm,λh' hs'=>⟨.ref D,H',?_,rfl,fin⟩⟩;obtain⟨f0,f1,_,f3,f4,f5⟩:=I2.Yv hC hn;exact I'.turned (t':=s'.toks) (λb o hb q=>(hs'.2 b hb).trans q) f0 f1 f3 f4 f5
theorem vC{elt tg iter:QK}{ifs:bb QK}{scope:TL}{pos abV py:Pos}{i:Nat}{x:Str}(own:bb Str)(fv:bb (Str×Nat)){wi:TI}{g:TG}{tc:TT}{te:TE}(hN:X.N.Nodup)(hi':X.N[i]?=Bn x)(hx:X.env.scope.names.lookup x=Bn .local)
  (hc:X.calm=Pr) (hi:PI X tg iter wi)
  (hg:∀s H C fp,PG (ef X s H scope C (gi own fv) fp) tg g) (ht:∀s H C fp,Df (ef X s H scope C (gi own fv) fp) ifs tc) (he:∀s H C fp,PE (ef X s H scope C (gi own fv) fp) elt te) (hfv:XJ X scope fv)
  (aaB:(scope.names.all λy=> !(y.2==Qn.free)||(X.env.scope.names.lookup y.1==Bn Qn.cell)||(X.env.scope.names.lookup y.1==Bn Qn.free))=Pr)
  (hsw:Rz (.ListComp elt [⟨tg,iter,ifs,0⟩] scope pos) (Bn (.Name x py)) abV.line X.env=pure Pr:=by rfl)
  (TY:scope.kind=.function:=by rfl) (Y5:(scope.names.map (·.1)).Nodup:=by left)
  (XG:∀y∈scope.names,y.2=.local->scope.names.lookup y.1=Bn .local:=by left) (hs:∀x,foldedSetIterable iter X.env x=pure x:=by intro _;rfl):
  PS X (.Assign [.Name x py] (.ListComp elt [⟨tg,iter,ifs,0⟩] scope pos) abV) (Ex (yu own fv wi g tc te) (ya i)):=by
 intro Z s Y H D I h;have YE:=Jl aaB;rw[exec_Assign_Name_used _ _ _ _ hsw];refine Ld (aff (Ld ?_));show wpAny _ _ (do let _<-comprehension (.ListComp elt [⟨tg,iter,ifs,0⟩] scope pos) scope X.env _ (newList []) Py (eval iter X.env) (Bn (assign (.Name x py) X.env))) _ _ s;refine Ld (dF (Yh (use:=Bn (assign (.Name x py) X.env)) (Q:=λ_ s'=>SP X Z D .next s') rfl hs (qL (qu I.ok YE)) TY XG
  (dF (hi Z s Y H _ I h) λxv s1 h1=>dF h1 λitv s2 h2=>?_)) λ_ s' q=>Pt (Pt q))
 obtain⟨it,fp,tn,J,H2,e,I2,T,st2,f2,R⟩:=h2;subst e;refine sr I2 hc TY Y5 (qu I.ok YE) hfv T st2 f2 (λC=>hg _ _ C _) (λC=>ht _ _ C _) (W:=λ_ _ _=>False) (λC=>he _ _ C _) (λ_ _ _ _ _ z=>z.elim) (Fin:=λL H'=>D.nx (Y.set i (Bn (.ref L))) H') R ?_;intro L C H' s' I' fin hm hC hn;obtain⟨m,hm⟩:=hm;obtain⟨f0,f1,f2',f3,f4,f5⟩:=I2.Yv hC hn;show wpAny _ _ (assign (.Name x py) X.env (.ref L)) _ _ s';refine aaT (ub I' hN hi' (.inl hx) (v:=.ref L) rfl (λs'' I'' ⟨a,sb,ha⟩=>?_) (.inr hx));have hCa:C≠a:=by
  rcases ha with z|z
  .rw[z];exact f1
  .exact λq=>f4 x a z q.symm
 refine⟨m,hm.sameBut sb hCa,λh' hs'=>⟨_,H',?_,fin⟩⟩;exact I''.turned (t':=s''.toks) (λb o hb q=>(hs'.2 b hb).trans q) f0 f1 f3 f4 f5
end
def wW(P:Qc)(w:Qt)(K:Po)(mg:Str->bg Pq)(base:Heap)(k:Nat)(x:Str)(ps:bb Str)(sp:Sp):Prop:=
 ∃(f:Pz) (a:Q6),FnOk P w K mg base dL k f a ps sp/\Binds K a ps []/\RX K (.ref f)=Pr/\mg x=Bn (.ref f)
theorem gf(C:wW X.prog X.w X.K X.mg X.base k x ps sp)(g:Sg j X.A)(ha:PA X (e::es) t)(a:k<=j:=by decide)(h:Gl X x:=by rfl)
  (l:(x==("__debug__":Str))=Py:=by decide) (i:Qp (e::es) X.env=(Py,eval e X.env)::Qp es X.env:=by rfl) (n:(backTo pos (Qp es X.env)).any (·.1)=Py:=by rfl):
  PE X (.Call (.Name x p) (e::es) [] pos) (rT sp [] E0 t):=by
 obtain⟨f,o,F,b,d,m⟩:=C;exact IW F (g.mono a) h m d b .nil EG ha l i n
theorem Lc{α:Type}{xs:bb α}{i:Int}{v:α}(a:0<=i)(h:xs[i.toNat]?=Bn v):lO xs i=Bn v:=by have q:=Ah h;rwa [SF a]at q
theorem Rx.tup{K:Po}(e:Rx H H')(h:Uj K H a xs):Uj K H' a xs:=by
 rcases h with(h|⟨o,h⟩)|h
 .exact .inl (.inl (e _ _ h))
 .exact .inl (.inr ⟨o,e _ _ h⟩)
 .exact .inr h
theorem bV(h:H p=Pn)(o:HO):Rx H (bS H p o):=λb u q=>by rw[a9 (cg q h)];exact q
theorem Jw:QY "max"=Bn (.builtin "max"):=by left
theorem mN:QY "len"=Bn (.builtin "len"):=by left
theorem iq:QY "sorted"=Bn (.builtin "sorted"):=by left
theorem JY:QY "all"=Bn (.builtin "all"):=by left
theorem yD:QY "list"=Bn (.type "list"):=by left
theorem nz:QY "tuple"=Bn (.type "tuple"):=by left
section
variable{X:Cx}
theorem ko:Sm X (.builtin "sorted") (λxs H Q=>∃(p:Pz) (f:bb Int),xs=[.ref p]/\T6 X.K H p (f.map V.int)/\f.length<64/\∀(l:Pz) (a:bb Int),H l=Pn->a.Perm f->a.Pairwise (·<=·)->Q (.ref l) (bS H l (.lst (a.map V.int)))):=by
 intro i s B H xs C Q I r h;obtain⟨p,f,rfl,t,G,q⟩:=h;obtain⟨u,rfl,m⟩:=ir r;cases m;obtain⟨A,rv,pl,F⟩:=I.list t;have v:=rv.length;rw[Pp]at v;refine sorted_ints pl.isList (iz rv) (by ext) λd a hi j n=>?_;obtain⟨e,w⟩:=sortedAll_at s.heap A d;have g:a.length=f.length:=j.length_eq;have y:d.toList.length=a.length:=hi.length;refine⟨.ref (s.heap.objs.size+1),_,I.laid (t':=s.toks) (o:=.lst (a.map V.int)) (λb E z=>sortedAll_old z) (Rp _) ?_,rfl,q _ a (I.Ro.fresh (Rp _)) j n⟩;refine⟨?_,d.toList,e,ie hi,w⟩;rw[Pp,g];have:(64:Nat)<=PZ:=by decide
 ext
end
end L2
namespace L3
open PySem L2
abbrev D:=Pw
inductive PV where
 |fz (d:D)
 |ow (ds:bb D)
 |pl (i:Nat)
abbrev aO:=bb (bg PV)
structure Xc where
 cls:Str
 fs:bb (Str×D)
inductive Res(α:Type) where
 |ok (a:α)
 |er (x:Xc)
 |bad
namespace Res
def bind(r:Res α)(f:α->Res β):Res β:=match r with
 |.ok a=>f a
 |.er x=>.er x
 |.bad=>.bad
def QL:bg α->Res α
 |some a=>.ok a
 |none=>.bad
theorem bind_ok(a:α)(f:α->Res β):(Res.ok a).bind f=f a:=rfl
end Res
abbrev dt:=@Res.bind_ok
abbrev b8:=Pz->Prop
def c8(O:b8)(p:Pz):b8:=λb=>O b\/b=p
def Dk(O:b8)(p:Pz):b8:=λb=>O b/\b≠p
def W8:b8:=λ_=>False
def Ev(O:b8)(H:Hp)(a:b8)(d:Hp):Prop:=∀b o,H b=Bn o->¬O b->d b=Bn o/\¬a b
theorem Ev.refl:Ev O H O H:=λ_ _ h n=>⟨h,n⟩
theorem Ev.trans(a:Ev O H O1 H1)(b:Ev O1 H1 O2 H2):Ev O H O2 H2:=λp o h n=>let⟨h1,n1⟩:=a p o h n;b p o h1 n1
theorem Ev.grow(s:Rx H H'):Ev O H O H':=λb o h n=>⟨s b o h,n⟩
theorem Ev.add(s:Rx H H')(a:H p=Pn):Ev O H (c8 O p) H':=λb o h n=>⟨s b o h,λz=>z.elim n λe=>by subst e;rw[h]at a;cases a⟩
theorem Ev.sub(h:∀b,O' b->O b):Ev O H O' H:=λb o e n=>⟨e,λz=>n (h b z)⟩
theorem Ev.mut(a:O p)(u:HO):Ev O H O (bS H p u):=λb o h n=>⟨by rw[a9 (λe=>n (by rw[e];exact a))];exact h,n⟩
def TN(K:Po)(H:Hp)(a:Pz)(xs:bb V):Prop:=Rd H a (.lst xs)\/∃(b:bb Pq) (n:Nat),K.lookup a=Bn {cls:=.type "list",data:=.seq b.toArray n}/\xs.length<=PZ/\Vals xs b
theorem TN.sq(h:TN K H a xs):T6 K H a xs:=by
 rcases h with h|⟨Qw,n,h1,h2,h3⟩
 .exact .inl h
 .exact .inr ⟨_,Qw.toArray,n,h1,rfl,rfl,rfl,by rw[PX,<-h3.length];exact h2,by simpa using h3⟩
theorem TN.of(h:H a=Bn (.lst xs)):TN K H a xs:=.inl (.inl h)
theorem TN.same(e:Rx H H')(h:TN K H a xs):TN K H' a xs:=by
 rcases h with(h|⟨o,h⟩)|h
 .exact .inl (.inl (e _ _ h))
 .exact .inl (.inr ⟨o,e _ _ h⟩)
 .exact .inr h
theorem kY(H:Hp):Rx (λ_=>Pn) H:=λ_ _ h=>by cases h
def VT(O:b8)(K:Po)(H:Hp)(a:Pz)(xs:bb V):Prop:=TN K H a xs/\(O a->TN K (λ_=>Pn) a xs)
def UQ(O:b8)(K:Po)(H:Hp)(a:Pz)(xs:bb V):Prop:=Uj K H a xs/\(O a->Uj K (λ_=>Pn) a xs)
section
variable{O Y:b8}{K:Po}{H Z:Hp}{a:Pz}{xs:bb V}
theorem VT.ev(h:VT O K H a xs)(e:Ev O H Y Z):VT Y K Z a xs:=by
 obtain⟨h,k⟩:=h;by_cases z:O a
 .exact⟨TN.same (kY Z) (k z),λ_=>k z⟩
 .rcases h with(h|⟨o,h⟩)|h
  .obtain⟨d,b⟩:=e a _ h z;exact⟨.inl (.inl d),λy=>a5 y b⟩
  .obtain⟨d,b⟩:=e a _ h z;exact⟨.inl (.inr ⟨o,d⟩),λy=>a5 y b⟩
  .exact⟨.inr h,λ_=>.inr h⟩
theorem UQ.ev(h:UQ O K H a xs)(e:Ev O H Y Z):UQ Y K Z a xs:=by
 obtain⟨h,k⟩:=h;by_cases z:O a
 .exact⟨(kY Z).tup (k z),λ_=>k z⟩
 .rcases h with(h|⟨o,h⟩)|h
  .obtain⟨d,b⟩:=e a _ h z;exact⟨.inl (.inl d),λy=>a5 y b⟩
  .obtain⟨d,b⟩:=e a _ h z;exact⟨.inl (.inr ⟨o,d⟩),λy=>a5 y b⟩
  .exact⟨.inr h,λ_=>.inr h⟩
end
mutual
inductive DV(O:b8)(K:Po)(H:Hp):V->D->Prop
 |Sz:DV O K H .Sz .none
 |bl (b:Bool):DV O K H (.bl b) (.bool b)
 |int (i:Int):DV O K H (.int i) (.int i)
 |str (x:Str):DV O K H (.str x) (.str x)
 |tup {a:Pz} {xs:bb V} {ds:bb D}:UQ O K H a xs->Rk O K H xs ds->DV O K H (.ref a) (.tuple ds)
 |lst {a:Pz} {xs:bb V} {ds:bb D}:VT O K H a xs->Rk O K H xs ds->DV O K H (.ref a) (.list ds)
inductive Rk(O:b8)(K:Po)(H:Hp):bb V->bb D->Prop
 |nil:Rk O K H [] []
 |cons {v:V} {vs:bb V} {d:D} {ds:bb D}:DV O K H v d->Rk O K H vs ds->Rk O K H (v::vs) (d::ds)
end
section
variable{O Z:b8}{K:Po}{H Y:Hp}
mutual
theorem DV.ev(e:Ev O H Z Y):∀{v:V} {d:D},DV O K H v d->DV Z K Y v d
 |_,_,.Sz=>.Sz
 |_,_,.bl b=>.bl b
 |_,_,.int i=>.int i
 |_,_,.str x=>.str x
 |_,_,.tup h hs=>.tup (h.ev e) (Rk.ev e hs)
 |_,_,.lst h hs=>.lst (h.ev e) (Rk.ev e hs)
theorem Rk.ev(e:Ev O H Z Y):∀{vs:bb V} {ds:bb D},Rk O K H vs ds->Rk Z K Y vs ds
 |_,_,.nil=>.nil
 |_,_,.cons h hs=>.cons (DV.ev e h) (Rk.ev e hs)
end
theorem Rk.length:∀{vs:bb V} {ds:bb D},Rk O K H vs ds->vs.length=ds.length
 |_,_,.nil=>rfl
 |_,_,.cons _ t=>by rw[PN,PN,t.length]
theorem Rk.get:∀{vs:bb V} {ds:bb D} {i:Nat} {d:D},Rk O K H vs ds->ds[i]?=Bn d->∃v,vs[i]?=Bn v/\DV O K H v d
 |_,_,_,_,.nil,e=>by simp at e
 |_,_,0,_,.cons h _,e=>by simp at e;subst e;exact⟨_,rfl,h⟩
 |_,_,i+1,d,.cons _ t,e=>by obtain⟨v,b,a⟩:=Rk.get t (by simpa using e);exact⟨v,by simpa using b,a⟩
theorem Rk.Zr:∀{vs:bb V} {ds:bb D} {i:Nat} {v:V},Rk O K H vs ds->vs[i]?=Bn v->∃d,ds[i]?=Bn d/\DV O K H v d
 |_,_,_,_,.nil,e=>by simp at e
 |_,_,0,_,.cons h _,e=>by simp at e;subst e;exact⟨_,rfl,h⟩
 |_,_,i+1,v,.cons _ t,e=>by obtain⟨d,b,a⟩:=Rk.Zr t (by simpa using e);exact⟨d,by simpa using b,a⟩
theorem Rk.append:∀{vs ws:bb V} {ds a:bb D},Rk O K H vs ds->Rk O K H ws a->Rk O K H (vs++ws) (ds++a)
 |_,_,_,_,.nil,h=>h
 |_,_,_,_,.cons h t,g=>.cons h (Rk.append t g)
theorem Rk.take:∀{vs:bb V} {ds:bb D} (n:Nat),Rk O K H vs ds->Rk O K H (vs.take n) (ds.take n)
 |_,_,0,_=>.nil
 |_,_,_+1,.nil=>.nil
 |_,_,n+1,.cons h t=>.cons h (Rk.take n t)
theorem Rk.drop:∀{vs:bb V} {ds:bb D} (n:Nat),Rk O K H vs ds->Rk O K H (vs.drop n) (ds.drop n)
 |_,_,0,h=>h
 |_,_,_+1,.nil=>.nil
 |_,_,n+1,.cons _ t=>Rk.drop n t
theorem Rk.flat(h:Rk O K H vs ds):∀n:Nat,Rk O K H (PK n vs).flatten (PK n ds).flatten
 |0=>.nil
 |n+1=>by rw[QF,QF,RO,RO];exact h.append (Rk.flat h n)
mutual
theorem DV.plain:∀{v:V} {d:D},DV O K H v d->L2.DV K H v d
 |_,_,.Sz=>.Sz
 |_,_,.bl b=>.bl b
 |_,_,.int i=>.int i
 |_,_,.str x=>.str x
 |_,_,.tup h hs=>.tup h.1 (Rk.plain hs)
 |_,_,.lst h hs=>.lst h.1.sq (Rk.plain hs)
theorem Rk.plain:∀{vs:bb V} {ds:bb D},Rk O K H vs ds->L2.Rk K H vs ds
 |_,_,.nil=>.nil
 |_,_,.cons h hs=>.cons (DV.plain h) (Rk.plain hs)
end
end
def DX(O:b8)(K:Po)(H:Hp)(v:V):D->Prop
 |.list ds=>∃a xs,v=.ref a/\TN K H a xs/\Rk O K H xs ds
 |d=>DV O K H v d
theorem DV.x(h:DV O K H v d):DX O K H v d:=by
 cases h with
 |lst h a=>exact⟨_,_,rfl,h.1,a⟩
 |Sz=>exact .Sz
 |bl b=>exact .bl b
 |int i=>exact .int i
 |str x=>exact .str x
 |tup h a=>exact .tup h a
theorem DX.plain(h:DX O K H v d):L2.DV K H v d:=by
 cases d with
 |list ds=>obtain⟨a,xs,rfl,f,e⟩:=h;exact .lst f.sq e.plain
 |none=>exact DV.plain h
 |bool b=>exact DV.plain h
 |int i=>exact DV.plain h
 |str x=>exact DV.plain h
 |tuple ds=>exact DV.plain h
 |dict Qk=>exact DV.plain h
def WU(K:Po)(b:Hp)(O:b8)(H:Hp)(v:V):PV->Prop
 |.fz d=>DV O K H v d
 |.ow ds=>∃a vs,v=.ref a/\O a/\b a=Pn/\H a=Bn (.lst vs)/\Rk O K H vs ds
 |.pl _=>False
structure Rl(K:Po)(B:b8)(H0:Hp)(O:b8)(σ:St)(H:Hp)(ρ:aO):Prop where
 same:Rx H0 H
 bo:∀a,B a->O a
 bd:∀a,B a->H0 a≠Pn
 od:∀a,H a=Pn->¬O a
 len:σ.length=ρ.length
 slot:∀(i:Nat) (x:PV),ρ[i]?=Bn (Bn x)->∃v,σ[i]?=Bn (Bn v)/\WU K H0 O H v x
 one:∀(i j:Nat) (ds es:bb D) (v:V),ρ[i]?=Bn (Bn (.ow ds))->ρ[j]?=Bn (Bn (.ow es))->σ[i]?=Bn (Bn v)->σ[j]?=Bn (Bn v)->i=j
def UP(K:Po)(f:Hp)(O:b8)(b:St)(H:Hp)(ρ:aO)(v:V):PV->Prop
 |.fz d=>DV O K H v d
 |.ow ds=>∃a vs,v=.ref a/\O a/\f a=Pn/\H a=Bn (.lst vs)/\Rk O K H vs ds/\∀(i:Nat) (e:bb D),ρ[i]?=Bn (Bn (.ow e))->b[i]?≠Bn (Bn (.ref a))
 |.pl i=>b[i]?=Bn (Bn v)
def lu:PV->Prop
 |.ow _=>False
 |_=>True
def cj:PV->PV
 |.ow ds=>.fz (.list ds)
 |p=>p
section
variable{K:Po}{B O X:b8}{Z H U:Hp}{Y:St}{ρ ρ':aO}{v:V}
theorem WU.grow(s:Rx H U)(h:WU K Z O H v x):WU K Z O U v x:=by
 cases x with
 |fz d=>exact DV.ev (Ev.grow s) h
 |ow ds=>obtain⟨a,vs,e,j,g,f,b⟩:=h;exact⟨a,vs,e,j,g,s _ _ f,b.ev (Ev.grow s)⟩
 |pl i=>exact h
theorem Rl.grow(R:Rl K B Z O Y H ρ)(s:Rx H U):Rl K B Z O Y U ρ:=
 ⟨R.same.trans s,R.bo,R.bd,λa h=>R.od a (s.free h),R.len,λi x h=>let⟨v,h1,h2⟩:=R.slot i x h;⟨v,h1,h2.grow s⟩,R.one⟩
theorem Rl.ZQ(R:Rl K B Z O Y H ρ)(h:H p=Pn):Z p=Pn:=R.same.free h
theorem Rl.add(R:Rl K B Z O Y H ρ)(s:Rx H U)(f:H p=Pn)(g:U p≠Pn):Rl K B Z (c8 O p) Y U ρ:=by
 refine⟨R.same.trans s,λa h=>.inl (R.bo a h),R.bd,λa h z=>z.elim (R.od a (s.free h)) λe=>g (by rw[<-e];exact h),R.len,λi x h=>?_,R.one⟩;obtain⟨v,j,b⟩:=R.slot i x h;refine⟨v,j,?_⟩;cases x with
 |fz d=>exact DV.ev (Ev.add s f) b
 |ow ds=>obtain⟨a,vs,e,o,n,m,l⟩:=b;exact⟨a,vs,e,.inl o,n,s _ _ m,l.ev (Ev.add s f)⟩
 |pl i=>exact b
theorem Rl.Zu(R:Rl K B Z O Y H ρ)(h:Z a=Pn):¬B a:=λz=>R.bd a z h
theorem Rl.sub(R:Rl K B Z O Y H ρ){a:Pz}(m:Z a=Pn)(h:∀(i:Nat) (r:bb D),ρ[i]?=Bn (Bn (.ow r))->Y[i]?≠Bn (Bn (.ref a))):Rl K B Z (Dk O a) Y H ρ:=by
 refine⟨R.same,λb f=>⟨R.bo b f,λe=>R.Zu m (e▸f)⟩,R.bd,λb f z=>R.od b f z.1,R.len,λi x j=>?_,R.one⟩;obtain⟨v,l,g⟩:=R.slot i x j;refine⟨v,l,?_⟩;cases x with
 |fz d=>exact DV.ev (Ev.sub λb z=>z.1) g
 |ow ds=>obtain⟨b,vs,e,q,p,o,n⟩:=g;subst e;exact⟨b,vs,rfl,⟨q,λe=>h i ds j (by rw[l,e])⟩,p,o,n.ev (Ev.sub λb z=>z.1)⟩
 |pl i=>exact g
theorem vU(h:H a=Bn (.lst vs))(n:¬O a)(hd:Rk O K H vs ds):DV O K H (.ref a) (.list ds):=.lst ⟨TN.of h,λz=>a5 z n⟩ hd
theorem gl{pv:PV}(R:Rl K B Z O Y H ρ)(h:UP K Z O Y H ρ v pv):∃X,Ev O H X H/\Rl K B Z X Y H ρ/\UP K Z X Y H ρ v (cj pv):=by
 cases pv with
 |fz d=>exact⟨O,.refl,R,h⟩
 |pl i=>exact⟨O,.refl,R,h⟩
 |ow ds=>obtain⟨a,vs,rfl,l,j,g,f,e⟩:=h;exact⟨Dk O a,Ev.sub λb z=>z.1,R.sub j e,vU g (λz=>z.2 rfl) (f.ev (Ev.sub λb z=>z.1))⟩
theorem lw(pv:PV):lu (cj pv):=by cases pv<;>trivial
theorem UP.keep{pv:PV}(a:lu pv)(e:Ev O H X U)(h:UP K Z O Y H ρ v pv):UP K Z X Y U ρ' v pv:=by
 cases pv with
 |fz d=>exact DV.ev e h
 |pl i=>exact h
 |ow ds=>exact a.elim
def OX:bg (bg PV)->bg D
 |some (Bn (.fz d))=>Bn d
 |some (Bn (.ow ds))=>Bn (.list ds)
 |_=>Pn
def tD(ρ:aO):PV->bg D
 |.fz d=>Bn d
 |.ow ds=>Bn (.list ds)
 |.pl i=>OX ρ[i]?
theorem ku{pv:PV}(R:Rl K B Z O Y H ρ)(h:UP K Z O Y H ρ v pv)(e:tD ρ pv=Bn d):DX O K H v d:=by
 cases pv with
 |fz t=>cases e;exact DV.x h
 |ow ds=>cases e;obtain⟨a,vs,rfl,C,A,p,n,z⟩:=h;exact⟨a,vs,rfl,TN.of p,n⟩
 |pl i=>
  have b:OX ρ[i]?=Bn d:=e;have r:=h;cases q:ρ[i]? with
  |none=>rw[q]at b;cases b
  |some o=>
   cases o with
   |none=>rw[q]at b;cases b
   |some x=>
    obtain⟨u,g,f⟩:=R.slot i x q;rw[r]at g;cases g;rw[q]at b;cases x with
    |fz t=>cases b;exact DV.x f
    |ow ds=>cases b;obtain⟨a,vs,rfl,y,w,m,l⟩:=f;exact⟨a,vs,rfl,TN.of m,l⟩
    |pl j=>exact f.elim
def toS(ρ:aO)(i:Nat):bg (bg PV)->bg (D×aO)
 |some (Bn (.fz d))=>Bn (d,ρ)
 |some (Bn (.ow ds))=>Bn (.list ds,ρ.set i (Bn (.fz (.list ds))))
 |_=>Pn
def yb(ρ:aO):PV->bg (D×aO)
 |.fz d=>Bn (d,ρ)
 |.ow ds=>Bn (.list ds,ρ)
 |.pl i=>toS ρ i ρ[i]?
theorem cG{l:bb α}(h:(l.set i x)[j]?=Bn y):(j=i/\y=x)\/(j≠i/\l[j]?=Bn y):=by
 rw[QT]at h;by_cases e:i=j
 .rw[av e]at h
  split at h
  .cases h;exact .inl ⟨e.symm,rfl⟩
  .cases h
 .rw[ax e]at h;exact .inr ⟨λz=>e z.symm,h⟩
theorem tL{pv:PV}(R:Rl K B Z O Y H ρ)(h:UP K Z O Y H ρ v pv)(e:yb ρ pv=Bn (d,ρ')):∃X,Ev O H X H/\Rl K B Z X Y H ρ'/\DV X K H v d:=by
 cases pv with
 |fz d'=>cases e;exact⟨O,.refl,R,h⟩
 |ow ds=>cases e;obtain⟨a,vs,rfl,h1,h2,h3,h4,T⟩:=h;exact⟨Dk O a,Ev.sub λb z=>z.1,R.sub h2 T,vU h3 (λz=>z.2 rfl) (h4.ev (Ev.sub λb z=>z.1))⟩
 |pl i=>
  have f:toS ρ i ρ[i]?=Bn (d,ρ'):=e;have y:=h;cases q:ρ[i]? with
  |none=>rw[q]at f;cases f
  |some o=>
   cases o with
   |none=>rw[q]at f;cases f
   |some x=>
    obtain⟨u,E,A⟩:=R.slot i x q;rw[y]at E;cases E;rw[q]at f;cases x with
    |fz d'=>cases f;exact⟨O,.refl,R,A⟩
    |pl j=>exact A.elim
    |ow ds=>
     cases f;obtain⟨a,vs,rfl,k1,S,Q,P⟩:=A;have n:Ev O H (Dk O a) H:=Ev.sub λb z=>z.1;have F:=vU Q (λz=>z.2 rfl) (P.ev n);refine⟨Dk O a,n,⟨R.same,λb m=>⟨R.bo b m,λe=>R.Zu S (e▸m)⟩,R.bd,λb m z=>R.od b m z.1,by rw[Ra];exact R.len,λj x l=>?_,λj k xs G w t r=>?_⟩,F⟩
     .rcases cG l with⟨rfl,g⟩|⟨Vg,l⟩
      .cases g;exact⟨_,y,F⟩
      .obtain⟨u,C,p⟩:=R.slot j x l
       refine⟨u,C,?_⟩;cases x with
       |fz d=>exact DV.ev n p
       |pl i=>exact p
       |ow xs=>obtain⟨b,I,rfl,N,M,L,J⟩:=p;exact⟨b,I,rfl,⟨N,λz=>Vg (R.one j i xs ds (.ref a) l q (by rw[C,z]) y)⟩,M,L,J.ev n⟩
     .rcases cG t with⟨rfl,g⟩|⟨_,t⟩
      .cases g
      .rcases cG r with⟨rfl,g⟩|⟨_,r⟩
       .cases g
       .exact R.one j k xs G w t r
end
def Zk(K:Po)(B:b8)(H:Hp)(c:Pq)(dx:bg Pz)(x:Xc):Prop:=
 (∃a,c=.ref a/\Qj K P8 x.cls=Bn (Bn (.ref a)))/\∃fs,(∀p,dx=Bn p->H p=Bn (.xd fs))/\∀f d,x.fs.lookup f=Bn d->dx≠Pn/\∃v,fs.lookup f=Bn v/\DV B K H v d
def XE(K:Po)(B:b8)(a:Hp)(E:XK)(x:Xc):Prop:=∀c dx H',Rx a H'->Zk K B H' c dx x->E c dx H'
def WR(K:Po)(E:XK)(B:b8)(b:Hp)(P:α->Prop):Res α->Prop
 |.ok a=>P a
 |.er x=>XE K B b E x
 |.bad=>False
section
variable{K:Po}{E:XK}{B:b8}{Z:Hp}
theorem WR.bind(h:WR K E B Z P (r.bind k)):WR K E B Z (λa=>WR K E B Z P (k a)) r:=by cases r<;>exact h
theorem WR.QL(h:WR K E B Z P ((Res.QL o).bind k)):∃a,o=Bn a/\WR K E B Z P (k a):=by
 cases o with
 |none=>exact h.elim
 |some a=>exact⟨a,rfl,h⟩
theorem WR.imp(h:WR K E B Z P r)(g:∀a,P a->P' a):WR K E B Z P' r:=by
 cases r with
 |ok a=>exact g a h
 |er x=>exact h
 |bad=>exact h
end
abbrev FE:=aO->Res (PV×aO)
abbrev FT:=aO->Res (Bool×aO)
abbrev FA:=aO->Res (bb PV×aO)
def EO(K:Po)(E:XK)(t:TE)(f:FE):Prop:=
 ∀(B:b8) (b:Hp) (O:b8) (a:St) (H:Hp) (ρ:aO) (Q:VK),Rl K B b O a H ρ->WR K E B b (λr=>∀O' v H',Ev O H O' H'->Rl K B b O' a H' r.2->UP K b O' a H' r.2 v r.1->Q v H') (f ρ)->t a H Q
def Xa(K:Po)(E:XK)(t:TT)(f:FT):Prop:=
 ∀(B:b8) (b:Hp) (O:b8) (a:St) (H:Hp) (ρ:aO) (Q:Bool->Hp->Prop),Rl K B b O a H ρ->WR K E B b (λr=>∀O' H',Ev O H O' H'->Rl K B b O' a H' r.2->Q r.1 H') (f ρ)->t a H Q
def AO(K:Po)(E:XK)(t:TA)(f:FA):Prop:=
 ∀(B:b8) (b:Hp) (O:b8) (a:St) (H:Hp) (ρ:aO) (Q:bb V->Hp->Prop),Rl K B b O a H ρ->WR K E B b (λr=>∀O' vs H',Ev O H O' H'->Rl K B b O' a H' r.2->Paired (λv pv=>UP K b O' a H' r.2 v pv/\lu pv) vs r.1->Q vs H') (f ρ)->t a H Q
inductive RV where
 |fz (d:D)
 |ow (ds:bb D)
def RV.pv:RV->PV
 |.fz d=>.fz d
 |.ow ds=>.ow ds
def Fin(O:b8)(K:Po)(H:Hp)(Q:VK):RV->Prop
 |.fz d=>∀v H',Rx H H'->DV O K H' v d->Q v H'
 |.ow ds=>∀p vs H',Rx H H'->H p=Pn->H' p=Bn (.lst vs)->Rk (c8 O p) K H' vs ds->Q (.ref p) H'
def oY(O:b8)(H:Hp):Prop:=∀a,H a=Pn->¬O a
section
variable{K:Po}{E:XK}{B O U:b8}{Y H X:Hp}{Z:St}{ρ ρ':aO}{v:V}
theorem l7(R:Rl K B Y O Z H ρ)(h:∀U v X,Ev O H U X->Rl K B Y U Z X ρ->UP K Y U Z X ρ v rv.pv->Q v X):Fin O K H Q rv:=by
 cases rv with
 |fz d=>exact λv X s f=>h O v X (Ev.grow s) (R.grow s) f
 |ow ds=>intro p vs X s b e f;refine h (c8 O p) (.ref p) X (Ev.add s b) (R.add s b (by rw[e];simp)) ⟨p,vs,rfl,.inr rfl,R.ZQ b,e,f,λi r hi z=>?_⟩;obtain⟨u,g,a,m,l,q,o,j,n⟩:=R.slot i _ hi;rw[z]at g;cases g;cases l;rw[b]at j;cases j
theorem Fin.new(hd:Rk O K H vs ds)(h:Fin O K H Q (.ow ds)):∀p,H p=Pn->Q (.ref p) (bS H p (.lst vs)):=λp a=>
 h p vs _ (bV a _) a aJ (hd.ev (Ev.add (bV a _) a))
theorem Fin.Y1(hd:Rk O K H vs ds)(b:oY O H)(h:Fin O K H Q (.fz (.tuple ds))):∀p,H p=Pn->Q (.ref p) (bS H p (.tup vs)):=λp a=>
 h (.ref p) _ (bV a _) (.tup ⟨Uj.of aJ,λz=>a5 z (b p a)⟩ (hd.ev (Ev.grow (bV a _))))
theorem Fin.at(h:Fin O K H Q (.fz d))(a:DV O K H v d):Q v H:=h v H (Rx.refl H) a
def Ak(ρ:aO)(i:Nat):bg (bg PV)->Res (PV×aO)
 |some (Bn (.fz d))=>.ok (.fz d,ρ)
 |some (Bn (.ow _))=>.ok (.pl i,ρ)
 |_=>.bad
def aa(i:Nat):FE:=λρ=>Ak ρ i ρ[i]?
theorem aj:EO K E (CM i) (aa i):=by
 intro B Y O Z H ρ Q R w;unfold aa at w;cases q:ρ[i]? with
 |none=>rw[q]at w;exact w.elim
 |some o=>
  cases o with
  |none=>rw[q]at w;exact w.elim
  |some x=>
   rw[q]at w;obtain⟨v,a,b⟩:=R.slot i x q;cases x with
   |fz d=>exact⟨v,a,w O v H .refl R b⟩
   |ow ds=>exact⟨v,a,w O v H .refl R a⟩
   |pl j=>exact w.elim
def pC(d:D):FE:=λρ=>.ok (.fz d,ρ)
theorem Gg(h:∀O H,DV O K H v d):EO K E (tC v) (pC d):=λB Y O Z H ρ Q R w=>w O v H .refl R (h O H)
theorem aM:EO K E (tC (.int i)) (pC (.int i)):=Gg λ_ _=>.int i
theorem oX:EO K E (tC (.bl b)) (pC (.bool b)):=Gg λ_ _=>.bl b
theorem io:EO K E (tC (.str x)) (pC (.str x)):=Gg λ_ _=>.str x
theorem jE:EO K E (tC .Sz) (pC .none):=Gg λ_ _=>.Sz
def nM(K:Po)(r:R2)(f:D->D->bg RV):Prop:=∀(O:b8) (H:Hp) (x y:V) (dx a:D) (rv:RV) (Q:VK),oY O H->DX O K H x dx->DX O K H y a->f dx a=Bn rv->Fin O K H Q rv->r x y H Q
def ay(f:D->D->bg RV)(fa fb:FE):FE:=λρ=>(fa ρ).bind λa=>(fb a.2).bind λb=>(Res.QL (tD b.2 (cj a.1))).bind λdx=>(Res.QL (tD b.2 b.1)).bind λd=>(Res.QL (f dx d)).bind λrv=>.ok (rv.pv,b.2)
theorem aK(t:nM K r f)(ha:EO K E ta fa)(u:EO K E tb fb):EO K E (J8 r ta tb) (ay f fa fb):=by intro B Y O Z H ρ Q R w;refine ha B Y O Z H ρ _ R (w.bind.imp λa i T x S C I q=>?_);obtain⟨M,A,R2,p⟩:=gl I q;refine u B Y M Z S a.2 _ R2 (i.bind.imp λb d L y P h e o=>?_);have g:=p.keep (lw a.1) h (ρ':=b.2);obtain⟨dx,l,d⟩:=d.QL;obtain⟨F,j,d⟩:=d.QL;obtain⟨rv,m,d⟩:=d.QL;refine t L P x y dx F rv Q e.od (ku e g l) (ku e o j) m (l7 e λJ v N z G n=>?_);exact d J v N (C.trans (A.trans (h.trans z))) G n
def Ol:D->bg Bool
 |.bool b=>Bn b
 |_=>Pn
theorem LP(h:DX O K H x d)(e:Ol d=Bn b):x=.bl b:=by cases d<;>cases e;cases h;rfl
def aA(fa:FE):aO->Res (Bool×aO):=λρ=>(fa ρ).bind λa=>(Res.QL (tD a.2 a.1)).bind λd=>(Res.QL (Ol d)).bind λb=>.ok (b,a.2)
theorem bt(ha:EO K E ta fa):Xa K E (Aj ta) (aA fa):=by intro B Y O Z H ρ Q R w;refine ha B Y O Z H ρ _ R (w.bind.imp λa e l x m j f i=>?_);obtain⟨d,g,e⟩:=e.QL;obtain⟨b,h,e⟩:=e.QL;exact⟨b,LP (ku f i g) h,e l m j f⟩
theorem JS(ha:EO K E ta fa):Xa K E (tB ta) (aA fa):=bt ha
def ke(fa fb:FT):FT:=λρ=>(fa ρ).bind λa=>if a.1=Pr then fb a.2 else .ok (Py,a.2)
def MR(fa fb:FT):FT:=λρ=>(fa ρ).bind λa=>if a.1=Pr then .ok (Pr,a.2)else fb a.2
def zK(fa:FT):FT:=λρ=>(fa ρ).bind λa=>.ok (!a.1,a.2)
theorem Xa.next(h:Xa K E t f)(R:Rl K B Y O1 Z H1 ρ)(a:Ev O H O1 H1)(w:WR K E B Y (λr=>∀U X,Ev O H U X->Rl K B Y U Z X r.2->Q r.1 X) (f ρ)):t Z H1 Q:=
 h B Y O1 Z H1 ρ Q R (w.imp λr q U X b d=>q U X (a.trans b) d)
theorem EO.next(h:EO K E t f)(R:Rl K B Y O1 Z H1 ρ)(b:Ev O H O1 H1)(w:WR K E B Y (λr=>∀U v X,Ev O H U X->Rl K B Y U Z X r.2->UP K Y U Z X r.2 v r.1->Q v X) (f ρ)):t Z H1 Q:=
 h B Y O1 Z H1 ρ Q R (w.imp λr q U v X d e a=>q U v X (b.trans d) e a)
theorem ni(h1:Xa K E t f)(j:Xa K E u g):Xa K E (Ms t u) (ke f g):=by
 intro B Y O Z H ρ Q R w;refine h1 B Y O Z H ρ _ R (w.bind.imp λa d l m e h=>?_);obtain⟨b,i⟩:=a;cases b with
 |true=>exact j.next h e d
 |false=>exact d l m e h
theorem Ep(h1:Xa K E t f)(j:Xa K E u g):Xa K E (OB t u) (MR f g):=by
 intro B Y O Z H ρ Q R w;refine h1 B Y O Z H ρ _ R (w.bind.imp λa d l m e h=>?_);obtain⟨b,i⟩:=a;cases b with
 |true=>exact d l m e h
 |false=>exact j.next h e d
theorem IQ(h1:Xa K E t f):Xa K E (K6 t) (zK f):=by intro B Y O Z H ρ Q R w;exact h1 B Y O Z H ρ _ R (w.bind.imp λa b g h d e=>b g h d e)
def fT:FT:=λρ=>.ok (Pr,ρ)
theorem fZ:Xa K E Fq fT:=λB Y O Z H ρ Q R w=>w O H .refl R
def Cf(fa fb:FE):FE:=λρ=>(aA fa ρ).bind λa=>if a.1=Pr then fb a.2 else .ok (.fz (.bool Py),a.2)
theorem Dr(ha:EO K E ta fa)(i:EO K E tb fb):EO K E (F3 ta tb) (Cf fa fb):=by
 intro B Y O Z H ρ Q R w;refine bt ha B Y O Z H ρ (λc d=>if c=Pr then tb Z d Q else Q (.bl Py) d) R (w.bind.imp λa e j d f g=>?_);obtain⟨b,h⟩:=a;cases b with
 |true=>exact i.next g f e
 |false=>exact e j _ d f g (.bl Py)
def K7(c:FT)(fa fb:FE):FE:=λρ=>(c ρ).bind λa=>if a.1=Pr then fa a.2 else fb a.2
theorem JC(h:Xa K E t c)(ha:EO K E ta fa)(i:EO K E tb fb):EO K E (OC t ta tb) (K7 c fa fb):=by
 intro B Y O Z H ρ Q R w;refine h B Y O Z H ρ _ R (w.bind.imp λa d j l e f=>?_);obtain⟨b,g⟩:=a;cases b with
 |true=>exact ha.next f e d
 |false=>exact i.next f e d
def oO(f g:D->D->bg RV)(fa fb fc:FE):FE:=λρ=>(fa ρ).bind λa=>(fb a.2).bind λb=>(Res.QL (tD b.2 (cj a.1))).bind λdx=>(Res.QL (tD b.2 (cj b.1))).bind λh=>
 (Res.QL (f dx h)).bind λrv=>match rv with
  |.fz (.bool Pr)=>(fc b.2).bind λc=>(Res.QL (tD c.2 (cj b.1))).bind λd=>(Res.QL (tD c.2 c.1)).bind λe=>(Res.QL (g d e)).bind λrv=>.ok (rv.pv,c.2)
  |.fz (.bool Py)=>.ok (.fz (.bool Py),b.2)
  |_=>.bad
theorem xL(hr:nM K r f)(q:nM K r' g)(ha:EO K E ta fa)(hb:EO K E tb fb)(hc:EO K E tc fc):EO K E (Ds r r' ta tb tc) (oO f g fa fb fc):=by
 intro B Y O Z H ρ Q R w;refine ha B Y O Z H ρ _ R (w.bind.imp λa N O1 x H1 J R1 p1=>?_);obtain⟨O2,I,R2,p2⟩:=gl R1 p1;refine hb B Y O2 Z H1 a.2 _ R2 (N.bind.imp λb e O3' y M u C o=>?_);obtain⟨j,i,m,F⟩:=gl C o;have i:=u.trans i;have p:=p2.keep (lw a.1) i (ρ':=b.2);obtain⟨dx,T,e⟩:=e.QL;obtain⟨dy,S,e⟩:=e.QL;obtain⟨rv,qf,e⟩:=e.QL;refine hr j M x y dx dy rv _ m.od (ku m p T) (ku m F S) qf ?_;cases rv with
 |ow ds=>exact e.elim
 |fz d=>
  intro v X s dv;cases dv with
  |bl k=>
   refine⟨k,rfl,?_⟩;have L:=m.grow s;have t:Ev j M j X:=Ev.grow s;cases k with
   |false=>exact e j _ X (J.trans (I.trans (i.trans t))) L (.bl Py)
   |true=>rw[av rfl];refine hc B Y j Z X b.2 _ L (WR.imp (WR.bind e) λc h O5 z H5 G l p5=>?_);obtain⟨A,n,h⟩:=h.QL;obtain⟨dz,P,h⟩:=h.QL;obtain⟨rv,qg,h⟩:=h.QL;refine q O5 H5 y z A dz rv Q l.od (ku l (F.keep (lw b.1) (t.trans G)) n) (ku l p5 P) qg (l7 l λO6 v H6 e6 R6 p6=>?_);exact h O6 v H6 (J.trans (I.trans (i.trans (t.trans (G.trans e6))))) R6 p6
  |_=>exact e.elim
def ao:FA:=λρ=>.ok ([],ρ)
def ae(fa:FE)(d:FA):FA:=λρ=>(fa ρ).bind λa=>(d a.2).bind λb=>.ok (cj a.1::b.1,b.2)
theorem aX:AO K E ox ao:=λB Y O Z H ρ Q R w=>w O [] H .refl R .nil
theorem aH(ha:EO K E ta fa)(l:AO K E tr fr):AO K E (kU ta tr) (ae fa fr):=by intro B Y O Z H ρ Q R w;refine ha B Y O Z H ρ _ R (w.bind.imp λa g y x u n p j=>?_);obtain⟨r,m,R2,i⟩:=gl p j;refine l B Y r Z u a.2 _ R2 (g.bind.imp λb f q e t d o h=>?_);exact f q (x::e) t (n.trans (m.trans d)) o (.cons ⟨i.keep (lw a.1) d,lw a.1⟩ h)
def xZ(ρ:aO):bb PV->bg (bb D)
 |[]=>Bn []
 |p::r=>match tD ρ p with
  |some d=>(match xZ ρ r with
   |some ds=>Bn (d::ds)
   |none=>Pn)
  |none=>Pn
theorem z6(R:Rl K B Y O Z H ρ):∀{vs:bb V} {ps:bb PV} {ds:bb D},Paired (λv pv=>UP K Y O Z H ρ v pv/\lu pv) vs ps->xZ ρ ps=Bn ds->Paired (DX O K H) vs ds
 |_,_,_,.nil,e=>by cases e;exact .nil
 |_,_,_,.cons (l₂:=ps) (b:=p) h t,e=>by
  unfold xZ at e;cases q:tD ρ p with
  |none=>rw[q]at e;cases e
  |some d=>
   rw[q]at e;dsimp only at e;cases q2:xZ ρ ps with
   |none=>rw[q2]at e;cases e
   |some a=>rw[q2]at e;cases e;exact .cons (ku R h.1 q) (z6 R t q2)
def pI(ρ:aO):bb PV->bg (bb D×aO)
 |[]=>Bn ([],ρ)
 |p::r=>match yb ρ p with
  |some (d,ρ1)=>(match pI ρ1 r with
   |some (ds,ρ2)=>Bn (d::ds,ρ2)
   |none=>Pn)
  |none=>Pn
theorem rH:∀{vs:bb V} {ps:bb PV} {ds:bb D} {O:b8} {ρ ρ':aO},Rl K B Y O Z H ρ->Paired (λv pv=>UP K Y O Z H ρ v pv/\lu pv) vs ps->pI ρ ps=Bn (ds,ρ')->∃U,Ev O H U H/\Rl K B Y U Z H ρ'/\Rk U K H vs ds
 |_,_,_,O,_,_,R,.nil,e=>by cases e;exact⟨O,.refl,R,.nil⟩
 |_,_,_,O,ρ,ρ',R,.cons (l₁:=vs) (l₂:=ps) (b:=p) h t,e=>by
  unfold pI at e;cases q:yb ρ p with
  |none=>rw[q]at e;cases e
  |some r=>
   obtain⟨d,a⟩:=r;rw[q]at e;dsimp only at e;cases q2:pI a ps with
   |none=>rw[q2]at e;cases e
   |some m=>obtain⟨A,j⟩:=m;rw[q2]at e;cases e;obtain⟨z,i,w,u⟩:=tL R h.1 q;have l:Paired (λv pv=>UP K Y z Z H a v pv/\lu pv) vs ps:=Paired.Ub t λv pv ⟨n,f⟩=>⟨n.keep f i,f⟩;obtain⟨y,g,R2,o⟩:=rH w l q2;exact⟨y,i.trans g,R2,.cons (u.ev g) o⟩
abbrev FN:=bb D->Res RV
def mK(K:Po)(n:Nat)(F:FN):Sp:=λvs H Q E=>vs.length=n/\∃(B:b8) (ds:bb D),(∀a,B a->H a≠Pn)/\Rk B K H vs ds/\WR K E B H (Fin B K H Q) (F ds)
def bQ(fa:FA):FE:=λρ=>(fa ρ).bind λa=>(Res.QL (pI a.2 a.1)).bind λb=>if b.1.length<=1000 then .ok (.fz (.tuple b.1),b.2)else .bad
def dg(fa:FA):FE:=λρ=>(fa ρ).bind λa=>(Res.QL (pI a.2 a.1)).bind λb=>if b.1.length<=1000 then .ok (.ow b.1,b.2)else .bad
theorem yE(h:n<=1000):n<=PZ:=Qz h (by decide)
theorem oS(ha:AO K E ta fa):EO K E (Lr ta) (bQ fa):=by
 intro B Y O Z H ρ Q R w;refine ha B Y O Z H ρ _ R (w.bind.imp λa f t vs u l n h=>?_);obtain⟨⟨ds,e⟩,q,b⟩:=f.QL;obtain⟨r,j,R2,d⟩:=rH n h q;dsimp only at b;by_cases hn:ds.length<=1000
 .rw[av hn]at b;refine⟨by rw[d.length];exact yE hn,Fin.Y1 d R2.od (l7 R2 λo v p i m g=>b o v p (l.trans (j.trans i)) m g)⟩
 .rw[ax hn]at b;exact b.elim
theorem jM(ha:AO K E ta fa):EO K E (NQ ta) (dg fa):=by
 intro B Y O Z H ρ Q R w;refine ha B Y O Z H ρ _ R (w.bind.imp λa f t vs u l n h=>?_);obtain⟨⟨ds,e⟩,q,b⟩:=f.QL;obtain⟨r,j,R2,d⟩:=rH n h q;dsimp only at b;by_cases hn:ds.length<=1000
 .rw[av hn]at b;refine⟨by rw[d.length];exact yE hn,Fin.new d (l7 R2 λo v p i m g=>b o v p (l.trans (j.trans i)) m g)⟩
 .rw[ax hn]at b;exact b.elim
def BO(K:Po)(r:bb V->Hp->VK->Prop)(f:bb D->bg RV):Prop:=∀(O:b8) (H:Hp) (xs:bb V) (ds:bb D) (rv:RV) (Q:VK),oY O H->Paired (DX O K H) xs ds->f ds=Bn rv->Fin O K H Q rv->r xs H Q
def eX(f:bb D->bg RV)(fa:FA):FE:=λρ=>(fa ρ).bind λa=>(Res.QL (xZ a.2 a.1)).bind λds=>(Res.QL (f ds)).bind λrv=>.ok (rv.pv,a.2)
theorem gj(j:BO K r f)(ha:AO K E ta fa):EO K E (C8 r ta) (eX f fa):=by intro B Y O Z H ρ Q R w;refine ha B Y O Z H ρ _ R (w.bind.imp λa e p vs u m d i=>?_);obtain⟨ds,q,b⟩:=e.QL;obtain⟨rv,g,b⟩:=b.QL;exact j p u vs ds rv Q d.od (z6 d i q) g (l7 d λo v t l n h=>b o v t (m.trans l) n h)
def OH:D->bg Int
 |.int i=>Bn i
 |_=>Pn
theorem KA(h:DX O K H x d)(e:OH d=Bn i):x=.int i:=by cases d<;>cases e;cases h;rfl
abbrev FO:=aO->Res (bg Int×aO)
def OI(K:Po)(E:XK)(t:TO)(f:FO):Prop:=
 ∀(B:b8) (Y:Hp) (O:b8) (Z:St) (H:Hp) (ρ:aO) (Q:bg Int->Hp->Prop),Rl K B Y O Z H ρ->WR K E B Y (λr=>∀U X,Ev O H U X->Rl K B Y U Z X r.2->Q r.1 X) (f ρ)->t Z H Q
def tR(fa:FE):FO:=λρ=>(fa ρ).bind λa=>(Res.QL (tD a.2 a.1)).bind λd=>(Res.QL (OH d)).bind λi=>.ok (Bn i,a.2)
theorem F4(ha:EO K E ta fa):OI K E (Dy ta) (tR fa):=by intro B Y O Z H ρ Q R w;refine ha B Y O Z H ρ _ R (w.bind.imp λa f l x m j e h=>?_);obtain⟨d,q,b⟩:=f.QL;obtain⟨i,g,b⟩:=b.QL;exact⟨i,KA (ku e h q) g,b l m j e⟩
def OY(K:Po)(r:V->bg Int->bg Int->Hp->VK->Prop)(f:D->bg Int->bg Int->bg RV):Prop:=∀(O:b8) (H:Hp) (x:V) (lo hi:bg Int) (dx:D) (rv:RV) (Q:VK),oY O H->DX O K H x dx->f dx lo hi=Bn rv->Fin O K H Q rv->r x lo hi H Q
def ME(f:D->bg Int->bg Int->bg RV)(fa:FE)(b d:FO):FE:=λρ=>(fa ρ).bind λa=>(b a.2).bind λl=>(d l.2).bind λh=>(Res.QL (tD h.2 (cj a.1))).bind λdx=>(Res.QL (f dx l.1 h.1)).bind λrv=>.ok (rv.pv,h.2)
theorem ML(t:OY K r f)(ha:EO K E ta fa)(u:OI K E tl fl)(y:OI K E th fh):EO K E (Ow r ta tl th) (ME f fa fl fh):=by intro B Y O Z H ρ Q R w;refine ha B Y O Z H ρ _ R (w.bind.imp λa j O1 x H1 C I q=>?_);obtain⟨N,A,R2,p⟩:=gl I q;refine u B Y N Z H1 a.2 _ R2 (j.bind.imp λl i M T g G=>?_);refine y B Y M Z T l.2 _ G (i.bind.imp λh b L S e d=>?_);obtain⟨dx,m,b⟩:=b.QL;obtain⟨rv,n,b⟩:=b.QL;exact t L S x l.1 h.1 dx rv Q d.od (ku d (p.keep (lw a.1) (g.trans e)) m) n (l7 d λJ v P z F o=>b J v P (C.trans (A.trans (g.trans (e.trans z)))) F o)
end
theorem ww{l:bb α}(h:(l.set i x)[i]?=Bn y):i<l.length:=by
 rw[QT]at h;rw[av rfl]at h;split at h
 .assumption
 .cases h
section
variable{K:Po}{E:XK}{B O T:b8}{Z H U:Hp}{Y:St}{ρ ρ':aO}{v:V}
theorem Rl.mut{i:Nat}{ds y:bb D}{a:Pz}{l:bb V}(R:Rl K B Z O Y H ρ)(hi:ρ[i]?=Bn (Bn (.ow ds)))(F:Y[i]?=Bn (Bn (.ref a)))(G:O a)(I:Z a=Pn)(hd:Rk O K H l y):
  Rl K B Z O Y (bS H a (.lst l)) (ρ.set i (Bn (.ow y))):=by
 have ev:Ev O H O (bS H a (.lst l)):=Ev.mut G _;refine⟨λb o e=>by rw[a9 (cg e I)];exact R.same b o e,R.bo,R.bd,λb g=>?_,by rw[Ra];exact R.len,λj x f=>?_,λj k xs A w S Q Zl Wd=>?_⟩
 .by_cases e:b=a
  .rw[e,aJ]at g;cases g
  .rw[a9 e]at g;exact R.od b g
 .rcases cG f with⟨rfl,X⟩|⟨Vg,f⟩
  .cases X;exact⟨_,F,a,l,rfl,G,I,aJ,hd.ev ev⟩
  .obtain⟨u,C,p⟩:=R.slot j x f
   refine⟨u,C,?_⟩;cases x with
   |fz d=>exact DV.ev ev p
   |pl i=>exact p
   |ow xs=>obtain⟨b,J,rfl,P,N,M,L⟩:=p;have t:b≠a:=λz=>Vg (R.one j i xs ds (.ref a) f hi (by rw[C,z]) F);exact⟨b,J,rfl,P,N,by rw[a9 t];exact M,L.ev ev⟩
 .have own:∀{j:Nat} {xs:bb D},(ρ.set i (Bn (.ow y)))[j]?=Bn (Bn (.ow xs))->∃A,ρ[j]?=Bn (Bn (.ow A)):=λ{j xs} h=>by
   rcases cG h with⟨rfl,_⟩|⟨_,h⟩
   .exact⟨_,hi⟩
   .exact⟨_,h⟩
  obtain⟨n,r⟩:=own S;obtain⟨m,q⟩:=own Q;exact R.one j k n m w r q Zl Wd
theorem yk(h:n<1000000):n<PZ:=Qd h (by decide)
def Ek:bg (bg PV)->bg (bb D)
 |some (Bn (.ow ds))=>Bn ds
 |_=>Pn
theorem BI(h:Ek o=Bn ds):o=Bn (Bn (.ow ds)):=by
 unfold Ek at h;split at h
 .cases h;rfl
 .cases h
def mh(i:Nat)(fe:FE):FE:=λρ=>(Res.QL (Ek ρ[i]?)).bind λ_=>(fe ρ).bind λa=>(Res.QL (yb a.2 a.1)).bind λb=>(Res.QL (Ek b.2[i]?)).bind λds=>
 if ds.length<1000000 then .ok (.fz .none,b.2.set i (Bn (.ow (ds++[b.1]))))else .bad
theorem Du(u:EO K E te fe):EO K E (N9 K "list" we (CM i) (kU te ox)) (mh i fe):=by
 intro B Z O Y H ρ Q R w;obtain⟨I,p,w⟩:=w.QL;obtain⟨v,h,a,vs,rfl,X,S,z,P⟩:=R.slot i _ (BI p);refine⟨_,h,.inl ⟨rfl,_,T6.of z⟩,?_⟩;refine u B Z O Y H ρ _ R (w.bind.imp λb e O1 y H1 C L q=>?_);obtain⟨⟨d,n⟩,o,e⟩:=e.QL;obtain⟨M,A,R2,G⟩:=tL L q o;obtain⟨ds,f,e⟩:=e.QL;have f:=BI f;obtain⟨N,m,a',J,F,l,t,r,j⟩:=R2.slot i _ f;subst F;rw[h]at m;cases m;dsimp only at e;by_cases g:ds.length<1000000
 .rw[av g]at e;refine⟨a,J,y,rfl,rfl,r,yk (by rw[j.length];exact g),?_⟩;exact e M .Sz _ (C.trans (A.trans (Ev.mut l _))) (R2.mut f h l t (j.append (.cons G .nil))) .Sz
 .rw[ax g]at e;exact e.elim
abbrev FG:=PV->aO->Res aO
abbrev M8:=bb D->aO->Res aO
def GO(K:Po)(E:XK)(g:TG)(f:FG):Prop:=
 ∀(B:b8) (Z:Hp) (O:b8) (Y:St) (H:Hp) (ρ:aO) (v:V) (pv:PV) (Q:St->Hp->Prop),Rl K B Z O Y H ρ->UP K Z O Y H ρ v pv->WR K E B Z (λρ'=>∀T σ' U,Ev O H T U->Rl K B Z T σ' U ρ'->Q σ' U) (f pv ρ)->g v Y H Q
def N7(K:Po)(E:XK)(g:Kb)(f:M8):Prop:=
 ∀(B:b8) (Z:Hp) (O:b8) (Y:St) (H:Hp) (ρ:aO) (vs:bb V) (ds:bb D) (Q:St->Hp->Prop),Rl K B Z O Y H ρ->Rk O K H vs ds->WR K E B Z (λρ'=>∀T σ' U,Ev O H T U->Rl K B Z T σ' U ρ'->Q σ' U) (f ds ρ)->g vs Y H Q
theorem Rl.acr(R:Rl K B Z O Y H ρ)(h:DV O K H v d):Rl K B Z O (Y.set i (Bn v)) H (ρ.set i (Bn (.fz d))):=by
 refine⟨R.same,R.bo,R.bd,R.od,by rw[Ra,Ra];exact R.len,λj x a=>?_,λj k xs n w f b l m=>?_⟩
 .rcases cG a with⟨rfl,e⟩|⟨t,a⟩
  .cases e;have:=ww a;exact⟨v,by rw[QT,av rfl,av (by rw[R.len];exact this)],h⟩
  .obtain⟨u,r,q⟩:=R.slot j x a;exact⟨u,by rw[QT,ax (λz=>t z.symm)];exact r,q⟩
 .rcases cG f with⟨rfl,g⟩|⟨p,f⟩
  .cases g
  .rcases cG b with⟨rfl,g⟩|⟨o,b⟩
   .cases g
   .rw[QT,ax (λz=>p z.symm)]at l;rw[QT,ax (λz=>o z.symm)]at m;exact R.one j k xs n w f b l m
theorem Rl.aex(R:Rl K B Z O Y H ρ)(h:UP K Z O Y H ρ v (.ow ds)):Rl K B Z O (Y.set i (Bn v)) H (ρ.set i (Bn (.ow ds))):=by
 obtain⟨a,vs,rfl,G,F,C,A,o⟩:=h;refine⟨R.same,R.bo,R.bd,R.od,by rw[Ra,Ra];exact R.len,λj x g=>?_,λj k xs n w y d l f=>?_⟩
 .rcases cG g with⟨rfl,e⟩|⟨L,g⟩
  .cases e;have:=ww g;exact⟨.ref a,by rw[QT,av rfl,av (by rw[R.len];exact this)],a,vs,rfl,G,F,C,A⟩
  .obtain⟨u,r,q⟩:=R.slot j x g;exact⟨u,by rw[QT,ax (λz=>L z.symm)];exact r,q⟩
 .rcases cG y with⟨rfl,J⟩|⟨p,b⟩
  .rcases cG d with⟨rfl,I⟩|⟨m,d⟩
   .rfl
   .rw[QT,ax (λz=>m z.symm)]at f
    rcases cG l with⟨_,e⟩|⟨z,_⟩
    .cases e;exact a5 f (o k n d)
    .exact a5 rfl z
  .have t:=b
   rw[QT,ax (λz=>p z.symm)]at l;rcases cG d with⟨rfl,J⟩|⟨m,d⟩
   .rcases cG f with⟨_,e⟩|⟨z,_⟩
    .cases e;exact a5 l (o j xs b)
    .exact a5 rfl z
   .rw[QT,ax (λz=>m z.symm)]at f;exact R.one j k xs n w b d l f
def gN(i:Nat):FG:=λpv ρ=>match pv with
 |.ow ds=>.ok (ρ.set i (Bn (.ow ds)))
 |.fz d=>.ok (ρ.set i (Bn (.fz d)))
 |.pl j=>(Res.QL (yb ρ (.pl j))).bind λb=>.ok (b.2.set i (Bn (.fz b.1)))
theorem bu:GO K E (ya i) (gN i):=by
 intro B Z O Y H ρ v pv Q R p w;cases pv with
 |ow ds=>exact w O _ H .refl (R.aex p)
 |fz d=>exact w O _ H .refl (R.acr p)
 |pl j=>obtain⟨⟨d,a⟩,q,w⟩:=WR.QL (show WR K E B Z _ ((Res.QL (yb ρ (.pl j))).bind λb=>.ok (b.2.set i (Bn (.fz b.1))))from w);obtain⟨g,e,R2,f⟩:=tL R p q;exact w g _ H e (R2.acr f)
def Hl:M8:=λds ρ=>match ds with
 |[]=>.ok ρ
 |_=>.bad
def xY(f:FG)(g:M8):M8:=λds ρ=>match ds with
 |[]=>.bad
 |d::r=>(f (.fz d) ρ).bind λa=>g r a
theorem re:N7 K E Ly Hl:=by
 intro B Z O Y H ρ vs ds Q R a w;cases a with
 |nil=>exact⟨rfl,w O Y H .refl R⟩
 |cons _ _=>exact w.elim
theorem gu(h1:GO K E t f)(n:N7 K E u g):N7 K E (Fi t u) (xY f g):=by
 intro B Z O Y H ρ vs ds Q R p w;cases p with
 |nil=>exact w.elim
 |cons m l=>rename_i v vs d ds;refine⟨_,_,rfl,h1 B Z O Y H ρ _ (.fz d) _ R m (WR.imp (WR.bind w) λe j z b C h r=>?_)⟩;exact n B Z z b C e _ _ Q r (l.ev h) (j.imp λi q y a A o R2=>q y a A (h.trans o) R2)
def OU:D->bg (bb D)
 |.tuple ds=>Bn ds
 |_=>Pn
theorem Ed(h:DX O K H x d)(e:OU d=Bn ds):∃a xs,x=.ref a/\UQ O K H a xs/\Rk O K H xs ds:=by
 cases d<;>cases e;cases h with
 |tup h b=>exact⟨_,_,rfl,h,b⟩
def gT(n:Nat)(f:M8):FG:=λpv ρ=>(Res.QL (tD ρ pv)).bind λd=>(Res.QL (OU d)).bind λds=>if ds.length=n then f ds ρ else .bad
theorem rc(h:N7 K E t f):GO K E (L5 K n t) (gT n f):=by
 intro B Z O Y H ρ v pv Q R p w;obtain⟨d,g,w⟩:=w.QL;obtain⟨ds,e,w⟩:=w.QL;obtain⟨a,xs,rfl,i,b⟩:=Ed (ku R p g) e;by_cases hn:ds.length=n
 .rw[av hn]at w;exact⟨a,xs,rfl,i.1,b.length.trans hn,h B Z O Y H ρ xs ds Q R b w⟩
 .rw[ax hn]at w;exact w.elim
inductive Fl where
 |nx (ρ:aO)
 |rt (rv:RV)
 |bk (ρ:aO)
 |ct (ρ:aO)
abbrev FS:=aO->Res Fl
def Yp(K:Po)(B:b8)(Z:Hp)(O:b8)(H:Hp)(D:Ends):Fl->Prop
 |.nx ρ'=>∀T σ' U,Ev O H T U->Rl K B Z T σ' U ρ'->D.nx σ' U
 |.bk ρ'=>∀T σ' U,Ev O H T U->Rl K B Z T σ' U ρ'->D.bk σ' U
 |.ct ρ'=>∀T σ' U,Ev O H T U->Rl K B Z T σ' U ρ'->D.ct σ' U
 |.rt rv=>Fin B K Z D.rt rv
def SO(K:Po)(E:XK)(t:TS)(g:FS):Prop:=
 ∀(B:b8) (Z:Hp) (O:b8) (Y:St) (H:Hp) (ρ:aO) (D:Ends),Rl K B Z O Y H ρ->WR K E B Z (Yp K B Z O H D) (g ρ)->t D Y H
theorem Yp.ev{D:Ends}(e:Ev O H O1 H1)(h:Yp K B Z O H D fl):Yp K B Z O1 H1 D fl:=by
 cases fl with
 |nx ρ'=>exact λT a U b d=>h T a U (e.trans b) d
 |bk ρ'=>exact λT a U b d=>h T a U (e.trans b) d
 |ct ρ'=>exact λT a U b d=>h T a U (e.trans b) d
 |rt rv=>exact h
def dw:FS:=λρ=>.ok (.nx ρ)
def bp(f g:FS):FS:=λρ=>(f ρ).bind λa=>match a with
 |.nx ρ1=>g ρ1
 |a=>.ok a
def gJ(f:FE):FS:=λρ=>(f ρ).bind λa=>.ok (.nx a.2)
def cQ(f:FE)(g:FG):FS:=λρ=>(f ρ).bind λa=>(g a.1 a.2).bind λb=>.ok (.nx b)
def jv(c:FT)(f g:FS):FS:=λρ=>(c ρ).bind λa=>if a.1=Pr then f a.2 else g a.2
def B5(ρ:aO):PV->bg RV
 |.fz d=>Bn (.fz d)
 |.ow ds=>Bn (.ow ds)
 |.pl i=>match ρ[i]? with
  |some (Bn (.fz d))=>Bn (.fz d)
  |some (Bn (.ow ds))=>Bn (.ow ds)
  |_=>Pn
def c9(f:FE):FS:=λρ=>(f ρ).bind λa=>(Res.QL (B5 a.2 a.1)).bind λrv=>.ok (.rt rv)
theorem nJ:SO K E D7 dw:=λB Z O Y H ρ D R w=>w O Y H .refl R
theorem bA(h1:SO K E t f)(h:SO K E u g):SO K E (Lx t u) (bp f g):=by
 intro B Z O Y H ρ D R w;refine h1 B Z O Y H ρ {D with nx:=u D} R (WR.imp (WR.bind w) λe b=>?_);cases e with
 |nx a=>exact λl d m i j=>h B Z l d m a D j (WR.imp b λe q=>q.ev i)
 |rt rv=>exact b
 |bk a=>exact b
 |ct a=>exact b
theorem Bt(h:EO K E t f):SO K E (Ec t) (gJ f):=by intro B Z O Y H ρ D R w;exact h B Z O Y H ρ _ R (w.bind.imp λa b g x i d e j=>b g Y i d e)
theorem j8(h:EO K E t f)(l:GO K E g fg):SO K E (Ex t g) (cQ f fg):=by intro B Z O Y H ρ D R w;refine h B Z O Y H ρ _ R (w.bind.imp λa i q x u n o j=>?_);exact l B Z q Y u a.2 x a.1 _ o j (i.bind.imp λd e p b r m R2=>e p b r (n.trans m) R2)
theorem xB(m:Xa K E c fc)(h1:SO K E t f)(n:SO K E u g):SO K E (La c t u) (jv fc f g):=by
 intro B Z O Y H ρ D R w;refine m B Z O Y H ρ _ R (w.bind.imp λa e j l h i=>?_);obtain⟨b,d⟩:=a;cases b with
 |true=>exact h1 B Z j Y l d D i (WR.imp e λo q=>q.ev h)
 |false=>exact n B Z j Y l d D i (WR.imp e λo q=>q.ev h)
theorem Lg{pv:PV}(R:Rl K B Z O Y H ρ)(p:UP K Z O Y H ρ v pv)(e:B5 ρ pv=Bn rv)(w:Fin B K Z Q rv):Q v H:=by
 have ow:∀{a:Pz} {vs:bb V} {ds:bb D},O a->Z a=Pn->H a=Bn (.lst vs)->Rk O K H vs ds->Fin B K Z Q (.ow ds)->Q (.ref a) H:=λ{a vs ds} m l g f w=>
  w a vs H R.same l g (f.ev (Ev.sub λb z=>z.elim (R.bo b) λe=>by rw[e];exact m))
 have fz:∀{d:D},DV O K H v d->Fin B K Z Q (.fz d)->Q v H:=λ{d} h w=>w v H R.same (h.ev (Ev.sub R.bo));cases pv with
 |fz d=>cases e;exact fz p w
 |ow ds=>cases e;obtain⟨a,vs,rfl,m,l,g,f,y⟩:=p;exact ow m l g f w
 |pl i=>
  have t:=p;unfold B5 at e;dsimp only at e;cases q:ρ[i]? with
  |none=>rw[q]at e;cases e
  |some o=>
   cases o with
   |none=>rw[q]at e;cases e
   |some x=>
    obtain⟨u,r,n⟩:=R.slot i x q;rw[t]at r;cases r;rw[q]at e;cases x with
    |fz d=>cases e;exact fz n w
    |ow ds=>cases e;obtain⟨a,vs,rfl,m,l,g,f⟩:=n;exact ow m l g f w
    |pl j=>exact n.elim
theorem ip(h:EO K E t f):SO K E (Km t) (c9 f):=by intro B Z O Y H ρ D R w;refine h B Z O Y H ρ _ R (w.bind.imp λa b i x j g e d=>?_);obtain⟨rv,q,b⟩:=b.QL;exact Lg e d q b
def zr(K:Po)(J:It)(O:b8)(H:Hp)(ds:bb D):Prop:=∀T U,Ev O H T U->oY T U->
 (∀i,i<ds.length->J.go i U/\∀x YH,J.yld i U x YH->Rx U YH/\∃d,ds[i]?=Bn d/\DV T K YH x d)/\J.stop ds.length U
abbrev FI:=aO->Res (bb D×aO)
def IO(K:Po)(E:XK)(b:TI)(d:FI):Prop:=
 ∀(B:b8) (Z:Hp) (O:b8) (Y:St) (H:Hp) (ρ:aO) (a:It->Hp->Prop),Rl K B Z O Y H ρ->WR K E B Z (λr=>∀T J U,Ev O H T U->Rl K B Z T Y U r.2->zr K J T U r.1->a J U) (d ρ)->b Y H a
def pF(gt:FG)(b:FS):bb D->FS
 |[],ρ=>.ok (.nx ρ)
 |d::r,ρ=>(gt (.fz d) ρ).bind λa=>(b a).bind λe=>match e with
  |.nx ρ2=>pF gt b r ρ2
  |.ct ρ2=>pF gt b r ρ2
  |.bk ρ2=>.ok (.nx ρ2)
  |.rt rv=>.ok (.rt rv)
def mV(d:FI)(gt:FG)(b:FS):FS:=λρ=>(d ρ).bind λa=>pF gt b a.1 a.2
theorem vp(hi:IO K E wi fi)(hg:GO K E g gt)(hb:SO K E tb b):SO K E (Lf wi g tb) (mV fi gt b):=by
 intro B Z O Y H ρ D R w;refine hi B Z O Y H ρ _ R (w.bind.imp λa N G J H1 S X Q=>?_);obtain⟨ds,F⟩:=a;dsimp only at N Q X;refine⟨λi m f U=>m=ds.length - i/\i<=ds.length/\∃O2 ρ2,Ev G H1 O2 U/\Rl K B Z O2 f U ρ2/\WR K E B Z (Yp K B Z O H D) (pF gt b (ds.drop i) ρ2),⟨_,rfl,Qu _,G,F,.refl,X,N⟩,?_⟩;rintro i m n M ⟨rfl,hi,O2,ρ2,e2,R2,w2⟩;obtain⟨go,o⟩:=Q O2 M e2 R2.od;by_cases z:i<ds.length
 .obtain⟨g1,g2⟩:=go i z
  refine .inr ⟨g1,λf U=>i+1<=ds.length/\∃O2 ρ2,Ev G H1 O2 U/\Rl K B Z O2 f U ρ2/\WR K E B Z (Yp K B Z O H D) (pF gt b (ds.drop (i+1)) ρ2),λf U ⟨h1,h2⟩=>⟨ds.length - (i+1),by ext,rfl,h1,h2⟩,λx L y=>?_⟩;obtain⟨P,d,hd,dv⟩:=g2 x L y;have ed:ds.drop i=d::ds.drop (i+1):=by obtain⟨_,q⟩:=Pu.mp hd;rw[RL z,q]
  rw[ed]at w2;have e3:Ev O2 M O2 L:=Ev.grow P;refine hg B Z O2 n L ρ2 x (.fz d) _ (R2.grow P) dv (WR.imp (WR.bind w2) λC w3 O4 A H4 e4 R4=>?_);have l:=e2.trans (e3.trans e4);refine hb B Z O4 A H4 C _ R4 (WR.imp (WR.bind w3) λfl u=>?_);cases fl with
  |nx h=>exact λt j I p r=>⟨z,t,h,l.trans p,r,u⟩
  |ct h=>exact λt j I p r=>⟨z,t,h,l.trans p,r,u⟩
  |bk h=>exact λt j I p r=>u t j I (S.trans (l.trans p)) r
  |rt rv=>exact u
 .have e:i=ds.length:=by ext
  subst e;rw[SX (PF _)]at w2;exact .inl ⟨o,w2 O2 n M (S.trans e2) R2⟩
def fL:D->bg (bb D)
 |.tuple ds=>Bn ds
 |.list ds=>Bn ds
 |_=>Pn
def BT(K:Po)(d:TE):TI:=λY H R=>d Y H λx b=>∃a,x=.ref a/\(((∃xs,T6 K b a xs)/\R (OD K a) b)\/((∃xs,Uj K b a xs)/\R (Oz K a) b))
theorem fD(w:PE X l tl):PI X tg l (BT X.K tl):=by
 intro g s Y H R I h;refine dF (w g s Y H _ I h) λv f ⟨x,n,d,r,t⟩=>?_;obtain⟨a,e,q⟩:=t;subst e;cases r;rcases q with⟨⟨xs,i⟩,q⟩|⟨⟨xs,i⟩,q⟩
 .obtain⟨m,rv,p,u⟩:=d.list i
  refine SS p.isList ?_;refine⟨f.heap.objs.size,[f.heap.objs.size],_,_,n,rfl,d.kept λb o e=>br _ e,CG a _,⟨_,b0 _ rfl,rfl,rfl⟩,λb j=>?_,q⟩;have e:b=f.heap.objs.size:=by simpa using j
  subst e;exact d.Yv (PF _) (d.Ro.fresh (PF _))
 .obtain⟨m,rv,p,u⟩:=d.tuple i
  refine Vk (show f.heap.IsTuple a m.toArray from p) ?_;refine⟨f.heap.objs.size,[f.heap.objs.size],_,_,n,rfl,d.kept λb o e=>br _ e,zl a _,⟨_,b0 _ rfl,rfl,rfl⟩,λb j=>?_,q⟩;have e:b=f.heap.objs.size:=by simpa using j
  subst e;exact d.Yv (PF _) (d.Ro.fresh (PF _))
theorem A7(h:VT O K H a xs)(hd:Rk O K H xs ds):zr K (OD K a) O H ds:=by intro T U e n;have b:=h.ev e;have f:=hd.ev e;refine⟨λi hi=>?_,⟨xs,b.1.sq,by rw[hd.length];exact PF _⟩⟩;obtain⟨x,l,_⟩:=f.get (PM hi);refine⟨⟨xs,x,b.1.sq,l⟩,?_⟩;rintro y m ⟨rfl,hy⟩;obtain⟨d,j,g⟩:=f.Zr (hy xs b.1.sq);exact⟨Rx.refl _,d,j,g⟩
theorem D4(h:UQ O K H a xs)(hd:Rk O K H xs ds):zr K (Oz K a) O H ds:=by intro T U e n;have b:=h.ev e;have f:=hd.ev e;refine⟨λi hi=>?_,⟨xs,b.1,by rw[hd.length];exact PF _⟩⟩;obtain⟨x,l,_⟩:=f.get (PM hi);refine⟨⟨xs,x,b.1,l⟩,?_⟩;rintro y m ⟨rfl,hy⟩;obtain⟨d,j,g⟩:=f.Zr (hy xs b.1);exact⟨Rx.refl _,d,j,g⟩
def jr(fe:FE):FI:=λρ=>(fe ρ).bind λa=>(Res.QL (yb a.2 a.1)).bind λb=>(Res.QL (fL b.1)).bind λds=>.ok (ds,b.2)
theorem ij(h:EO K E tl fe):IO K E (BT K tl) (jr fe):=by
 intro B Z O Y H ρ r R w;refine h B Z O Y H ρ _ R (w.bind.imp λa b t x l i p n=>?_);obtain⟨⟨d,m⟩,q,b⟩:=b.QL;obtain⟨j,g,R2,o⟩:=tL p n q;obtain⟨ds,e,b⟩:=b.QL;dsimp only at e;cases o with
 |tup h f=>cases e;exact⟨_,rfl,.inr ⟨⟨_,h.1⟩,b j _ l (i.trans g) R2 (D4 h f)⟩⟩
 |lst h f=>cases e;exact⟨_,rfl,.inl ⟨⟨_,h.1.sq⟩,b j _ l (i.trans g) R2 (A7 h f)⟩⟩
 |_=>cases e
def gH(lo:Int)(n:Nat):bb D:=(P0 n).map λ(k:Nat)=>.int (lo+(k:Int))
theorem DD:zr K (NW lo n) O H (gH lo n):=by
 intro T U e b;have a:(gH lo n).length=n:=by unfold gH;rw[Pp,Qi]
 refine⟨λi hi=>?_,by show n<=_;rw[a];exact PF _⟩;rw[a]at hi;refine⟨hi,?_⟩;rintro x d ⟨rfl,rfl⟩;exact⟨Rx.refl _,.int (lo+i),by unfold gH;rw[PU,List.getElem?_range hi];rfl,.int _⟩
def jJ(i:Int):Prop:= -(2^62)<=i/\i<2^62
noncomputable instance(i:Int):Decidable (jJ i):=by unfold jJ;infer_instance
def gQ:bb D->bg (bb D)
 |[.int j]=>if jJ j then Bn (gH 0 j.toNat)else Pn
 |_=>Pn
def lK(f:bb D->bg (bb D))(fa:FA):FI:=λρ=>(fa ρ).bind λa=>(Res.QL (xZ a.2 a.1)).bind λds=>(Res.QL (f ds)).bind λxs=>.ok (xs,a.2)
theorem iK(h:AO K E ta fa):IO K E (Jj ta) (lK gQ fa):=by
 intro B Z O Y H ρ r R w;refine h B Z O Y H ρ _ R (w.bind.imp λa d o vs p n f i=>?_);obtain⟨ds,q,d⟩:=d.QL;obtain⟨xs,b,d⟩:=d.QL;have g:=z6 f i q;unfold gQ at b;split at b
 .rename_i j
  split at b
  .rename_i e
   cases b;cases g with
   |cons m l=>cases l;cases m;exact⟨j,rfl,e.1,e.2,d o _ p n f DD⟩
  .cases b
 .cases b
end
section
variable{K:Po}{E:XK}{B O X:b8}{U H Z:Hp}{Y:St}{ρ ρ':aO}{v:V}
def Eh:bg PV->bg PV
 |some (.fz d)=>Bn (.fz d)
 |_=>Pn
def dj(ρ:aO):aO:=ρ.map Eh
theorem zU{i:Nat}(h:(dj ρ)[i]?=Bn (Bn x)):∃d,x=.fz d/\ρ[i]?=Bn (Bn (.fz d)):=by
 unfold dj at h;rw[PU]at h;cases q:ρ[i]? with
 |none=>rw[q]at h;cases h
 |some o=>
  rw[q]at h;have a:=P4 h;unfold Eh at a;split at a
  .cases a;exact⟨_,rfl,rfl⟩
  .cases a
def tT(ρ:aO):bb Nat->bg (bb D×aO)
 |[]=>Bn ([],ρ)
 |j::r=>match yb ρ (.pl j)with
  |some (d,ρ1)=>(match tT ρ1 r with
   |some (c,ρ2)=>Bn (d::c,ρ2)
   |none=>Pn)
  |none=>Pn
theorem CJ(R:Rl K B U O Y H ρ)(h:yb ρ (.pl i)=Bn (d,ρ')):∃v,Y[i]?=Bn (Bn v):=by
 have a:toS ρ i ρ[i]?=Bn (d,ρ'):=h;cases q:ρ[i]? with
 |none=>rw[q]at a;cases a
 |some o=>
  cases o with
  |none=>rw[q]at a;cases a
  |some x=>obtain⟨v,b,_⟩:=R.slot i x q;exact⟨v,b⟩
theorem xb:∀{f:bb Nat} {ds:bb D} {O:b8} {ρ ρ':aO},Rl K B U O Y H ρ->tT ρ f=Bn (ds,ρ')->∃X vs,Ev O H X H/\Rl K B U X Y H ρ'/\Rk X K H vs ds/\f.map (λj=>(Y[j]?).join)=vs.map Bn
 |[],_,O,_,_,R,e=>by cases e;exact⟨O,[],.refl,R,.nil,rfl⟩
 |j::r,_,O,ρ,ρ',R,e=>by
  unfold tT at e;cases q:yb ρ (.pl j)with
  |none=>rw[q]at e;cases e
  |some p=>
   obtain⟨d,a⟩:=p;rw[q]at e;dsimp only at e;cases q2:tT a r with
   |none=>rw[q2]at e;cases e
   |some i=>obtain⟨c,h⟩:=i;rw[q2]at e;cases e;obtain⟨v,b⟩:=CJ R q;obtain⟨w,m,t,o⟩:=tL (pv:=.pl j) R b q;obtain⟨u,vs,g,R2,n,l⟩:=xb t q2;exact⟨u,v::vs,m.trans g,R2,.cons (o.ev g) n,by rw[PY,PY,l,b];rfl⟩
def dG(gt:FG)(ft:FT)(fe:FE):bb D->aO->bb D->Res (bb D)
 |[],_,acc=>.ok acc
 |d::r,ρ,acc=>(gt (.fz d) ρ).bind λe=>(ft e).bind λb=>if b.1=Pr then(fe b.2).bind λa=>(Res.QL (yb a.2 a.1)).bind λx=>
   if acc.length<1000000 then dG gt ft fe r (dj x.2) (acc++[x.1])else .bad
  else dG gt ft fe r (dj b.2) acc
def kh:Res α->Res α
 |.er _=>.bad
 |r=>r
def eu(n:Nat)(b:bb Nat)(e:FI)(gt:FG)(ft:FT)(fe:FE):FE:=λρ=>(e ρ).bind λa=>(Res.QL (tT a.2 b)).bind λc=>
 (kh (dG gt ft fe a.1 (PK n Pn++c.1.map λd=>Bn (.fz d)) [])).bind λxs=>.ok (.ow xs,c.2)
theorem Ao{own:bb Str}(h:own.length=n):own.map (λ_=>(Pn:bg V))=PK n Pn:=by
 subst h
 induction own with
 |nil=>rfl
 |cons x r a=>rw[PY,a,PN,QF]
theorem AL(h:WR K E B U P (kh r)):∃a,r=.ok a/\P a:=by
 cases r with
 |ok a=>exact⟨a,rfl,h⟩
 |er x=>exact h.elim
 |bad=>exact h.elim
def MF(K:Po)(J:It)(O:b8)(H:Hp)(ds:bb D):Prop:=∀X Z,Ev O H X Z->Rx H Z->oY X Z->
 (∀i,i<ds.length->J.go i Z/\∀x YH,J.yld i Z x YH->Rx Z YH/\∃d,ds[i]?=Bn d/\DV X K YH x d)/\J.stop ds.length Z
def Oe(K:Po)(E:XK)(b:TI)(d:FI):Prop:=
 ∀(B:b8) (U:Hp) (O:b8) (Y:St) (H:Hp) (ρ:aO) (a:It->Hp->Prop),Rl K B U O Y H ρ->WR K E B U (λr=>∀X J Z,Ev O H X Z->Rl K B U X Y Z r.2->MF K J X Z r.1->a J Z) (d ρ)->b Y H a
theorem IO.s(h:IO K E wi fi):Oe K E wi fi:=λB U O Y H ρ d R w=>h B U O Y H ρ d R (w.imp λr q X J Z e R a=>q X J Z e R λf g b _ n=>a f g b n)
theorem qD(hn:own.length=n)(hf:fv.map (·.2)=fj)
  (hi:Oe K E wi fi) (hg:GO K E0 g gt) (ht:Xa K E0 tc ft) (he:EO K E0 te fe):EO K E (yu own fv wi g tc te) (eu n fj fi gt ft fe):=by
 intro B U O Y H ρ Q R w;refine hi B U O Y H ρ _ R (w.bind.imp λa w1 O1 J H1 e1 R1 it=>?_);obtain⟨ds,ρ1⟩:=a;obtain⟨⟨cs,ρ2⟩,qc,w1⟩:=w1.QL;dsimp only at qc it;obtain⟨G,vs,e2,R2,V0,hvs⟩:=xb R1 qc;obtain⟨xs,qx,w1⟩:=AL (WR.bind w1);intro l ZX;have hB:∀{Z:Hp},Rx H1 Z->Z l≠Pn->∀a,c8 G l a->Z a≠Pn:=λ{Z} s nd a h z=>h.elim (λq=>R2.od a (s.free z) q) λe=>nd (by rw[<-e];exact z);refine⟨λi m I Z=>m=ds.length - i/\i<=ds.length/\∃(A:bb D) (F:bb V) (t:aO),Rx H1 Z/\Z l=Bn (.lst F)/\Rk (c8 G l) K Z F A/\I.length=t.length/\(∀(j:Nat) (x:PV),t[j]?=Bn (Bn x)->∃d u,x=PV.fz d/\I[j]?=Bn (Bn u)/\DV (c8 G l) K Z u d)/\dG gt ft fe (ds.drop i) t A=.ok xs,
  ⟨_,rfl,Qu _,[],[],_,bV ZX _,aJ,.nil,?_,λj x L=>?_,qx⟩,?_⟩
 .unfold iW;rw[PJ,PJ,Pp,Pp,Qg,Pp,hn,<-V0.length];have:=di U0 hvs;rw[Pp,Pp,<-hf,Pp]at this;ext
 .have hm:fv.map (λp=>(Y[p.2]?).join)=vs.map Bn:=by rw[<-hvs,<-hf,Qy];rfl
  unfold iW;rw[Ao hn,hm];by_cases hj:j<n
  .rw[P9 (by rw[Qg];exact hj),R8,av hj]at L;cases L
  .rw[Qq (by rw[Qg];ext),Qg,PU]at L⊢
   cases qd:cs[j - n]? with
   |none=>rw[qd]at L;cases L
   |some d=>rw[qd]at L;cases L;obtain⟨u,hu,du⟩:=V0.get qd;exact⟨d,u,rfl,by rw[hu];rfl,du.ev (Ev.add (bV ZX _) ZX)⟩
 .rintro i m I Z ⟨rfl,hi,A,F,t,s,hD,dys,hl,hsl,f⟩
  have nD:Z l≠Pn:=by rw[hD];simp
  have no':=λa z h=>hB s nD a h z;have ev1:=e2.trans (Ev.add s ZX);obtain⟨go,stop⟩:=it (c8 G l) Z ev1 s no';by_cases T7:i<ds.length
  .obtain⟨g1,g2⟩:=go i T7
   refine .inr ⟨g1,λC M=>i+1<=ds.length/\∃(A:bb D) (F:bb V) (t:aO),Rx H1 M/\M l=Bn (.lst F)/\Rk (c8 G l) K M F A/\C.length=t.length/\(∀(j:Nat) (x:PV),t[j]?=Bn (Bn x)->∃d u,x=PV.fz d/\C[j]?=Bn (Bn u)/\DV (c8 G l) K M u d)/\dG gt ft fe (ds.drop (i+1)) t A=.ok xs,
    λC M ⟨T,h2⟩=>⟨ds.length - (i+1),by ext,rfl,T,h2⟩,λx H3 y=>?_⟩
   obtain⟨s3,d,hd,dv⟩:=g2 x H3 y;have ed:ds.drop i=d::ds.drop (i+1):=by obtain⟨_,q⟩:=Pu.mp hd;rw[RL T7,q]
   rw[ed]at f;have hD3:=s3 _ _ hD;have nD3:H3 l≠Pn:=by rw[hD3];simp
   have sv:=s.trans s3;have RC:Rl K (c8 G l) H3 (c8 G l) I H3 t:=⟨Rx.refl _,λ_ h=>h,hB sv nD3,λa z h=>hB sv nD3 a h z,hl,λj x L=>by obtain⟨d,u,rfl,T,h2⟩:=hsl j x L;exact⟨u,T,h2.ev (Ev.grow s3)⟩,λj k xs F w hj=>by obtain⟨d,u,e,_⟩:=hsl j _ hj;cases e⟩;unfold dG at f;have back:∀{O5:b8} {C:St} {M:Hp} {N:aO} {H6:Hp},Rl K (c8 G l) H3 O5 C M N->(∀b o,b≠l->M b=Bn o->H6 b=Bn o)->C.length=(dj N).length/\∀(j:Nat) (x:PV),(dj N)[j]?=Bn (Bn x)->∃d u,x=PV.fz d/\C[j]?=Bn (Bn u)/\DV (c8 G l) K H6 u d:=λ{O5 C M N H6} S k=>by refine⟨by unfold dj;rw[Pp];exact S.len,λj x L=>?_⟩;obtain⟨d,rfl,hxx⟩:=zU L;obtain⟨u,T,h2⟩:=S.slot j _ hxx;refine⟨d,u,rfl,T,DV.ev (λb o h n=>⟨k b o (λe=>n (.inr e)) h,n⟩) (DV.ev (Ev.sub S.bo) h2)⟩
   refine hg _ _ _ I H3 t x (.fz d) _ RC dv ?_;cases qg:gt (.fz d) t with
   |er z=>rw[qg]at f;cases f
   |bad=>rw[qg]at f;cases f
   |ok ρ3=>
    rw[qg,dt]at f;intro O4 σ4 H4 e4 R4;refine ht _ _ _ σ4 H4 ρ3 _ R4 ?_;cases qt:ft ρ3 with
    |er z=>rw[qt]at f;cases f
    |bad=>rw[qt]at f;cases f
    |ok b=>
     obtain⟨b,ρ4⟩:=b;rw[qt,dt]at f;intro O5 M e5 S;cases b with
     |false=>rw[ax P7]at f⊢;obtain⟨l5,k5⟩:=back S λb o _ h=>h;refine⟨T7,A,F,dj ρ4,sv.trans S.same,S.same _ _ hD3,?_,l5,k5,f⟩;exact dys.ev (Ev.grow (s3.trans S.same))
     |true=>
      rw[av rfl]at f⊢;refine he _ _ _ σ4 M ρ4 _ S ?_;cases qe:fe ρ4 with
      |er z=>rw[qe]at f;cases f
      |bad=>rw[qe]at f;cases f
      |ok r=>
       rw[qe,dt]at f;intro O6 yv H6 e6 R6 p6;cases q7:yb r.2 r.1 with
       |none=>rw[q7]at f;cases f
       |some xr=>
        obtain⟨xd,ρ7⟩:=xr;rw[q7]at f;obtain⟨O7,e7,R7,dv7⟩:=tL R6 p6 q7;have hD7:=R7.same _ _ hD3;have P:(if A.length<1000000 then dG gt ft fe (ds.drop (i+1)) (dj ρ7) (A++[xd])else .bad)=.ok xs:=f;by_cases hl6:A.length<1000000
        .rw[av hl6]at P
         have up:∀b o,b≠l->H6 b=Bn o->bS H6 l (.lst (F++[yv])) b=Bn o:=λb o hb h=>by rw[a9 hb];exact h
         have cy:Ev (c8 G l) H6 (c8 G l) (bS H6 l (.lst (F++[yv]))):=λb o h n=>⟨up b o (λe=>n (.inr e)) h,n⟩;have adY:=dys.ev (Ev.grow (s3.trans R7.same));obtain⟨l5,k5⟩:=back R7 up;refine⟨F,hD7,yk (by rw[dys.length];exact hl6),T7,A++[xd],F++[yv],dj ρ7,λb o h=>?_,aJ,?_,l5,k5,P⟩
         .rw[a9 (cg h ZX)];exact R7.same _ _ (sv _ _ h)
         .exact(adY.append (.cons (DV.ev (Ev.sub R7.bo) dv7) .nil)).ev cy
        .rw[ax hl6]at P;cases P
  .have e:i=ds.length:=by ext
   subst e;rw[SX (PF _)]at f;have f:=f;cases f;refine .inl ⟨stop,?_⟩;refine w1 (c8 G l) (.ref l) Z (e1.trans ev1) (R2.add s ZX nD) ⟨l,F,rfl,.inr rfl,R2.ZQ ZX,hD,dys,λk es hk z=>?_⟩;obtain⟨u,T,b,us,e2,g1,g2,g3,g4⟩:=R2.slot k _ hk;rw[z]at T;cases T;cases e2;rw[ZX]at g3;cases g3
theorem fw(hn:own.length=n)(d:fv.map (·.2)=fj)
  (hi:IO K E wi fi) (b:GO K E0 g gt) (a:Xa K E0 tc ft) (e:EO K E0 te fe):EO K E (yu own fv wi g tc te) (eu n fj fi gt ft fe):=qD hn d hi.s b a e
def KB(ρ:aO):bg (bg PV)->Res (bb D×aO)
 |some (Bn (.ow ds))=>.ok (ds,ρ)
 |_=>.bad
def tG(i:Nat):FI:=λρ=>KB ρ ρ[i]?
theorem qK:Oe K E (BT K (CM i)) (tG i):=by
 intro B U O Y H ρ A R w;unfold tG at w;cases q:ρ[i]? with
 |none=>rw[q]at w;exact w.elim
 |some o=>
  cases o with
  |none=>rw[q]at w;exact w.elim
  |some x=>
   cases x with
   |fz d=>rw[q]at w;exact w.elim
   |pl j=>rw[q]at w;exact w.elim
   |ow ds=>rw[q]at w;obtain⟨v,p,a,vs,rfl,u,t,f,r⟩:=R.slot i _ q;refine⟨_,p,a,rfl,.inl ⟨⟨vs,T6.of f⟩,w O _ H .refl R λX Z e s n=>?_⟩⟩;have k:=s _ _ f;have b:=r.ev e;refine⟨λj m=>?_,⟨vs,T6.of k,by rw[b.length];exact PF _⟩⟩;obtain⟨x,l,_⟩:=b.get (PM m);refine⟨⟨vs,x,T6.of k,l⟩,?_⟩;rintro y z ⟨rfl,hy⟩;obtain⟨d,h,g⟩:=b.Zr (hy vs (T6.of k));exact⟨Rx.refl _,d,h,g⟩
def dX(F:FN)(n:Nat)(fa:FA):FE:=λρ=>(fa ρ).bind λa=>(Res.QL (pI a.2 a.1)).bind λb=>if b.1.length=n then(kh (F b.1)).bind λrv=>.ok (rv.pv,b.2)else .bad
theorem mf(ha:AO K E ta fa):EO K E (rT (mK K n F) [] E0 ta) (dX F n fa):=by
 intro B U O Y H ρ Q R w;refine ha B U O Y H ρ _ R (w.bind.imp λa f A vs C o r i=>?_);obtain⟨⟨ds,e⟩,q,b⟩:=f.QL;obtain⟨u,m,R2,d⟩:=rH r i q;dsimp only at b;by_cases hn:ds.length=n
 .rw[av hn]at b;obtain⟨rv,g,b⟩:=AL (WR.bind b);rw[Qh];refine⟨d.length.trans hn,u,ds,λa z j=>R2.od a j z,d,?_⟩;rw[g];exact l7 R2 λt v y l p h=>b t v y (o.trans (m.trans l)) p h
 .rw[ax hn]at b;exact b.elim
end
def fC(N:Nat)(g:FS):FN:=λds=>(g (ds.map (λd=>Bn (.fz d))++PK (N - ds.length) Pn)).bind λa=>match a with
 |.rt rv=>.ok rv
 |.nx _=>.ok (.fz .none)
 |_=>.bad
theorem ED(g:∀a,B a->H a≠Pn)(l:Rk B K H vs ds):Rl K B H B (L2.start N vs) H (ds.map (λd=>Bn (.fz d))++PK (N.length - ds.length) Pn):=by
 have n:=l.length;refine⟨Rx.refl _,λ_ h=>h,g,λa z h=>g a h z,?_,λi x m=>?_,λi j xs r w hi=>?_⟩
 .unfold L2.start;rw[PJ,PJ,Pp,Pp,Qg,Qg,n]
 all_goals
  have b:∀{i:Nat} {x:PV},(ds.map (λd=>Bn (PV.fz d))++PK (N.length - ds.length) Pn)[i]?=Bn (Bn x)->∃d,x=.fz d/\ds[i]?=Bn d:=λ{i x} h=>by
   by_cases hi:i<ds.length
   .rw[P9 (by rw[Pp];exact hi),PU]at h
    cases q:ds[i]? with
    |none=>rw[q]at h;cases h
    |some d=>rw[q]at h;cases h;exact⟨d,rfl,rfl⟩
   .rw[Qq (by rw[Pp];ext),R8]at h;split at h<;>cases h
 .obtain⟨d,rfl,o⟩:=b m;obtain⟨v,f,p⟩:=l.get o;refine⟨v,?_,p⟩;have hi:=(Pu.mp f).1;unfold L2.start;rw[P9 (by rw[Pp];exact hi),PU,f];rfl
 .obtain⟨d,e,_⟩:=b hi;cases e
theorem Pb(F:S9 K x qual st f fd)(S:TX N ps (aU st))(hn:ps.length=n)
  (p:∀(a:Pq) (A:Ql) (outer:bb Env) (s:Px) (H:Hp) (E:XK),Sg k (A.deeper (QJ qual (aU st) s.heap.objs.size f a))->
   ∃t,Wm (rY dL P w K mg base N qual (aU st) f a A outer s H E).Zn (fq st) t/\SO K E t g):FnOk P w K mg base dL (k+1) f fd ps (mK K n (fC N.length g)):=by
 refine F.ok S (λvs H Q E h=>h.1.trans hn.symm) (λa A outer s H vs Q E j h=>?_);obtain⟨t,d,i⟩:=p a A outer s H E j;obtain⟨u,B,ds,l,o,h⟩:=h;refine⟨t,d,i B H B _ H _ _ (ED l o) (WR.imp (WR.bind h) λm q=>?_)⟩;cases m with
 |rt rv=>exact q
 |nx ρ=>exact λv b r e R=>q .Sz r R.same .Sz
 |bk ρ=>exact q.elim
 |ct ρ=>exact q.elim
end L3
namespace L3
open PySem PySem.Spec PyProof.Rows L2
theorem OpR.or(h:OpR X f r)(h':OpR X f r'):OpR X f (λx y H Q=>r x y H Q\/r' x y H Q):=by
 intro a s b H x y v u Q I e d q;rcases q with q|q
 .exact h a s b H x y v u Q I e d q
 .exact h' a s b H x y v u Q I e d q
theorem L6(I:Inv X pins σ H s)(h:TN X.K H l xs):xs.length<=PZ/\∃(a:bb Pq) (n:Nat),Vals xs a/\xs.length=a.length/\s.heap.get? l=Bn {cls:=.type "list",data:=.seq a.toArray n}:=by
 rcases h with(h|⟨o,h⟩)|⟨a,n,h1,h2,h3⟩
 .exact I.aal h
 .obtain⟨_,z,a,n,r,e⟩:=I.Ro l _ h;exact⟨z,a,n,r,r.length,e⟩
 .exact⟨h2,a,n,h3,h3.length,I.Xu _ _ h1⟩
def JO(K:Po):R2:=λx y H Q=>∃l b xs zs,x=.ref l/\y=.ref b/\TN K H l xs/\TN K H b zs/\xs.length+zs.length<=PZ/\∀p,H p=Pn->Q (.ref p) (bS H p (.lst (xs++zs)))
theorem IS:OpR X (RM .Add) (JO X.K):=by
 intro a s w H x y v u Q I i g h;obtain⟨l,b,xs,A,rfl,rfl,m,o,E,q⟩:=h;cases i;cases g;obtain⟨z,f,n,r,F,e⟩:=L6 I m;obtain⟨B,d,C,j,G,t⟩:=L6 I o;refine PySem.P.add_list e t ?_ (by rw[PX,PX];ext);have p:f.toArray++d.toArray=(f++d).toArray:=by simp
 rw[p];exact⟨.ref _,_,I.acm (r.append j) (by rw[PJ];ext),rfl,q _ I.fresh⟩
def JW(K:Po):R2:=λx y H Q=>∃l k xs,x=.ref l/\y=.int k/\TN K H l xs/\ -(2^63)<=k/\k<2^63/\xs.length*k.toNat<=PZ/\
 ∀p,H p=Pn->Q (.ref p) (bS H p (.lst (PK k.toNat xs).flatten))
theorem HC:OpR X (RM .Mult) (JW X.K):=by
 intro j s O H x y v u Q I C B h;obtain⟨l,k,xs,rfl,rfl,G,L,J,o,q⟩:=h;cases C;obtain⟨t,rfl⟩:=B;obtain⟨z,b,n,r,E,e⟩:=L6 I G;have d:b.toArray.size*k.toNat<=PZ:=by rw[PX,<-E];exact o
 have f:¬b.toArray.size*k.toNat>(2^63 - 1)/8:=by
  have:(PZ:Nat)<=(2^63 - 1)/8:=by decide
  ext
 have g:¬(!Qe.List.listFitsIndex k)=Pr:=by rw[fitsIndex_both L J];exact P7
 have i:¬Qe.List.listTooLong (b.toArray.size*k.toNat)=Pr:=by rw[Di d];exact P7
 have N:UA (λw p=>w++p) #[] (PK (if b.toArray.isEmpty=Pr then 0 else k.toNat) b.toArray)=(PK k.toNat b).flatten.toArray:=by
  have M:=λm=>by have:=oT b m [];rw[Wc]at this;exact this
  rw[M];cases b with
  |nil=>simp
  |cons a P=>rw[ax (by simp)]
 refine X4 (by decide) ⟨_,e,rfl⟩ (λA=>V2 A k t) noFill_list_mul F.fills_int_mul F.slot_int_rmul repeat_list F.slot_int_index.lookup
  (Ul F.slot_int_rmul (V2 s k t) F.entry_int_rmul (F.args_int_rmul_2 _ _) (int___rmul___int_list k t l b.toArray n)
   ⟨e,rfl,⟨_,e,rfl⟩,Ul F.slot_list_mul ⟨_,e,rfl⟩ F.entry_list_mul (F.args_list_mul_2 _ _) (AutoListH.list___mul___list_int_3 l b.toArray n k t g f i) ⟨e,?_⟩⟩)
 rw[N];exact⟨.ref _,_,I.acm (r.rep k.toNat) (by rw[A2,Nat.mul_comm];exact o),rfl,q _ I.fresh⟩
section
variable{K:Po}
def fI(g:Int->Int->Int):D->D->bg RV
 |.int i,.int j=>Bn (.fz (.int (g i j)))
 |_,_=>Pn
def fB(g:Int->Int->Bool):D->D->bg RV
 |.int i,.int j=>Bn (.fz (.bool (g i j)))
 |_,_=>Pn
def My(C:Int->Int->Bool)(g:Int->Int->Int):D->D->bg RV
 |.int i,.int j=>if C i j=Pr then Bn (.fz (.int (g i j)))else Pn
 |_,_=>Pn
theorem DB(h:fI g dx dy=Bn rv):∃i j,dx=.int i/\dy=.int j/\rv=.fz (.int (g i j)):=by
 unfold fI at h;split at h
 .cases h;exact⟨_,_,rfl,rfl,rfl⟩
 .cases h
theorem JU:nM K (yz λi j=>.int (g i j)) (fI g):=by intro O H x y dx d rv Q n b a e q;obtain⟨i,j,rfl,rfl,rfl⟩:=DB e;cases b;cases a;exact⟨i,j,rfl,rfl,q.at (.int _)⟩
theorem DM:nM K (yz λi j=>.bl (g i j)) (fB g):=by
 intro O H x y dx d rv Q n b a e q;unfold fB at e;split at e
 .cases e;cases b;cases a;exact⟨_,_,rfl,rfl,q.at (.bl _)⟩
 .cases e
theorem vT(f:∀i j,C i j=Pr->C' i j):nM K (rI C' λi j=>.int (g i j)) (My C g):=by
 intro O H x y dx h rv Q n b a e q;unfold My at e;split at e
 .split at e
  .rename_i d;cases e;cases b;cases a;exact⟨_,_,rfl,rfl,f _ _ d,q.at (.int _)⟩
  .cases e
 .cases e
theorem zC(h:DX O K H x (.list ds)):∃a xs,x=.ref a/\TN K H a xs/\Rk O K H xs ds:=h
theorem Gz(h:DX O K H x (.tuple ds)):∃a xs,x=.ref a/\UQ O K H a xs/\Rk O K H xs ds:=Ed h rfl
def JM(K:Po):R2:=λx y H Q=>yz (λi j=>.int (i+j)) x y H Q\/JO K x y H Q\/Jo K x y H Q
theorem j4:OpR X (RM .Add) (JM X.K):=OpR.or Mi (OpR.or IS HE)
def de:D->D->bg RV
 |.int i,.int j=>Bn (.fz (.int (i+j)))
 |.list xs,.list ys=>if xs.length+ys.length<=1000000 then Bn (.ow (xs++ys))else Pn
 |.tuple xs,.tuple ys=>if xs≠[]/\xs.length+ys.length<=1000000 then Bn (.fz (.tuple (xs++ys)))else Pn
 |_,_=>Pn
theorem A0(h:n<=1000000):n<=PZ:=Qz h (by decide)
theorem Rk.ne(h:Rk O K H vs ds):vs=[]↔ds=[]:=by cases h<;>simp
theorem jC:nM K (JM K) de:=by
 intro O H x y dx p rv Q n l j e q;unfold de at e;split at e
 .cases e;cases l;cases j;exact .inl ⟨_,_,rfl,rfl,q.at (.int _)⟩
 .split at e
  .rename_i g;cases e;obtain⟨a,xs,rfl,h,d⟩:=zC l;obtain⟨b,i,rfl,m,f⟩:=zC j;exact .inr (.inl ⟨a,b,xs,i,rfl,rfl,h,m,A0 (by rw[d.length,f.length];exact g),Fin.new (d.append f) q⟩)
  .cases e
 .split at e
  .rename_i g;cases e;obtain⟨a,xs,rfl,h,d⟩:=Gz l;obtain⟨b,i,rfl,m,f⟩:=Gz j;refine .inr (.inr ⟨a,b,xs,i,rfl,rfl,h.1,m.1,λz=>g.1 (d.ne.mp z),A0 (by rw[d.length,f.length];exact g.2),λz=>?_,λ_=>Fin.Y1 (d.append f) n q⟩);have o:=f.ne.mp z;subst o;rw[Qh]at q;exact q.at (.tup h d)
  .cases e
 .cases e
def DJ(K:Po):R2:=λx y H Q=>rI Zm (λi j=>.int (i*j)) x y H Q\/JW K x y H Q
theorem IC:OpR X (RM .Mult) (DJ X.K):=OpR.or Mp HC
def hJ(i:Int):Bool:=decide (-(2^64)<i/\i<2^64)
theorem ri(h:hJ i=Pr): -(2^64)<i/\i<2^64:=a4 h
def Cg:D->D->bg RV
 |.int i,.int j=>if(hJ i||hJ j)=Pr then Bn (.fz (.int (i*j)))else Pn
 |.list xs,.int k=>if xs.length*k.toNat<=1000000/\ -(2^63)<=k/\k<2^63 then Bn (.ow (PK k.toNat xs).flatten)else Pn
 |_,_=>Pn
theorem HZ:nM K (DJ K) Cg:=by
 intro O H x y dx i rv Q n f d e q;unfold Cg at e;split at e
 .split at e
  .rename_i b
   cases e;cases f;cases d;refine .inl ⟨_,_,rfl,rfl,?_,q.at (.int _)⟩;rcases(UH _ _).mp b with z|z
   .exact .inl (ri z)
   .exact .inr (ri z)
  .cases e
 .split at e
  .rename_i b;cases e;cases d;obtain⟨a,xs,rfl,h,g⟩:=zC f;exact .inr ⟨a,_,xs,rfl,rfl,h,b.2.1,b.2.2,A0 (by rw[g.length];exact b.1),Fin.new (g.flat _) q⟩
  .cases e
 .cases e
def pJ:=fI λi j=>i - j
theorem GG:nM K (yz λi j=>.int (i - j)) pJ:=JU
def Ko(_ j:Int):Bool:=decide (0<j)
def d8:=My Ko λi j=>i % j
theorem IG:nM K (rI (λ_ j=>0<j) λi j=>.int (i % j)) d8:=vT λi j h=>a4 h
def Mg(_ j:Int):Bool:=decide (0<j/\j<2^128)
def eW:=My Mg λi j=>i/j
theorem HX:nM K (rI (λ_ j=>0<j/\j.natAbs.log2<9000) λi j=>.int (i/j)) eW:=vT λi j h=>by
 have a:=a4 h;refine⟨a.1,?_⟩;have b:j.natAbs<2^128:=by have:=a.2;ext
 have d:=(Nat.log2_lt (by ext)).mpr b;ext
def Gw(i j:Int):Bool:=decide (0<=j/\j<=1000000/\i.natAbs<2^64)
theorem HK(i j:Int)(h:Gw i j=Pr):K0 i j:=by unfold Gw at h;exact(show 0<=j/\j<=1000000/\i.natAbs<2^64 from a4 h)
def CN:=My Gw λi j=>i^j.toNat
theorem Hw:nM K (rI K0 λi j=>.int (i^j.toNat)) CN:=vT HK
def Om(_ j:Int):Bool:=decide (0<=j)
def DT:=My Om λi j=>i/2^j.toNat
theorem AN:nM K (rI (λ_ j=>0<=j) λi j=>.int (i/2^j.toNat)) DT:=vT λi j h=>a4 h
def yn:=fI λi j=>Qe.bitAnd i j
theorem BH:nM K (yz λi j=>.int (Qe.bitAnd i j)) yn:=JU
def HB:=fB λi j=>decide (i<j)
def M4:=fB λi j=>decide (i<=j)
def vK:=fB λi j=>decide (j<i)
theorem FW:nM K (yz λi j=>.bl (decide (i<j))) HB:=DM
theorem KK:nM K (yz λi j=>.bl (decide (i<=j))) M4:=DM
theorem sk:nM K (yz λi j=>.bl (decide (j<i))) vK:=DM
def iE(d:D):Bool:=d.canLay0&&decide (d.depth<=64)
def cx(d e:D):bg RV:=if(iE d&&e.canLay0)=Pr then Bn (.fz (.bool (Pw.eqv d e)))else Pn
def n6(d e:D):bg RV:=if(iE d&&e.canLay0)=Pr then Bn (.fz (.bool (!Pw.eqv d e)))else Pn
theorem eO:nM K (Ha K Py) cx:=by
 intro O H x y dx f rv Q n d b e q;unfold cx at e;split at e
 .rename_i a;cases e;unfold iE at a;simp only[P2,decide_eq_true_eq]at a;exact⟨dx,f,d.plain,b.plain,a.1.1,a.2,a.1.2,q.at (.bl _)⟩
 .cases e
theorem mj:nM K (Ha K Pr) n6:=by
 intro O H x y dx f rv Q n d b e q;unfold n6 at e;split at e
 .rename_i a;cases e;unfold iE at a;simp only[P2,decide_eq_true_eq]at a;exact⟨dx,f,d.plain,b.plain,a.1.1,a.2,a.1.2,q.at (.bl _)⟩
 .cases e
def vB:D->D->bg RV
 |.none,.none=>Bn (.fz (.bool Pr))
 |_,.none=>Bn (.fz (.bool Py))
 |_,_=>Pn
def kR:D->D->bg RV
 |.none,.none=>Bn (.fz (.bool Py))
 |_,.none=>Bn (.fz (.bool Pr))
 |_,_=>Pn
theorem D1(h:DX O K H x d)(hd:d≠.none):x≠.Sz:=by
 cases d with
 |none=>exact a5 rfl hd
 |list ds=>obtain⟨a,xs,rfl,_⟩:=zC h;simp
 |tuple ds=>obtain⟨a,xs,rfl,_⟩:=Gz h;simp
 |bool b=>cases h;simp
 |int b=>cases h;simp
 |str b=>cases h;simp
 |dict b=>cases h
theorem GN:nM K (λx y H Q=>y=.Sz/\Q (.bl (decide (x=.Sz))) H) vB:=by
 intro O H x y dx f rv Q n b a e q;unfold vB at e;split at e
 .cases e;cases b;cases a;exact⟨rfl,q.at (.bl _)⟩
 .rename_i d;cases e;cases a;refine⟨rfl,?_⟩;rw[a3 (D1 b d)];exact q.at (.bl _)
 .cases e
theorem nv:nM K (λx y H Q=>y=.Sz/\Q (.bl (!decide (x=.Sz))) H) kR:=by
 intro O H x y dx f rv Q n b a e q;unfold kR at e;split at e
 .cases e;cases b;cases a;exact⟨rfl,q.at (.bl _)⟩
 .rename_i d;cases e;cases a;refine⟨rfl,?_⟩;rw[a3 (D1 b d)];exact q.at (.bl _)
 .cases e
def Ir(K:Po)(a:Bool):R2:=λx y H Q=>∃d ds,L2.DV K H x d/\(L2.DV K H y (.list ds)\/L2.DV K H y (.tuple ds))/\d.canLay0=Pr/\Pw.canLayAll0 ds=Pr/\d.depth<=64/\Q (.bl (if a then !(ds.any λe=>Pw.eqv e d)else ds.any λe=>Pw.eqv e d)) H
theorem om(p:X.A.units+65<cLine):OpR X (RG .In) (Ir X.K Py):=by
 intro g s o H x y v u Q I l e h;obtain⟨d,ds,n,a,j,i,m,q⟩:=h;obtain⟨r,f⟩:=n.reads I l;have hm:min (Pw.depthAll ds) d.depth<=64:=Qz (V1 _ _) m;rcases a with a|a
 .obtain⟨bs,b⟩:=a.reads I e;exact ado b f i j (by ext) ⟨.bl _,H,I,rfl,q⟩
 .obtain⟨bs,b⟩:=a.reads I e;exact adp b f i j (by ext) ⟨.bl _,H,I,rfl,q⟩
theorem nc(p:X.A.units+65<cLine):OpR X (RG .NotIn) (Ir X.K Pr):=by
 intro g s o H x y v u Q I l e h;obtain⟨d,ds,n,a,j,i,m,q⟩:=h;obtain⟨r,f⟩:=n.reads I l;have hm:min (Pw.depthAll ds) d.depth<=64:=Qz (V1 _ _) m;rcases a with a|a
 .obtain⟨bs,b⟩:=a.reads I e;exact adq b f i j (by ext) ⟨.bl _,H,I,rfl,q⟩
 .obtain⟨bs,b⟩:=a.reads I e;exact ads b f i j (by ext) ⟨.bl _,H,I,rfl,q⟩
def Aq(d e:D):bg RV:=match fL e with
 |some ds=>if(iE d&&Pw.canLayAll0 ds)=Pr then Bn (.fz (.bool (ds.any λe=>Pw.eqv e d)))else Pn
 |none=>Pn
def mx(d e:D):bg RV:=match fL e with
 |some ds=>if(iE d&&Pw.canLayAll0 ds)=Pr then Bn (.fz (.bool (!ds.any λe=>Pw.eqv e d)))else Pn
 |none=>Pn
theorem EF(a:DX O K H y e)(h:fL e=Bn ds):L2.DV K H y (.list ds)\/L2.DV K H y (.tuple ds):=by
 unfold fL at h;split at h
 .cases h;exact .inr a.plain
 .cases h;exact .inl a.plain
 .cases h
theorem n9:nM K (Ir K Py) Aq:=by
 intro O H x y dx g rv Q n d b e q;unfold Aq at e;split at e
 .rename_i ds f
  split at e
  .rename_i a;cases e;unfold iE at a;simp only[P2,decide_eq_true_eq]at a;exact⟨dx,ds,d.plain,EF b f,a.1.1,a.2,a.1.2,q.at (.bl _)⟩
  .cases e
 .cases e
theorem mL:nM K (Ir K Pr) mx:=by
 intro O H x y dx g rv Q n d b e q;unfold mx at e;split at e
 .rename_i ds f
  split at e
  .rename_i a;cases e;unfold iE at a;simp only[P2,decide_eq_true_eq]at a;exact⟨dx,ds,d.plain,EF b f,a.1.1,a.2,a.1.2,q.at (.bl _)⟩
  .cases e
 .cases e
def bc(d e:D):bg RV:=match fL d,e with
 |some ds,.int i=>(lO ds i).map .fz
 |_,_=>Pn
theorem Fu(h:Rk O K H xs ds)(e:lO ds i=Bn d):∃v,lO xs i=Bn v/\DV O K H v d:=by
 unfold lO at e⊢;rw[h.length];cases q:JH ds.length i with
 |none=>rw[q]at e;cases e
 |some j=>rw[q]at e;exact h.get e
theorem bO:nM K (N8 K) bc:=by
 intro O H x y dx o rv Q n l m e q;unfold bc at e;split at e
 .rename_i ds i b
  cases m;cases qa:lO ds i with
  |none=>rw[qa]at e;cases e
  |some d=>
   rw[qa]at e;cases e;unfold fL at b;split at b
   .cases b;obtain⟨a,xs,rfl,h,g⟩:=Gz l;obtain⟨v,f,j⟩:=Fu g qa;exact .inr (.inl ⟨a,xs,i,v,rfl,rfl,h.1,f,q.at j⟩)
   .cases b;obtain⟨a,xs,rfl,h,g⟩:=zC l;obtain⟨v,f,j⟩:=Fu g qa;exact .inl ⟨a,xs,i,v,rfl,rfl,h.sq,f,q.at j⟩
   .cases b
 .cases e
def C2(xs:bb D)(lo hi:bg Int):bb D:=(xs.drop (HT.sIx xs.length 0 lo)).take (HT.sIx xs.length xs.length hi - HT.sIx xs.length 0 lo)
theorem Gm{lo hi:bg Int}(h:Rk O K H xs ds):Rk O K H (xM xs lo hi) (C2 ds lo hi):=by unfold xM C2;rw[h.length];exact(h.drop _).take _
def xV(n:Nat)(lo hi:bg Int):Bool:=decide (HT.sIx n 0 lo=0/\HT.sIx n n hi=n)
def Mu(K:Po):V->bg Int->bg Int->Hp->VK->Prop:=λx lo hi H Q=>Nv K x lo hi H Q\/Nt K x lo hi H Q
theorem FR:MA X (Mu X.K):=by
 intro a s b H x v e d lo hi sl Q I f i pl g h;rcases h with h|h
 .exact HM a s b H x v e d lo hi sl Q I f i pl g h
 .exact Mf a s b H x v e d lo hi sl Q I f i pl g h
def N5:D->bg Int->bg Int->bg RV
 |.list ds,lo,hi=>Bn (.ow (C2 ds lo hi))
 |.tuple ds,lo,hi=>if xV ds.length lo hi=Pr then Pn else Bn (.fz (.tuple (C2 ds lo hi)))
 |_,_,_=>Pn
theorem HQ:OY K (Mu K) N5:=by
 intro O H x lo hi dx rv Q n f e q;unfold N5 at e;split at e
 .cases e;obtain⟨a,xs,rfl,d,b⟩:=zC f;exact .inl ⟨a,xs,rfl,d.sq,Fin.new (Gm b) q⟩
 .split at e
  .cases e
  .rename_i g;cases e;obtain⟨a,xs,rfl,d,b⟩:=Gz f;refine .inr ⟨a,xs,rfl,d.1,λz=>g ?_,Fin.Y1 (Gm b) n q⟩;unfold xV;rw[<-b.length];exact aP z
 .cases e
def gm:bb D->bg RV
 |[d]=>(match fL d with
  |some ds=>Bn (.fz (.int ds.length))
  |none=>Pn)
 |_=>Pn
theorem kW:BO K (λxs H Q=>∃x n,xs=[x]/\M5 K x H n/\Q (.int n) H) gm:=by
 intro O H xs ds rv Q n g e q;unfold gm at e;split at e
 .split at e
  .rename_i h d
   cases e;cases g with
   |cons b f=>
    cases f;unfold fL at d;split at d
    .cases d;obtain⟨a,xs,rfl,b,f⟩:=Gz b;exact⟨_,xs.length,rfl,.inr ⟨xs,b.1,rfl⟩,by rw[f.length];exact q.at (.int _)⟩
    .cases d;obtain⟨a,xs,rfl,b,f⟩:=zC b;exact⟨_,xs.length,rfl,.inl ⟨xs,b.sq,rfl⟩,by rw[f.length];exact q.at (.int _)⟩
    .cases d
  .cases e
 .cases e
def ji:bb D->bg RV
 |[.tuple ds]=>Bn (.fz (.tuple ds))
 |[.list ds]=>Bn (.fz (.tuple ds))
 |_=>Pn
theorem kB:BO K (λxs H Q=>∃p ys,xs=[.ref p]/\((T6 K H p ys/\∀l,H l=Pn->Q (.ref l) (bS H l (.tup ys)))\/(Uj K H p ys/\Q (.ref p) H))) ji:=by
 intro O H xs ds rv Q n f e q;unfold ji at e;split at e
 .cases e
  cases f with
  |cons b d=>cases d;obtain⟨a,xs,rfl,b,d⟩:=Gz b;exact⟨a,xs,rfl,.inr ⟨b.1,q.at (.tup b d)⟩⟩
 .cases e
  cases f with
  |cons b d=>cases d;obtain⟨a,xs,rfl,b,d⟩:=zC b;exact⟨a,xs,rfl,.inl ⟨b.sq,Fin.Y1 d n q⟩⟩
 .cases e
def sX:bb D->bg RV
 |[d]=>(fL d).map .ow
 |_=>Pn
theorem Bj:BO K (λxs H Q=>∃p ys,xs=[.ref p]/\(T6 K H p ys\/Uj K H p ys)/\∀l,H l=Pn->Q (.ref l) (bS H l (.lst ys))) sX:=by
 intro O H xs ds rv Q n g e q;unfold sX at e;split at e
 .rename_i d
  cases g with
  |cons b f=>
   cases f;cases hs:fL d with
   |none=>rw[hs]at e;cases e
   |some h=>
    rw[hs]at e;cases e;unfold fL at hs;split at hs
    .cases hs;obtain⟨a,xs,rfl,b,f⟩:=Gz b;exact⟨a,xs,rfl,.inr b.1,Fin.new f q⟩
    .cases hs;obtain⟨a,xs,rfl,b,f⟩:=zC b;exact⟨a,xs,rfl,.inl b.sq,Fin.new f q⟩
    .cases hs
 .cases e
def wR:bb D->bg RV
 |[.int i,.int j]=>Bn (.fz (.int (if j>i then j else i)))
 |_=>Pn
theorem GV:BO K (λxs H Q=>∃i j,xs=[.int i,.int j]/\Q (.int (if j>i then j else i)) H) wR:=by
 intro O H xs ds rv Q n b e q;unfold wR at e;split at e
 .cases e
  cases b with
  |cons f a=>
   cases a with
   |cons a d=>cases d;cases f;cases a;exact⟨_,_,rfl,q.at (.int _)⟩
 .cases e
end
end L3
namespace PySem
open Sem (wp)
open AutoSeq1 (wpAny_loadPart')
open Builtin Builtin.Str
section
variable{prog:Qc}{w:Qt}{A:Ql}{E:Pq->Px->Prop}{s:Px}
theorem mX(a:s.heap.IsTupleIter it t i)(g:s.heap.IsTuple t items)(hx:items[i]?=Bn x)
  (j:∀h',h'.IsTupleIter it t (i+1)->Heap.SameBut it s.heap h'->Q x {s with heap:=h'}):wpAny (model prog w) A (Qe.SmallTypes.nextOf (.ref it)) Q E s:=by
 obtain⟨o,d,h,b⟩:=id a;obtain⟨l,e,_,m,f⟩:=g;unfold Qe.SmallTypes.nextOf;refine Ld (QG a.typeIs F.slot_tuple_iterator_next
  (QC F.slot_tuple_iterator_next a.typeIs F.entry_tuple_iterator_next ?_ (F.args_tuple_iterator_next_1 _)))
 show wpAny _ _ (field (.ref it) 0>>=_) _ _ s;refine Ld (Q7 d b rfl ?_);show wpAny _ _ (if(Pq.ref t==Pq.none)=Pr then _ else _) _ _ s;rw[ax (show¬((Pq.ref t==Pq.none)=Pr)from P7)];refine Ld (Q7 d b rfl ?_);refine Ld (Ru e f ?_);simp only[Q8,hx];refine Ld (Se d b (by simp) (Pt ⟨x,rfl,Pt (j _ ?_ (Heap.SameBut.update ..))⟩));exact⟨_,b5 _ d (cv (cn b _)),(Obj.cls_mapFields ..).trans h,by rw[cn b];simp[rawInt]⟩
theorem oE(h:A.handled=Pn)(a:s.heap.IsTupleIter it t i)(j:s.heap.IsTuple t items)(hx:items[i]?=Pn)
  (l:∀h' e,Heap.ExtBut it s.heap h'->(∃o,h'.get? e=Bn o/\o.cls=.type "StopIteration")->E (.ref e) {s with heap:=h'}):wpAny (model prog w) A (Qe.SmallTypes.nextOf (.ref it)) Q E s:=by
 obtain⟨o,d,p,g⟩:=id a;obtain⟨m,b,_,n,f⟩:=j;unfold Qe.SmallTypes.nextOf;refine Ld (QG a.typeIs F.slot_tuple_iterator_next
  (QC F.slot_tuple_iterator_next a.typeIs F.entry_tuple_iterator_next ?_ (F.args_tuple_iterator_next_1 _)))
 show wpAny _ _ (field (.ref it) 0>>=_) _ _ s;refine Ld (Q7 d g rfl ?_);show wpAny _ _ (if(Pq.ref t==Pq.none)=Pr then _ else _) _ _ s;rw[ax (show¬((Pq.ref t==Pq.none)=Pr)from P7)];refine Ld (Q7 d g rfl ?_);refine Ld (Ru b f ?_);simp only[Q8,hx];refine Ld (Sj (Ld (Se d g (by simp) ?_)));refine Ld ?_;simp only[newExc,newTuple];refine Ld (QE ?_ (by size_fits));refine Ld (UB (by first|rfl|(simp only[firstArgMember];rfl)) ?_);refine QE ?_ (by size_fits);simp only[raiseNew];refine Ld (afg ?_)
 first|rw[show A.in1.handled=Pn from h]|rw[h]
 refine Ld (Pt (wpAny_throw ?_));exact l _ _ (((Heap.SameBut.update ..).extBut.push _).push _) ⟨_,b0 _ rfl,rfl⟩
end
end PySem
namespace L3
open PySem PySem.Spec PyProof.Rows L2
theorem Ig(I:Inv X pins σ H s)(h1:Uj X.K H a xs)(i:Uj X.K H a ys):xs=ys:=by
 obtain⟨f,h,⟨o,j,_,n,l⟩,_⟩:=I.tuple h1;obtain⟨e,g,⟨m,b,_,p,d⟩,_⟩:=I.tuple i;rw[j]at b;cases b;rw[l]at d;have:f=e:=by
  have q:f.toArray=e.toArray:=by injection d
  simpa using q
 subst this;exact h.inj g
theorem CY{bs:bb Bool}(r:Vals (bs.map V.bl) Qw){i:Nat}(h:Qw[i]?=Bn v):∃b,bs[i]?=Bn b/\v=.bool b:=by
 have d:=r.length;rw[Pp]at d;have hi:i<bs.length:=by rw[d];exact(Pu.mp h).1
 obtain⟨u,a,e⟩:=r.get (by rw[PU,PM hi];rfl);rw[h]at a;cases a;exact⟨bs[i],PM hi,e⟩
theorem yM(bs:bb Bool):((P0 bs.length).all λi=>(bs[i]?).getD Pr)=bs.all id:=by
 rw[SH,Sa,Sa];constructor
 .intro h b a;obtain⟨i,hi,e⟩:=X5.mp a;have:=h i (Rn.mpr hi);rw[PM hi,e]at this;exact this
 .intro h i hi;have hi:=Rn.mp hi;rw[PM hi];exact h _ (VW hi)
section
variable{X:Cx}
theorem yo(t:X.calm=Pr):Sm X (.builtin "all") (λxs H Q=>∃(p:Pz) (bs:bb Bool),xs=[.ref p]/\T6 X.K H p (bs.map V.bl)/\Q (.bl (bs.all id)) H):=by
 intro d s z H xs B Q I r h;obtain⟨l,bs,rfl,m,q⟩:=h;obtain⟨u,rfl,j⟩:=ir r;cases j;obtain⟨g,rv,pl,F⟩:=I.list m;have a:=rv.length;rw[Pp]at a;have y:l<s.heap.objs.size:=by obtain⟨_,_,e,_⟩:=pl;exact bP e
 refine call_all_walk (SS pl.isList ?_);refine⟨s.heap.objs.size,[s.heap.objs.size,l],[s.heap.objs.size],g.toArray.size,_,_,λi=>(bs[i]?).getD Pr,rfl,Walks.list (A:=X.A.in1) (I.ok.hd t) _ l (P5 y) g.toArray,
  ⟨⟨_,b0 _ rfl,rfl,rfl⟩,pl.isList.push _⟩,λi v E J L w f=>?_,λG C n=>?_⟩
 .obtain⟨b,e,rfl⟩:=CY rv (by simpa using w);simp only[e,VH]at f;exact Ry f
 .rw[PX,<-a,yM];refine⟨.bl _,H,I.kept λb o e=>n b o (λhm=>?_) (br _ e),rfl,q⟩;rw[PL.mp hm]at e;exact RB _ (bP e)
end
section
variable{K:Po}
def vn:bb D->bg (bb Bool)
 |[]=>Bn []
 |.bool b::r=>(vn r).map (b::·)
 |_=>Pn
theorem Bx:∀{xs:bb V} {ds:bb D} {bs:bb Bool},Rk O K H xs ds->vn ds=Bn bs->xs=bs.map V.bl
 |_,_,_,.nil,e=>by cases e;rfl
 |_,_,bs,.cons (ds:=r) h t,e=>by
  cases h with
  |bl b=>
   have a:(vn r).map (b::·)=Bn bs:=e;cases q:vn r with
   |none=>rw[q]at a;cases a
   |some d=>rw[q]at a;cases a;rw[Bx t q];rfl
  |_=>cases e
def FD:bb D->bg RV
 |[.list ds]=>(vn ds).map λbs=>.fz (.bool (bs.all id))
 |_=>Pn
theorem Dw:BO K (λxs H Q=>∃(p:Pz) (bs:bb Bool),xs=[.ref p]/\T6 K H p (bs.map V.bl)/\Q (.bl (bs.all id)) H) FD:=by
 intro O H xs ds rv Q n f e q;unfold FD at e;split at e
 .rename_i g
  cases qs:vn g with
  |none=>rw[qs]at e;cases e
  |some bs=>
   rw[qs]at e;cases e;cases f with
   |cons d b=>cases b;obtain⟨a,h,rfl,d,b⟩:=zC d;have:=Bx b qs;subst this;exact⟨a,bs,rfl,d.sq,q.at (.bl _)⟩
 .cases e
def i9:bb D->bg (bb Int)
 |[]=>Bn []
 |.int b::r=>(i9 r).map (b::·)
 |_=>Pn
theorem lr:∀{xs:bb V} {ds:bb D} {bs:bb Int},Rk O K H xs ds->i9 ds=Bn bs->xs=bs.map V.int
 |_,_,_,.nil,e=>by cases e;rfl
 |_,_,bs,.cons (ds:=r) h t,e=>by
  cases h with
  |int b=>
   have a:(i9 r).map (b::·)=Bn bs:=e;cases q:i9 r with
   |none=>rw[q]at a;cases a
   |some d=>rw[q]at a;cases a;rw[lr t q];rfl
  |_=>cases e
theorem kL(a:bb Int):i9 (a.map .int)=Bn a:=by
 induction a with
 |nil=>rfl
 |cons n r b=>show(i9 (r.map .int)).map (n::·)=_;rw[b];rfl
def z4(x:Int):bb Int->bb Int
 |[]=>[x]
 |y::r=>if x<=y then x::y::r else y::z4 x r
def dr:bb Int->bb Int
 |[]=>[]
 |x::r=>z4 x (dr r)
theorem oh(x:Int):∀l,(z4 x l).Perm (x::l)
 |[]=>VR _
 |y::r=>by
  unfold z4;split
  .exact VR _
  .exact((oh x r).cons y).trans (agt x y r)
theorem cN:∀l,(dr l).Perm l
 |[]=>VR _
 |x::r=>(oh x _).trans ((cN r).cons x)
theorem pe(x:Int):∀l:bb Int,l.Pairwise (·<=·)->(z4 x l).Pairwise (·<=·)
 |[],_=>by simp[z4]
 |y::r,h=>by
  unfold z4;obtain⟨d,f⟩:=QZ.mp h;split
  .rename_i a
   refine QZ.mpr ⟨λz b=>?_,h⟩;rcases P1.mp b with e|e
   .rw[e];exact a
   .have:=d z e;ext
  .rename_i a
   refine QZ.mpr ⟨λz b=>?_,pe x r f⟩;rcases P1.mp ((oh x r).mem_iff.mp b)with e|e
   .rw[e];ext
   .exact d z e
theorem cw:∀l,(dr l).Pairwise (·<=·)
 |[]=>R9
 |x::r=>pe x _ (cw r)
theorem gk{l m:bb Int}(d:l.Perm m)(e:l.Pairwise (·<=·))(hm:m.Pairwise (·<=·)):l=m:=d.eq_of_pairwise (λa b _ _ g f=>Int.le_antisymm g f) e hm
def iU:bb D->bg RV
 |[.list ds]=>(match i9 ds with
  |some a=>if a.length<64 then Bn (.ow ((dr a).map .int))else Pn
  |none=>Pn)
 |_=>Pn
theorem mF(a:bb Int):Rk O K H (a.map V.int) (a.map .int):=by
 induction a with
 |nil=>exact .nil
 |cons n r b=>exact .cons (.int n) b
theorem k9:BO K (λxs H Q=>∃(p:Pz) (b:bb Int),xs=[.ref p]/\T6 K H p (b.map V.int)/\b.length<64/\∀(l:Pz) (d:bb Int),H l=Pn->d.Perm b->d.Pairwise (·<=·)->Q (.ref l) (bS H l (.lst (d.map V.int)))) iU:=by
 intro O H xs ds rv Q n f e q;unfold iU at e;split at e
 .rename_i m
  cases qs:i9 m with
  |none=>rw[qs]at e;cases e
  |some b=>
   rw[qs]at e;dsimp only at e;split at e
   .rename_i g
    cases e;cases f with
    |cons i h=>cases h;obtain⟨a,r,rfl,i,h⟩:=zC i;have:=lr h qs;subst this;refine⟨a,b,rfl,i.sq,g,λl d g f j=>?_⟩;have o:=gk (f.trans (cN b).symm) j (cw b);subst o;exact Fin.new (mF _) q l g
   .cases e
 .cases e
end
theorem CU{P:Qc}{w:Qt}{K:Po}{mg i:Str->bg Pq}{k:Nat}{fa a:Pz}{l:Q6}{x:Str}{F:FN}{b:Px}{vs:bb Pq}{d:bb Int}
  (m:K.In b.heap) (I:b.heap.Ns P8 mg) (A:b.heap.Ns builtinsNs i) (f:∀x:Str,x≠ "__name__"->i x=QY x) (g:b.heap.NoLimit) (y:b.gens= #[])
  (ha:b.heap.get? a=Bn {cls:=.type "list",data:=.seq vs.toArray}) (hi:IntsAre vs d) (j:d.length<=PZ) (t:Sg k callerA)
  (L:∀base:Heap,K.In base->base.Ns P8 mg->FnOk P w K mg base dL k fa l [x] (mK K 1 F)) (J:∀(s:Px) (u:Pq),VG s l ⟨[u],[]⟩ [(x,u)])
  (C:F [.list (d.map .int)]=.ok (.fz (.bool Pr))):
  codeAny (model P w) callerA (.call (.ref fa) ⟨[.ref a],[]⟩) (λr s'=>r=.ok (.ret (.bool Pr))/\OldK b.heap s'.heap/\s'.os=b.os/\AllBare s'.gens) b:=by
 refine F0 (sp:=λvs H Q E=>mK K 1 F vs H Q E\/(vs.length=1/\False)) m I A f g y ha hi j t (λbase q p=>(L base q p).imp λvs H Q E h=>?_) J (λH M B=>?_) λ_ _ _ h=>h
 .rcases h with h|h
  .exact h
  .exact h.2.elim
 .refine .inl ⟨rfl,W8,[.list (d.map .int)],λa z=>z.elim,.cons (.lst ⟨?_,λz=>z.elim⟩ (mF d)) .nil,?_⟩
  .rcases B with h|⟨o,Qw,n,h1,h2,h3,h4,h5,h6⟩
   .exact .inl h
   .have e:=m a o h1;rw[ha]at e;cases e;cases h4;exact .inr ⟨vs,0,h1,by rw[Pp];exact j,by simpa using h6⟩
  .rw[C];exact λv N s G=>by cases G;rfl
theorem M3{l:Yx}{n k:Nat}{q:Qc}{i:bb Str}{M:(Str->bg Pq)->Heap->Prop}{A:Qt->Heap->Prop}{d:DefRec}{K:Params->Po}{F:FN}{x:Str}
  (hn:l.most=Bn n) (m:n<=PZ) (r:d.params.defaults=[]) (C:Sg k callerA)
  (I:∀(w:Qt) (h:Heap),A w h->(K w.params).In h)
  (N:∀(w:Qt) (mg:Str->bg Pq) (fa:Pz) (h:Heap),(K w.params).In h->h.Ns P8 mg->mg d.name=Bn (.ref fa)->
   ∃fd:Q6,(∀(s:Px) (u:Pq),VG s fd ⟨[u],[]⟩ [(x,u)])/\∀base:Heap,(K w.params).In base->base.Ns P8 mg->FnOk l.prog w (K w.params) mg base dL k fa fd [x] (mK (K w.params) 1 F))
  (J:∀ns:bb Int,ns.length<=n->F [.list (ns.map .int)]=.ok (.fz (.bool Pr))):
  PySem.W.WalkO q i M A l.row.toRowW d [] (λf vs=>aby f vs):=by
 refine Att.attach_call hn r λw z y mg P fa o O S L a vs ns G Y Q R U p v j e E=>?_;have B:=I w _ Y;obtain⟨fd,H,t⟩:=N w mg fa _ B G.T.g p;exact CU B G.T.g G.T.b G.T.builtins G.T.nolimit E v j (Qz e m) C t H (J ns e)
theorem Pa{P:Qc}{w:Qt}{K:Po}{mg:Str->bg Pq}{base:Heap}{x a:Str}{st:Sr}{f:Pz}{b:Q6}{N ps:bb Str}{k n m:Nat}{g:FS}{e:FN}(F:S9 K x a st f b)(S:TX N ps (aU st))(hn:ps.length=n)(hm:N.length=m)(h:e=fC m g)
  (i:∀(d:Pq) (A:Ql) (outer:bb Env) (s:Px) (H:Hp) (E:XK),Sg k (A.deeper (QJ a (aU st) s.heap.objs.size f d))->
   ∃t,Wm (rY dL P w K mg base N a (aU st) f d A outer s H E).Zn (fq st) t/\SO K E t g):FnOk P w K mg base dL (k+1) f b ps (mK K n e):=by
 subst h hm;exact Pb F S hn i
abbrev hW(P:Qc)(w:Qt)(K:Po)(mg:Str->bg Pq)(base:Heap)(k:Nat)(x:Str)(ps:bb Str)(n:Nat)(F:FN):Prop:=wW P w K mg base k x ps (mK K n F)
end L3
namespace L3
open PySem L2
abbrev nd(n:Nat):D:=.int (n:Int)
def aR(a:bb Nat):bb D:=a.map nd
theorem dH(a:bb Nat):(aR a).length=a.length:=by unfold aR;rw[Pp]
theorem IY(xs ys:bb Nat):aR (xs++ys)=aR xs++aR ys:=by unfold aR;rw[Qb]
theorem jQ{i:Nat}(h:(aR ns)[i]?=Bn d):∃n,ns[i]?=Bn n/\d=nd n:=by
 unfold aR at h;rw[PU]at h;cases e:ns[i]? with
 |none=>rw[e]at h;cases h
 |some n=>rw[e]at h;exact⟨n,rfl,(P4 h).symm⟩
theorem aL(a:α):Res.QL (Bn a)=.ok a:=rfl
theorem xO(a:α):kh (Res.ok a)=.ok a:=rfl
theorem zq(i:Nat)(ρ:aO):aa i ρ=Ak ρ i ρ[i]? :=rfl
theorem Ey(ρ:aO)(i:Nat)(d:D):Ak ρ i (Bn (Bn (.fz d)))=.ok (.fz d,ρ):=rfl
theorem Fv(ρ:aO)(i:Nat)(ds:bb D):Ak ρ i (Bn (Bn (.ow ds)))=.ok (.pl i,ρ):=rfl
theorem oy(ds:bb D):Ek (Bn (Bn (.ow ds)))=Bn ds:=rfl
theorem Fb(i:Nat)(d:D)(ρ:aO):gN i (.fz d) ρ=.ok (ρ.set i (Bn (.fz d))):=rfl
theorem Aw(i:Int):OH (.int i)=Bn i:=rfl
theorem wG(b:Bool):Ol (.bool b)=Bn b:=rfl
theorem ig(ds:bb D):gm [.tuple ds]=Bn (.fz (nd ds.length)):=rfl
theorem rF(ds:bb D):gm [.list ds]=Bn (.fz (nd ds.length)):=rfl
theorem vI(i j:Int):HB (.int i) (.int j)=Bn (.fz (.bool (decide (i<j)))):=rfl
theorem JI(i j:Int):M4 (.int i) (.int j)=Bn (.fz (.bool (decide (i<=j)))):=rfl
theorem tU(i j:Int):vK (.int i) (.int j)=Bn (.fz (.bool (decide (j<i)))):=rfl
theorem ii(i j:Int):de (.int i) (.int j)=Bn (.fz (.int (i+j))):=rfl
theorem zO(i j:Int):pJ (.int i) (.int j)=Bn (.fz (.int (i - j))):=rfl
theorem fE(h:0<j):d8 (.int i) (.int j)=Bn (.fz (.int (i % j))):=by show(if Ko i j=Pr then _ else _)=_;rw[av (show Ko i j=Pr from aP h)]
theorem fU(h:0<j/\j<2^128):eW (.int i) (.int j)=Bn (.fz (.int (i/j))):=by show(if Mg i j=Pr then _ else _)=_;rw[av (show Mg i j=Pr from aP h)]
theorem HL(h: -(2^64)<i/\i<2^64):Cg (.int i) (.int j)=Bn (.fz (.int (i*j))):=by show(if(hJ i||hJ j)=Pr then _ else _)=_;rw[av (by rw[show hJ i=Pr from aP h,TF])]
theorem GM(h: -(2^64)<j/\j<2^64):Cg (.int i) (.int j)=Bn (.fz (.int (i*j))):=by show(if(hJ i||hJ j)=Pr then _ else _)=_;rw[av (by rw[show hJ j=Pr from aP h,aaW])]
theorem Bz(h:jJ j):gQ [.int j]=Bn (gH 0 j.toNat):=by show(if jJ j then _ else _)=_;rw[av h]
theorem xP(n:Nat):gH 0 n=aR (P0 n):=by unfold gH aR;apply Tv;intro k _;rw[Int.zero_add]
theorem nF(h:n<=1000000):gQ [nd n]=Bn (aR (P0 n)):=by rw[Bz (by unfold jJ;ext),xP,Q8]
theorem zj(h:f ρ=.ok (.nx ρ1)):bp f g ρ=g ρ1:=by unfold bp;rw[h];rfl
theorem Dl(h:f ρ=.ok (.rt rv)):bp f g ρ=.ok (.rt rv):=by unfold bp;rw[h];rfl
theorem OL(h:c ρ=.ok (Pr,ρ1)):jv c f g ρ=f ρ1:=by unfold jv;rw[h];rfl
theorem OE(h:c ρ=.ok (Py,ρ1)):jv c f g ρ=g ρ1:=by unfold jv;rw[h];rfl
theorem yY(h:fi ρ=.ok (ds,ρ1)):mV fi gt b ρ=pF gt b ds ρ1:=by unfold mV;rw[h];rfl
theorem KY(h:j<=1000000/\i.natAbs<2^64):CN (.int i) (nd j)=Bn (.fz (.int (i^j))):=by show(if Gw i (j:Int)=Pr then Bn (RV.fz (.int (i^((j:Nat):Int).toNat)))else Pn)=_;rw[av (by unfold Gw;exact aP ⟨by ext,by ext,h.2⟩),Q8]
theorem NO:CN (.int 10) (.int 18)=Bn (.fz (.int (10^18))):=KY ⟨by decide,by decide⟩
def kT(gt:FG)(ft:FT)(fe:FE)(d:D)(ρ:aO):Res (bg D×aO):=(gt (.fz d) ρ).bind λe=>(ft e).bind λb=>if b.1=Pr then(fe b.2).bind λa=>(Res.QL (yb a.2 a.1)).bind λx=>.ok (Bn x.1,dj x.2)else .ok (Pn,dj b.2)
theorem rE(h:kT gt ft fe d ρ=.ok (o,ρ'))(g:acc.length<1000000):dG gt ft fe (d::r) ρ acc=dG gt ft fe r ρ' (acc++o.toList):=by
 unfold kT at h;show(gt (.fz d) ρ).bind _=_;cases q1:gt (.fz d) ρ with
 |er x=>rw[q1]at h;cases h
 |bad=>rw[q1]at h;cases h
 |ok f=>
  rw[q1,dt]at h;rw[dt];cases q2:ft f with
  |er x=>rw[q2]at h;cases h
  |bad=>rw[q2]at h;cases h
  |ok b=>
   obtain⟨b,e⟩:=b;rw[q2,dt]at h;rw[dt];cases b with
   |false=>rw[ax P7]at h⊢;cases h;rw[X6,Qh]
   |true=>
    rw[av rfl]at h⊢;cases q3:fe e with
    |er x=>rw[q3]at h;cases h
    |bad=>rw[q3]at h;cases h
    |ok a=>
     rw[q3,dt]at h;rw[dt];cases q4:yb a.2 a.1 with
     |none=>rw[q4]at h;cases h
     |some x=>rw[q4]at h;cases h;show(if acc.length<1000000 then _ else _)=_;rw[av g];rfl
theorem LG(a b:Nat):decide ((a:Int)=(b:Int))=decide (a=b):=by
 by_cases h:a=b
 .rw[aP h,aP (by rw[h])]
 .rw[a3 h,a3 (by ext)]
theorem rh(a b:Nat):Pw.eqv (nd a) (nd b)=decide (a=b):=LG a b
theorem nu(a b:Int):cx (.int a) (.int b)=Bn (.fz (.bool (decide (a=b)))):=by rfl
theorem vg(a b:Int):n6 (.int a) (.int b)=Bn (.fz (.bool (!decide (a=b)))):=by rfl
theorem gB:∀ns:bb Nat,Pw.canLayAll0 (aR ns)=Pr
 |[]=>rfl
 |n::r=>by show(Pw.canLay0 (nd n)&&Pw.canLayAll0 (aR r))=Pr;rw[gB r];rfl
theorem lm:∀ns:bb Nat,Pw.depthAll (aR ns)=0
 |[]=>rfl
 |n::r=>by show max (Pw.depth (nd n)) (Pw.depthAll (aR r))=0;rw[lm r];rfl
theorem uE:∀xs ys:bb Nat,Pw.eqvAll (aR xs) (aR ys)=decide (xs=ys)
 |[],[]=>rfl
 |[],_::_=>rfl
 |_::_,[]=>rfl
 |n::r,m::t=>by show(Pw.eqv (nd n) (nd m)&&Pw.eqvAll (aR r) (aR t))=_;rw[uE r t,rh];rw[SH];simp
theorem K1(a:bb Nat):iE (.tuple (aR a))=Pr:=by show(Pw.canLayAll0 (aR a)&&decide (Pw.depthAll (aR a)+1<=64))=Pr;rw[gB,lm];rfl
theorem Ku(a:bb Nat):iE (.list (aR a))=Pr:=by show(Pw.canLayAll0 (aR a)&&decide (Pw.depthAll (aR a)+1<=64))=Pr;rw[gB,lm];rfl
theorem vi(xs ys:bb Nat):cx (.list (aR xs)) (.list (aR ys))=Bn (.fz (.bool (decide (xs=ys)))):=by unfold cx;rw[Ku,show Pw.canLay0 (.list (aR ys))=Pr from gB ys,RU,av rfl,show Pw.eqv (.list (aR xs)) (.list (aR ys))=_ from uE xs ys]
theorem Hh(x:Nat)(xs:bb Nat):((aR xs).any λe=>Pw.eqv e (nd x))=decide (x∈xs):=by
 induction xs with
 |nil=>rfl
 |cons y r a=>
  show(Pw.eqv (nd y) (nd x)||(aR r).any λe=>Pw.eqv e (nd x))=_;rw[a,rh];by_cases h:y=x
  .rw[aP h,aP (show x∈y::r by rw[h];exact PH),TF]
  .rw[a3 h,Ug]
   by_cases g:x∈r
   .rw[aP g,aP (PD _ g)]
   .rw[a3 g,a3 (λz=>(P1.mp z).elim (λe=>h e.symm) g)]
theorem vM(x:Nat)(xs:bb Nat):Aq (nd x) (.tuple (aR xs))=Bn (.fz (.bool (decide (x∈xs)))):=by show(if(iE (nd x)&&Pw.canLayAll0 (aR xs))=Pr then _ else _)=_;rw[gB,show iE (nd x)=Pr from rfl,RU,av rfl,Hh]
theorem zZ{i:Nat}(h:xs[i]?=Bn v):lO xs (i:Int)=Bn v:=Ah h
theorem GC(h:ds[i]?=Bn d):bc (.tuple ds) (nd i)=Bn (.fz d):=by show(lO ds (i:Int)).map RV.fz=_;rw[zZ h];rfl
theorem Pf(h:ds[i]?=Bn d):bc (.list ds) (nd i)=Bn (.fz d):=by show(lO ds (i:Int)).map RV.fz=_;rw[zZ h];rfl
section
variable{ρ ρ1 Z ρ3:aO}{fa fb fc fe:FE}{pa pb pv:PV}{dx dy d:D}{rv:RV}{ps:bb PV}{ds:bb D}
theorem af(h:ρ[i]?=Bn (Bn (.fz d))):aa i ρ=.ok (.fz d,ρ):=by rw[zq,h,Ey]
theorem d6(h:ρ[i]?=Bn (Bn (.ow ds))):aa i ρ=.ok (.pl i,ρ):=by rw[zq,h,Fv]
theorem aG:pC d ρ=.ok (.fz d,ρ):=rfl
theorem aE(ha:fa ρ=.ok (pa,ρ1))(e:fb ρ1=.ok (pb,Z))(hx:tD Z (cj pa)=Bn dx)(a:tD Z pb=Bn dy)(b:f dx dy=Bn rv):ay f fa fb ρ=.ok (rv.pv,Z):=by unfold ay;rw[ha,dt,e,dt,hx,aL,dt,a,aL,dt,b,aL,dt]
theorem bG(ha:fa ρ=.ok (pa,ρ1))(hx:tD ρ1 pa=Bn (.bool b)):aA fa ρ=.ok (b,ρ1):=by unfold aA;rw[ha,dt,hx,aL,dt,wG,aL,dt]
theorem ny(ha:f ρ=.ok (a,ρ1))(e:a=Pr->g ρ1=.ok (b,ρ1)):ke f g ρ=.ok (a&&b,ρ1):=by
 unfold ke;rw[ha,dt];cases a with
 |true=>rw[av rfl,e rfl,Uh]
 |false=>rw[ax P7,TR]
theorem Eo(ha:f ρ=.ok (a,ρ1))(e:a=Py->g ρ1=.ok (b,ρ1)):MR f g ρ=.ok (a||b,ρ1):=by
 unfold MR;rw[ha,dt];cases a with
 |true=>rw[av rfl,TF]
 |false=>rw[ax P7,e rfl,Ug]
theorem GH(ha:f ρ=.ok (a,ρ1)):zK f ρ=.ok (!a,ρ1):=by unfold zK;rw[ha,dt]
theorem u9(ha:aA fa ρ=.ok (a,ρ1))(e:a=Pr->fb ρ1=.ok (.fz (.bool b),ρ1)):Cf fa fb ρ=.ok (.fz (.bool (a&&b)),ρ1):=by
 unfold Cf;rw[ha,dt];cases a with
 |true=>rw[av rfl,e rfl,Uh]
 |false=>rw[ax P7,TR]
theorem aF:ao ρ=.ok ([],ρ):=rfl
theorem ai(ha:fa ρ=.ok (pa,ρ1))(a:fr ρ1=.ok (ps,Z)):ae fa fr ρ=.ok (cj pa::ps,Z):=by unfold ae;rw[ha,dt,a,dt]
theorem cH(ha:fr ρ=.ok (ps,ρ1))(hd:xZ ρ1 ps=Bn ds)(a:f ds=Bn rv):eX f fr ρ=.ok (rv.pv,ρ1):=by unfold eX;rw[ha,dt,hd,aL,dt,a,aL,dt]
theorem eR(ha:fr ρ=.ok (ps,ρ1))(hd:pI ρ1 ps=Bn (ds,Z))(hn:ds.length=n)(a:F ds=.ok rv):dX F n fr ρ=.ok (rv.pv,Z):=by unfold dX;rw[ha,dt,hd,aL,dt];dsimp only;rw[av hn,a,xO,dt]
theorem fJ(ha:fr ρ=.ok (ps,ρ1))(hd:pI ρ1 ps=Bn (ds,Z))(hn:ds.length<=1000):bQ fr ρ=.ok (.fz (.tuple ds),Z):=by unfold bQ;rw[ha,dt,hd,aL,dt];dsimp only;rw[av hn]
theorem sG(ha:fr ρ=.ok (ps,ρ1))(hd:pI ρ1 ps=Bn (ds,Z))(hn:ds.length<=1000):dg fr ρ=.ok (.ow ds,Z):=by unfold dg;rw[ha,dt,hd,aL,dt];dsimp only;rw[av hn]
theorem xc(ha:fa ρ=.ok (pa,ρ1))(hx:tD ρ1 pa=Bn (.int i)):tR fa ρ=.ok (Bn i,ρ1):=by unfold tR;rw[ha,dt,hx,aL,dt,Aw,aL,dt]
theorem JR(ha:fa ρ=.ok (pa,ρ1))(a:fl ρ1=.ok (lo,Z))(b:fh Z=.ok (hi,ρ3))(hx:tD ρ3 (cj pa)=Bn dx)(e:f dx lo hi=Bn rv):ME f fa fl fh ρ=.ok (rv.pv,ρ3):=by unfold ME;rw[ha,dt,a,dt,b,dt,hx,aL,dt,e,aL,dt]
theorem kG(e:ρ[i]?=Bn (Bn (.ow es)))(ha:fe ρ=.ok (pa,ρ1))(a:yb ρ1 pa=Bn (d,Z))(h1:Z[i]?=Bn (Bn (.ow ds)))(b:ds.length<1000000)(hx:Z.set i (Bn (.ow (ds++[d])))=x):mh i fe ρ=.ok (.fz .none,x):=by unfold mh;rw[e,oy,aL,dt,ha,dt,a,aL,dt];dsimp only;rw[h1,oy,aL,dt,av b,hx]
theorem dD(hi:fi ρ=.ok (ds,ρ1))(b:tT ρ1 fv=Bn (cs,Z))(a:kh (dG gt ft fe ds (PK n Pn++cs.map λd=>Bn (.fz d)) [])=.ok xs):eu n fv fi gt ft fe ρ=.ok (.ow xs,Z):=by unfold eu;rw[hi,dt];dsimp only;rw[b,aL,dt];dsimp only;rw[a,dt]
theorem KR(a:c ρ=.ok (Pr,ρ1))(h:fa ρ1=.ok (pv,Z)):K7 c fa fb ρ=.ok (pv,Z):=by unfold K7;rw[a,dt,av rfl,h]
theorem Ls(a:c ρ=.ok (Py,ρ1))(h:fb ρ1=.ok (pv,Z)):K7 c fa fb ρ=.ok (pv,Z):=by unfold K7;rw[a,dt,ax P7,h]
theorem iG:bc (.tuple (a::r)) (.int 0)=Bn (.fz a):=GC rfl
theorem lH:bc (.tuple (a::b::r)) (.int 1)=Bn (.fz b):=GC rfl
theorem tz:bc (.tuple (a::b::c::r)) (.int 2)=Bn (.fz c):=GC rfl
theorem Ei(h1:k<=1000)(a:xs.length<=1000):Cg (.list xs) (nd k)=Bn (.ow (PK k xs).flatten):=by show(if xs.length*((k:Nat):Int).toNat<=1000000/\ -(2^63)<=(k:Int)/\(k:Int)<2^63 then Bn (RV.ow (PK ((k:Nat):Int).toNat xs).flatten)else Pn)=_;rw[Q8,av ⟨Qz (WH a h1) (by decide),by ext,by ext⟩]
theorem gz(ha:fe ρ=.ok (pa,ρ1))(a:yb ρ1 pa=Bn (d,Z))(b:fL d=Bn es):jr fe ρ=.ok (es,Z):=by unfold jr;rw[ha,dt,a,aL,dt];dsimp only;rw[b,aL,dt]
theorem mG(ha:fr ρ=.ok (ps,ρ1))(hd:xZ ρ1 ps=Bn ds)(a:f ds=Bn es):lK f fr ρ=.ok (es,ρ1):=by unfold lK;rw[ha,dt,hd,aL,dt,a,aL,dt]
theorem rB(b:fe ρ=.ok (pv,ρ1))(a:g pv ρ1=.ok Z)(hn:Z=ρ3):cQ fe g ρ=.ok (.nx ρ3):=by unfold cQ;rw[b,dt];dsimp only;rw[a,dt,hn]
theorem ve(a:fe ρ=.ok (pv,ρ1)):gJ fe ρ=.ok (.nx ρ1):=by unfold gJ;rw[a,dt]
theorem wu(b:fe ρ=.ok (pv,ρ1))(a:B5 ρ1 pv=Bn rv):c9 fe ρ=.ok (.rt rv):=by unfold c9;rw[b,dt];dsimp only;rw[a,aL,dt]
theorem C0(b:gt (.fz d) ρ=.ok ρ1)(a:ft ρ1=.ok (Pr,Z))(f:fe Z=.ok (pv,ρ3))(hx:yb ρ3 pv=Bn (x,ρ4))(e:dj ρ4=ρ5):kT gt ft fe d ρ=.ok (Bn x,ρ5):=by unfold kT;rw[b,dt,a,dt,av rfl,f,dt,hx,aL,dt,e]
theorem K4(b:gt (.fz d) ρ=.ok ρ1)(a:ft ρ1=.ok (Py,Z))(e:dj Z=ρ5):kT gt ft fe d ρ=.ok (Pn,ρ5):=by unfold kT;rw[b,dt,a,dt,ax P7,e]
end
end L3
namespace PySem
open Sem (wp)
open Builtin
open AutoSeq1 (wpAny_loadPart')
theorem oI:fillsNumberSlot (.type "tuple") "mul"=pure Py:=
 fillsNumberSlot_seq F.slot_tuple_mul.lookup (by left) F.slot_tuple_rmul.lookup (by left)
theorem wm:seqRepeat? (.type "tuple")=pure (Bn (.builtin "tuple.__mul__")):=by unfold seqRepeat?;rw[seqSlot_of (name:= "__mul__") F.slot_tuple_mul.lookup (by left),seqSlot_of (name:= "__rmul__") F.slot_tuple_rmul.lookup (by left)];rfl
theorem rA(a:Int)(t:Tok)(l:Pz)(b:Array Pq)(n:Nat)(Vo:bg Pz)(sl:Array (bg Pq)):
  Meets (Qe.«int.__rmul__» ⟨[.int a t,.ref l],[]⟩) (λ_ R s=>s.heap.get? l=Bn {cls:=.type "tuple",dict:=Vo,data:=.seq b n,slots:=sl}/\R (.ok (.ret Pq.notImplemented)) s):=
 .of_wp λe w A R s h=>by obtain⟨j,g,d,f,i⟩:=s;obtain⟨m,h⟩:=h;wp_walk;exact⟨_,rfl,h⟩
theorem wX(l:Pz)(a:Array Pq)(n:Nat)(Vo:bg Pz)(sl:Array (bg Pq))(u:Tok):
  Meets (Qe.«tuple.__mul__» ⟨[.ref l,.int 1 u],[]⟩) (λ_ R s=>s.heap.get? l=Bn {cls:=.type "tuple",dict:=Vo,data:=.seq a n,slots:=sl}/\R (.ok (.ret (Pq.ref l))) s):=
 .of_wp λb w A R s h=>by
  obtain⟨i,g,d,e,f⟩:=s;obtain⟨j,h⟩:=h
  wp_walk
  exact⟨_,rfl,h⟩
theorem xq(l:Pz)(a:Array Pq)(n:Nat)(Vo:bg Pz)(sl:Array (bg Pq))(x:Int)(u:Tok)(h1:2<=x)(q:x<=1000)(i:a.isEmpty=Py)(hz:a.size<=1000):
  Meets (Qe.«tuple.__mul__» ⟨[.ref l,.int x u],[]⟩) (λ_ R s=>s.heap.get? l=Bn {cls:=.type "tuple",dict:=Vo,data:=.seq a n,slots:=sl}/\R (.ok (.ret (Pq.ref s.heap.objs.size))) {s with heap:=s.heap.push {cls:=Pq.type "tuple",data:=Data.seq (UA (λx1 x2=>x1++x2) #[] (PK x.toNat a))},toks:=s.toks}):=
 .of_wp λe w A R s h=>by
  obtain⟨F,g,d,C,E⟩:=s;obtain⟨p,h⟩:=h;have B:¬(decide (x< -(2^63))||decide (x≥2^63))=Pr:=by simp;ext
  have z:(x==1)=Py:=by simp;ext
  have y:decide (x<=0)=Py:=by simp;ext
  have I:(a.isEmpty||x==1)=Py:=by rw[i,z];rfl
  have H:(decide (x<=0)||a.isEmpty)=Py:=by rw[i,y];rfl
  have f:(a.size:Int)*x<=1000000:=by have:(a.size:Int)*x<=1000*1000:=Int.mul_le_mul (by ext) q (by ext) (by ext);ext
  have v:¬(a.size:Int)*x>(2^63 - 1)/8:=by ext
  have t:¬Tuple.tupleTooMany ((a.size:Int)*x)=Pr:=by
   unfold Tuple.tupleTooMany;simp;have:(PZ:Nat)=16777216:=by decide
   ext
  wp_walk
  rw[ax B]
  wp_walk using wpAny_loadPart' p
  rw[ax v];dsimp only;rw[ax t];have o:(UA (λx1 x2=>x1++x2) #[] (PK x.toNat a)).size<=PZ:=by
   have r:∀(m:Nat) (b:Array Pq),(UA (λx1 x2=>x1++x2) b (PK m a)).size=b.size+m*a.size:=by
    intro m
    induction m with
    |zero=>intro b;simp
    |succ m j=>intro b;rw[QF,QO,j,Array.size_append,abx];ext
   rw[r];have G:x.toNat*a.size<=1000*1000:=WH (by ext) hz;have:(PZ:Nat)=16777216:=by decide
   simp;ext
  wp_walk
  exact⟨_,rfl,h⟩
end PySem
namespace L3
open PySem PySem.Spec PyProof.Rows L2
def J4(K:Po):R2:=λx y H Q=>∃(a:Pz) (k:Nat) (xs:bb V),x=.ref a/\y=.int (k:Int)/\Uj K H a xs/\xs≠[]/\1<=k/\k<=1000/\xs.length<=1000/\
 (k=1->Q (.ref a) H)/\(2<=k->∀p,H p=Pn->Q (.ref p) (bS H p (.tup (PK k xs).flatten)))
theorem HI:OpR X (RM .Mult) (J4 X.K):=by
 intro f s O H x y v u Q I z w h;obtain⟨a,k,xs,rfl,rfl,C,N,T,L,G,B,A⟩:=h;cases z;obtain⟨t,rfl⟩:=w;obtain⟨e,r,E,S⟩:=I.tuple C;obtain⟨⟨cls,dd,l,sl⟩,d,j,n,i⟩:=id E;simp only at j i;subst j i;have g:=r.length;refine X4 (by decide) ⟨_,d,rfl⟩ (λp=>V2 p k t) oI F.fills_int_mul F.slot_int_rmul wm F.slot_int_index.lookup
  (Ul F.slot_int_rmul (V2 s k t) F.entry_int_rmul (F.args_int_rmul_2 _ _) (rA k t a e.toArray n dd sl) ⟨d,rfl,⟨_,d,rfl⟩,?_⟩)
 by_cases J:k=1
 .subst J;exact Ul F.slot_tuple_mul ⟨_,d,rfl⟩ F.entry_tuple_mul (F.args_tuple_mul_2 _ _) (wX a e.toArray n dd sl t) ⟨d,⟨.ref a,H,I,rfl,B rfl⟩⟩
 .refine Ul F.slot_tuple_mul ⟨_,d,rfl⟩ F.entry_tuple_mul (F.args_tuple_mul_2 _ _) (xq a e.toArray n dd sl k t (by ext) (by ext) ?_ (by rw[PX];ext)) ⟨d,?_⟩
  .cases e with
   |nil=>cases r;exact a5 rfl N
   |cons y P=>rfl
  .have M:UA (λo m=>o++m) #[] (PK ((k:Nat):Int).toNat e.toArray)=(PK k e).flatten.toArray:=by
    have:=oT e k [];rw[Wc]at this;rw[Q8];exact this
   rw[M];refine⟨.ref s.heap.objs.size,_,I.laid (λb R q=>br _ q) (PF _) ?_,rfl,A (by ext) _ (I.Ro.fresh (PF _))⟩;refine⟨?_,_,r.rep k,VU.new _ _⟩;rw[A2];exact Qz (WH L G) (by decide)
def JD(K:Po):R2:=λx y H Q=>DJ K x y H Q\/J4 K x y H Q
theorem pS:OpR X (RM .Mult) (JD X.K):=OpR.or IC HI
def dM:D->D->bg RV
 |.tuple xs,.int k=>if xs≠[]/\1<=k/\k<=1000/\xs.length<=1000 then Bn (.fz (.tuple (PK k.toNat xs).flatten))else Pn
 |d,e=>Cg d e
theorem mH{K:Po}:nM K (JD K) dM:=by
 intro O H x y dx j rv Q n f d e q;unfold dM at e;split at e
 .rename_i ds k
  split at e
  .rename_i g
   cases e;cases d;obtain⟨a,xs,rfl,h,b⟩:=Gz f;obtain⟨m,rfl⟩:∃m:Nat,k=(m:Int):=⟨k.toNat,by ext⟩;rw[Q8]at q;refine .inr ⟨a,m,xs,rfl,rfl,h.1,λz=>g.1 (b.ne.mp z),by ext,by ext,by rw[b.length];exact g.2.2.2,λe=>?_,λ_=>Fin.Y1 (b.flat m) n q⟩;subst e;have i:(PK 1 ds).flatten=ds:=by simp
   rw[i]at q;exact q.at (.tup h b)
  .cases e
 .exact .inl (HZ O H x y dx j rv Q n f d e q)
end L3
namespace PySem
open Sem (wp)
open Builtin Builtin.Str
def itAt:Bool->Heap->Pz->Pz->Nat->Prop
 |true,h,it,a,i=>h.IsTupleIter it a i
 |false,h,it,a,i=>h.IsListIter it a i
def sqAt:Bool->Heap->Pz->Array Pq->Prop
 |true,h,a,xs=>h.IsTuple a xs
 |false,h,a,xs=>h.IsList a xs
def wO:Bool->String
 |true=> "tuple_iterator"
 |false=> "list_iterator"
theorem itAt.ext(x:itAt b h it a i)(e:Heap.ExtBut c h h')(n:it≠c):itAt b h' it a i:=by
 cases b with
 |true=>exact Heap.IsTupleIter.extBut x e n
 |false=>exact Heap.IsListIter.extBut x e n
theorem itAt.to(x:itAt b h it a i)(e:∀o,h.get? it=Bn o->h'.get? it=Bn o):itAt b h' it a i:=by
 cases b with
 |true=>exact Heap.IsTupleIter.at x e
 |false=>exact Heap.IsListIter.at x e
theorem itAt.live(x:itAt b h it a i):∃o,h.get? it=Bn o/\∀v,o.data≠.cell v:=by
 cases b with
 |true=>obtain⟨o,e,_,d⟩:=(show h.IsTupleIter it a i from x);exact⟨o,e,λv z=>by rw[d]at z;cases z⟩
 |false=>obtain⟨o,e,_,d⟩:=(show h.IsListIter it a i from x);exact⟨o,e,λv z=>by rw[d]at z;cases z⟩
theorem sqAt.ext(x:sqAt b h a xs)(e:Heap.ExtBut c h h')(n:a≠c):sqAt b h' a xs:=by
 cases b with
 |true=>exact Heap.IsTuple.extBut x e n
 |false=>exact Heap.IsList.extBut x e n
theorem sqAt.psh(x:sqAt b h a xs)(o:Obj):sqAt b (h.push o) a xs:=by
 cases b with
 |true=>exact Heap.IsTuple.push x o
 |false=>exact Heap.IsList.push x o
theorem sqAt.lt(x:sqAt b h a xs):a<h.objs.size:=by
 cases b with
 |true=>obtain⟨o,e,_⟩:=(show h.IsTuple a xs from x);exact bP e
 |false=>obtain⟨o,e,_⟩:=(show h.IsList a xs from x);exact bP e
section
variable{prog:Qc}{w:Qt}{A:Ql}{E:Pq->Px->Prop}{s:Px}
theorem vY(hi:itAt b s.heap it l i)(a:sqAt b s.heap l xs)(hx:xs[i]?=Bn x)
  (q:∀h',itAt b h' it l (i+1)->Heap.SameBut it s.heap h'->Q x {s with heap:=h'}):wpAny (model prog w) A (SmallTypes.nextOf (.ref it)) Q E s:=by
 cases b with
 |true=>exact mX hi a hx q
 |false=>exact wpAny_nextOf_list_item hi a hx q
theorem Br(d:A.handled=Pn)(hi:itAt b s.heap it l i)(a:sqAt b s.heap l xs)(hx:xs[i]?=Pn)
  (q:∀h' e,Heap.ExtBut it s.heap h'->(∃o,h'.get? e=Bn o/\o.cls=.type "StopIteration")->E (.ref e) {s with heap:=h'}):wpAny (model prog w) A (SmallTypes.nextOf (.ref it)) Q E s:=by
 cases b with
 |true=>exact oE d hi a hx q
 |false=>exact wpAny_nextOf_list_end d hi a hx q
theorem Bl(a:sqAt b s.heap l xs)
  (q:Q (.ref s.heap.objs.size) {s with heap:=s.heap.push {cls:=.type (wO b),data:=.fields #[.ref l,.int 0 0]}}):wpAny (model prog w) A (pyIter (.ref l)) Q E s:=by
 cases b with
 |true=>exact Vk a q
 |false=>exact SS a q
theorem B4{Q:Pq->Px->Prop}(D:Wg z TI TO i1 i2 l1 l2)(hz:Xy s.heap z TI TO .none)
  (hTI:IsPair s.heap TI (.ref i1) (.ref i2)) (Z:IsPair s.heap TO a b) (h1:itAt b1 s.heap i1 l1 n) (h2:itAt b2 s.heap i2 l2 n) (Wx:sqAt b1 s.heap l1 xs) (XD:sqAt b2 s.heap l2 ys) (hx:xs[n]?=Bn x) (hy:ys[n]?=Bn y)
  (q:∀h',Xy h' z TI TO (rawInt s.heap.objs.size)->IsPair h' TO x y->itAt b1 h' i1 l1 (n+1)->itAt b2 h' i2 l2 (n+1)->IsPair h' s.heap.objs.size x y->h'.objs.size=s.heap.objs.size+1->
   (∀c o,c≠z->c≠TO->c≠i1->c≠i2->s.heap.get? c=Bn o->h'.get? c=Bn o)->Q (.ref s.heap.objs.size) {s with heap:=h'}):
  wpAny (model prog w) A (Qe.«zip.__next__» ⟨[.ref z],[]⟩) (λfin s'=>∃v,fin=.done (.ret v)/\Q v s') E s:=by
 show wpAny _ _ (field (.ref z) 2>>=_) _ _ _;refine Ld (Q7 hz rfl rfl ?_);show wpAny _ _ (field (.ref z) 3>>=_) _ _ _;refine Ld (Q7 hz rfl rfl ?_);refine Ld (Ru hTI rfl ?_);show wpAny _ _ (SmallTypes.ownedTupleIsFree (.ref z)>>=_) _ _ _;refine Ld ?_;unfold SmallTypes.ownedTupleIsFree;refine Ld (Q7 hz rfl rfl (Pt ?_));simp only[if_true];refine Ld (Sj ?_);refine Ld (Q7 hz rfl rfl ?_);refine Ld (Sk hz (by simp) λk₁ r f=>?_);have Zj:=r;clear r;refine Ld ?_;simp only[Y7,Ze,UG,Ws];refine Ld (Ld (VX ?_));show wpAny _ _ (SmallTypes.nextOf (.ref i1)>>=_) _ _ _;refine Ld (vY (h1.ext f.extBut D.i1z) (Wx.ext f.extBut D.l1z) hx λk₂ X h=>Pt ?_);have I:=h.extBut _ _ D.TOi1 (f.extBut _ _ D.TOz Z);refine Ld (Ru I rfl ?_);refine Ld (Vs I λk₃ H g=>?_);have L:=H;clear H;refine Ld (TM (Pt ?_));refine Ld (Ld (VX ?_));show wpAny _ _ (SmallTypes.nextOf (.ref i2)>>=_) _ _ _;refine Ld (vY (((h2.ext f.extBut D.i2z).ext h.extBut D.i12.symm).ext g.extBut D.TOi2.symm) (((XD.ext f.extBut D.l2z).ext h.extBut D.l2i1).ext g.extBut D.l2TO) hy λk₄ U j=>Pt ?_);have G:=j.extBut _ _ D.TOi2 L;refine Ld (Ru G rfl ?_);refine Ld (Vs G λd F i=>?_);have m:IsPair d TO x y:=F;clear F;refine Ld (TM (Pt (Pt ?_)));refine Ld (Ru m rfl ?_);refine Ld (adt ?_);have T:d.objs.size=s.heap.objs.size:=by rw[i.1,j.1,g.1,h.1,f.1]
 have B:=i.extBut _ _ D.TOz.symm (j.extBut _ _ D.i2z.symm (g.extBut _ _ D.TOz.symm (h.extBut _ _ D.i1z.symm Zj)));have kp:∀c o,c≠z->c≠TO->c≠i1->c≠i2->s.heap.get? c=Bn o->d.get? c=Bn o:=λc o M Y c3 c4 e=>
  i.extBut _ _ Y (j.extBut _ _ c4 (g.extBut _ _ Y (h.extBut _ _ c3 (f.extBut _ _ M e))))
 have S:=((X.ext g.extBut D.TOi1.symm).ext j.extBut D.i12).ext i.extBut D.TOi1.symm;have R:=U.ext i.extBut D.TOi2.symm;have T7:=bP B;show wpAny _ _ (SmallTypes.ownedTupleHandOut (.ref z) (.ref d.objs.size)>>=_) _ _ _;refine Ld ?_;unfold SmallTypes.ownedTupleHandOut;have P:Xy (d.push {cls:=.type "tuple",data:=.seq #[x,y]}) z TI TO .ellipsis:=br _ B;refine Ld (Sk P (by simp) λk₇ O u=>?_);have K:=O;refine Sk K (by simp) λp N t=>?_;have l:=N;have up:∀c o,c≠z->d.get? c=Bn o->p.get? c=Bn o:=λc o M e=>t.extBut _ _ M (u.extBut _ _ M (br _ e));have C:=t.extBut _ _ (Q0 T7) (u.extBut _ _ (Q0 T7) (b0 _ rfl));have J:p.objs.size=d.objs.size+1:=by rw[t.1,u.1,b7]
 rw[T]at l C J;refine Pt ⟨_,rfl,?_⟩;rw[T];exact q p l (up _ _ D.TOz m) (S.to λo e=>up _ o D.i1z e) (R.to λo e=>up _ o D.i2z e) C J λc o M Y c3 c4 e=>up c o M (kp c o M Y c3 c4 e)
theorem F9(O:A.handled=Pn)(D:Wg z TI TO i1 i2 l1 l2)(hz:Xy s.heap z TI TO .none)
  (I:IsPair s.heap TI (.ref i1) (.ref i2)) (H:IsPair s.heap TO a b) (h1:itAt b1 s.heap i1 l1 n) (U:itAt b2 s.heap i2 l2 n) (S:sqAt b1 s.heap l1 xs) (Z:sqAt b2 s.heap l2 ys) (K:xs[n]?=Pn\/ys[n]?=Pn)
  (q:∀h' e,(∀c o,c≠z->c≠TO->c≠i1->c≠i2->s.heap.get? c=Bn o->h'.get? c=Bn o)->(∃o,h'.get? e=Bn o/\o.cls=.type "StopIteration")->E (.ref e) {s with heap:=h'}):
  wpAny (model prog w) A (Qe.«zip.__next__» ⟨[.ref z],[]⟩) Q E s:=by
 show wpAny _ _ (field (.ref z) 2>>=_) _ _ _;refine Ld (Q7 hz rfl rfl ?_);show wpAny _ _ (field (.ref z) 3>>=_) _ _ _;refine Ld (Q7 hz rfl rfl ?_);refine Ld (Ru I rfl ?_);show wpAny _ _ (SmallTypes.ownedTupleIsFree (.ref z)>>=_) _ _ _;refine Ld ?_;unfold SmallTypes.ownedTupleIsFree;refine Ld (Q7 hz rfl rfl (Pt ?_));simp only[if_true];refine Ld (Sj ?_);refine Ld (Q7 hz rfl rfl ?_);refine Ld (Sk hz (by simp) λN v d=>?_);have R:=v;refine Ld ?_;simp only[Y7,Ze,UG,Ws];refine Ld (Ld (VX ?_));show wpAny _ _ (SmallTypes.nextOf (.ref i1)>>=_) _ _ _;cases hx:xs[n]? with
 |none=>
  refine Ld (Br O (h1.ext d.extBut D.i1z) (S.ext d.extBut D.l1z) hx λB e f G=>?_);obtain⟨F,h,i⟩:=G;have l:=f _ _ D.i1z.symm R;have ne:e≠z:=λt=>by subst t;rw[l]at h;cases h;simp at i
  exact Sk l (by simp) λp _ g=>q p e (λc o C _ J _ t=>g.extBut _ _ C (f _ _ J (d.extBut _ _ C t))) ⟨F,g.extBut _ _ ne h,i⟩
 |some x=>
  have T:ys[n]?=Pn:=by
   rcases K with t|t
   .rw[hx]at t;cases t
   .exact t
  refine Ld (vY (h1.ext d.extBut D.i1z) (S.ext d.extBut D.l1z) hx λB P f=>Pt ?_);have m:=f.extBut _ _ D.TOi1 (d.extBut _ _ D.TOz H);refine Ld (Ru m rfl ?_);refine Ld (Vs m λp L g=>?_);refine Ld (TM (Pt ?_));refine Ld (Ld (VX ?_));show wpAny _ _ (SmallTypes.nextOf (.ref i2)>>=_) _ _ _;refine Ld (Br O (((U.ext d.extBut D.i2z).ext f.extBut D.i12.symm).ext g.extBut D.TOi2.symm) (((Z.ext d.extBut D.l2z).ext f.extBut D.l2i1).ext g.extBut D.l2TO) T λM e u G=>?_);obtain⟨F,h,i⟩:=G;have j:=u _ _ D.i2z.symm (g.extBut _ _ D.TOz.symm (f.extBut _ _ D.i1z.symm R));have ne:e≠z:=λt=>by subst t;rw[j]at h;cases h;simp at i
  exact Sk j (by simp) λy _ r=>q y e (λc o C Y J X t=>r.extBut _ _ C (u _ _ X (g.extBut _ _ Y (f.extBut _ _ J (d.extBut _ _ C t))))) ⟨F,r.extBut _ _ ne h,i⟩
end
section
variable{prog:Qc}{w:Qt}{A:Ql}{E:Pq->Px->Prop}{s:Px}
theorem xm(D:Wg z TI TO i1 i2 l1 l2)(hz:Xy s.heap z TI TO .none)
  (e:IsPair s.heap TI (.ref i1) (.ref i2)) (d:IsPair s.heap TO a b) (h1:itAt b1 s.heap i1 l1 n) (h:itAt b2 s.heap i2 l2 n) (v:sqAt b1 s.heap l1 xs) (u:sqAt b2 s.heap l2 ys) (hx:xs[n]?=Bn x) (g:ys[n]?=Bn y)
  (q:∀h',Xy h' z TI TO (rawInt s.heap.objs.size)->IsPair h' TO x y->itAt b1 h' i1 l1 (n+1)->itAt b2 h' i2 l2 (n+1)->IsPair h' s.heap.objs.size x y->h'.objs.size=s.heap.objs.size+1->
   (∀c o,c≠z->c≠TO->c≠i1->c≠i2->s.heap.get? c=Bn o->h'.get? c=Bn o)->Q (Bn (.ref s.heap.objs.size)) {s with heap:=h'}):
  wpAny (model prog w) A (pyNext (.ref z)) Q E s:=by
 have f:s.TypeIs (.ref z) "zip":=⟨_,hz,rfl⟩;unfold pyNext;refine Ld (TH (QG f F.slot_zip_next ?_));exact QC F.slot_zip_next f F.entry_zip_next (B4 D hz e d h1 h v u hx g λh' t r p m l j i=>Pt (q h' t r p m l j i)) (F.args_zip_next_1 _)
theorem xX(l:A.handled=Pn)(D:Wg z TI TO i1 i2 l1 l2)(hz:Xy s.heap z TI TO .none)
  (f:IsPair s.heap TI (.ref i1) (.ref i2)) (d:IsPair s.heap TO a b) (h1:itAt b1 s.heap i1 l1 n) (r:itAt b2 s.heap i2 l2 n) (u:sqAt b1 s.heap l1 xs) (t:sqAt b2 s.heap l2 ys) (g:xs[n]?=Pn\/ys[n]?=Pn)
  (q:∀h',(∀c o,c≠z->c≠TO->c≠i1->c≠i2->s.heap.get? c=Bn o->h'.get? c=Bn o)->Q Pn {s with heap:=h'}):wpAny (model prog w) A (pyNext (.ref z)) Q E s:=by
 have h:s.TypeIs (.ref z) "zip":=⟨_,hz,rfl⟩;unfold pyNext;refine Ld (TH (QG h F.slot_zip_next ?_));refine QC F.slot_zip_next h F.entry_zip_next (F9 l D hz f d h1 r u t g λh' e j m=>?_) (F.args_zip_next_1 _);obtain⟨o,i,p⟩:=m;exact Ld (UY ⟨o,i,p⟩ adu (Pt (q _ j)))
end
abbrev NK(h:Heap)(b:Bool)(a:Pz):Heap:=h.push {cls:=.type (wO b),data:=.fields #[.ref a,.int 0 0]}
abbrev MG(h:Heap)(e d:Bool)(b a:Pz):Heap:=(NK h e b).push {cls:=.type (wO d),data:=.fields #[.ref a,.int 0 0]}
abbrev ND(h:Heap)(b e:Bool)(a d:Pz):Heap:=(MG h b e a d).push {cls:=.type "tuple",data:=.seq #[.ref h.objs.size,.ref (NK h b a).objs.size]}
abbrev MC(h:Heap)(e d:Bool)(b a:Pz):Heap:=(ND h e d b a).push {cls:=.type "tuple",data:=.seq #[.none,.none]}
abbrev OG(h:Heap)(e d:Bool)(b a:Pz):Heap:=(MC h e d b a).push {cls:=.type "zip",data:=.fields #[.none,.bool Py,.bool Py,.ref (MG h e d b a).objs.size,.ref (ND h e d b a).objs.size]}
theorem qR(e f:Bool)(a b:Pz)(xs ys:Array Pq):
  Meets (Qe.«zip.__new__» ⟨[.type "zip",.ref a,.ref b],[]⟩) (λ_ R s=>sqAt e s.heap a xs/\sqAt f s.heap b ys/\R (.ok (.ret (.ref (MC s.heap e f a b).objs.size))) {s with heap:=OG s.heap e f a b}):=
 .of_wp λm w A R s h=>by
  obtain⟨o,g,d,l,n⟩:=s;obtain⟨r,q,h⟩:=h;have p:=sub_zip;have j:sqAt e (Px.heap ⟨o,g,d,l,n⟩) a xs:=r;have i:sqAt f (Px.heap ⟨o.push {cls:=.type (wO e),data:=.fields #[.ref a,.int 0 0]},g,d,l,n⟩) b ys:=sqAt.psh q _
  wp_walk using Bl j,Bl i
  exact⟨_,rfl,h⟩
section
variable{prog:Qc}{w:Qt}{A:Ql}{E:Pq->Px->Prop}{s:Px}
theorem Fr(e:h.get? it=Bn {cls:=.type (wO b),data:=.fields #[.ref l,.int 0 0]}):itAt b h it l 0:=by
 cases b with
 |true=>exact⟨_,e,rfl,rfl⟩
 |false=>exact⟨_,e,rfl,rfl⟩
theorem CK(v:sqAt b1 s.heap l1 xs)(u:sqAt b2 s.heap l2 ys)
  (q:∀h',Xy h' (s.heap.objs.size+4) (s.heap.objs.size+2) (s.heap.objs.size+3) .none->IsPair h' (s.heap.objs.size+2) (.ref s.heap.objs.size) (.ref (s.heap.objs.size+1))->
   IsPair h' (s.heap.objs.size+3) .none .none->itAt b1 h' s.heap.objs.size l1 0->itAt b2 h' (s.heap.objs.size+1) l2 0->(∀c o,s.heap.get? c=Bn o->h'.get? c=Bn o)->Q (.ref (s.heap.objs.size+4)) {s with heap:=h'}):
  wpAny (model prog w) A (call (.type "zip") [.ref l1,.ref l2]) Q E s:=by
 refine callType_new F.called_zip (by decide) (F.typeCall_zip_2 _ _) (F.newCall_zip_2 _ _) (λobj=>F.args_object_init_3 obj _ _) F.entry_zip_new (qR b1 b2 l1 l2 xs ys) ⟨v,u,?_⟩;have h:(NK s.heap b1 l1).objs.size=s.heap.objs.size+1:=b7 ..;have g:(MG s.heap b1 b2 l1 l2).objs.size=s.heap.objs.size+2:=by rw[b7,h]
 have f:(ND s.heap b1 b2 l1 l2).objs.size=s.heap.objs.size+3:=by rw[b7,g]
 have l:(MC s.heap b1 b2 l1 l2).objs.size=s.heap.objs.size+4:=by rw[b7,f]
 have r:∀c o,s.heap.get? c=Bn o->(NK s.heap b1 l1).get? c=Bn o:=λc o e=>br _ e;have j:∀c o,(NK s.heap b1 l1).get? c=Bn o->(MG s.heap b1 b2 l1 l2).get? c=Bn o:=λc o e=>br _ e;have d:∀c o,(MG s.heap b1 b2 l1 l2).get? c=Bn o->(ND s.heap b1 b2 l1 l2).get? c=Bn o:=λc o e=>br _ e;have b:∀c o,(ND s.heap b1 b2 l1 l2).get? c=Bn o->(MC s.heap b1 b2 l1 l2).get? c=Bn o:=λc o e=>br _ e;have a:∀c o,(MC s.heap b1 b2 l1 l2).get? c=Bn o->(OG s.heap b1 b2 l1 l2).get? c=Bn o:=λc o e=>br _ e;have i:(OG s.heap b1 b2 l1 l2).get? (MC s.heap b1 b2 l1 l2).objs.size=Bn _:=b0 _ rfl;have m:=a _ _ (b0 _ rfl);have n:=a _ _ (b _ _ (b0 _ rfl));have p:=a _ _ (b _ _ (d _ _ (b0 _ rfl)));have t:=a _ _ (b _ _ (d _ _ (j _ _ (b0 _ rfl))));rw[g,f,l]at i;rw[h,g]at n;rw[f]at m;rw[h]at p;rw[l];exact⟨⟨_,i,rfl⟩,q _ i n m (Fr t) (Fr p) λc o e=>a _ _ (b _ _ (d _ _ (j _ _ (r _ _ e))))⟩
end
end PySem
namespace L3
open PySem PySem.Spec PyProof.Rows L2
def C7(b:Bool)(K:Po)(H:Hp)(a:Pz)(xs:bb V):Prop:=match b with
 |true=>Uj K H a xs
 |false=>T6 K H a xs
def Oq(K:Po)(d b:Bool)(a c:Pz):It:=
 ⟨λi H=>∃xs ys x y,C7 d K H a xs/\C7 b K H c ys/\xs[i]?=Bn x/\ys[i]?=Bn y,
  λi H v e=>∃p x y,H p=Pn/\v=.ref p/\(∀xs,C7 d K H a xs->xs[i]?=Bn x)/\(∀ys,C7 b K H c ys->ys[i]?=Bn y)/\e=bS H p (.tup [x,y]),
  λi H=>∃xs ys,C7 d K H a xs/\C7 b K H c ys/\(xs.length<=i\/ys.length<=i)⟩
theorem GQ(I:Inv X pins σ H s)(h1:T6 X.K H a xs)(h:T6 X.K H a ys):xs=ys:=by
 obtain⟨e,g,⟨o,k,i,_,n,l⟩,_⟩:=I.list h1;obtain⟨d,f,⟨m,r,b,_,p,j⟩,_⟩:=I.list h;rw[i]at b;cases b;have:e=d:=by
  have q:e.toArray=d.toArray:=by injection l.symm.trans j
  simpa using q
 subst this;exact g.inj f
theorem nX(I:Inv X pins σ H s)(h:C7 b X.K H a xs):∃Qw,Vals xs Qw/\sqAt b s.heap a Qw.toArray:=by
 cases b with
 |true=>obtain⟨Qw,rv,p,d⟩:=I.tuple h;exact⟨Qw,rv,p⟩
 |false=>obtain⟨Qw,rv,p,d⟩:=I.list h;exact⟨Qw,rv,p.isList⟩
theorem BC(I:Inv X pins σ H s)(h1:C7 b X.K H a xs)(d:C7 b X.K H a ys):xs=ys:=by
 cases b with
 |true=>exact Ig I h1 d
 |false=>exact GQ I h1 d
theorem Cq{ch:bb Pz}(I:Inv X pins σ H s)(d:∀b∈ch,oA X pins H b)
  (k:∀b u,b∉ch->s.heap.get? b=Bn u->h'.get? b=Bn u):Inv X pins σ H {s with heap:=h',toks:=t'}:=by
 have g:∀b u,H b=Bn u->b∉ch:=λb u e z=>by rw[(d b z).1]at e;cases e
 refine I.step (λb i=>?_) (λb u _ _ a e _=>k b u a e) (λb u _ _ a e _=>⟨u.slots,k b u a e⟩) (λ_ _ _ _ n=>n)
  (λb u a e=>⟨u,k b u a e⟩) (λ_ _ e=>e) (λ_ _ _ e=>e) (λb ps e=>⟨#[],by rw[e];simp⟩) (λm hm=>?_) (λb u e=>?_) I.bare
 .obtain⟨_,p,_,o,l,j⟩:=d b i;exact⟨o,p,l,j⟩
 .obtain⟨f,t,w,h,r⟩:=hm;exact⟨f,t,w,k _ f (λz=>(d _ z).2.1 rfl) h,r⟩
 .refine(I.Ro b u e).XR (λc v a q=>k c v ?_ q) (λ_ q=>q) λ_ _ q=>q
  rcases a with z|z
  .rw[z];exact g b u e
  .exact g c _ z
theorem E1{K:Po}{kk}(b1 b2:Bool)(z TI TO A r S R:Pz)(D:Wg z TI TO A r S R):
  Turn P w K (.Tuple elts kk tp) (Oq K b1 b2 S R) [z,TI,TO,A,r] z (λi h=>Xy h z TI TO .none/\IsPair h TI (.ref A) (.ref r)/\(∃a b,IsPair h TO a b)/\itAt b1 h A S i/\itAt b2 h r R i) where
 mem:=by simp
 obj:=λi h st b d=>by
  obtain⟨j,f,⟨a,c,l⟩,p,m⟩:=st;simp only[P1,Rj,or_false]at d;rcases d with rfl|rfl|rfl|rfl|rfl
  .exact⟨_,j,λv q=>by cases(show Data.fields _=Data.cell v from q)⟩
  .exact⟨_,f,λv q=>by cases(show Data.seq _ _=Data.cell v from q)⟩
  .exact⟨_,l,λv q=>by cases(show Data.seq _ _=Data.cell v from q)⟩
  .exact p.live
  .exact m.live
 keep:=λi h h' st k=>by obtain⟨j,f,⟨a,c,l⟩,p,m⟩:=st;exact⟨k z (by simp) _ j,k TI (by simp) _ f,⟨a,c,k TO (by simp) _ l⟩,p.to λo q=>k A (by simp) o q,m.to λo q=>k r (by simp) o q⟩
 item:=by
  intro X hP Y hK hc i g s σ H E I L st hg;subst hP Y hK;obtain⟨j,f,⟨a,c,l⟩,p,m⟩:=st;obtain⟨xs,ys,x,y,G,F,hx,hy⟩:=hg;obtain⟨Qw,N,Q⟩:=nX I G;obtain⟨C,M,O⟩:=nX I F;obtain⟨u,hu,ru⟩:=N.get hx;obtain⟨t,ht,rt⟩:=M.get hy;refine xm D j f l p m Q O (by simpa using hu) (by simpa using ht) λk z1 o1 g1 g2 pr sz J=>⟨_,rfl,?_⟩;refine wpAny_letOwnedTupleGo_zip z1 λB z2 e2=>?_;have T:=bP j;have hIl:=bP f;have hOl:=bP l;have h1l:A<s.heap.objs.size:=by obtain⟨_,q,_⟩:=p.live;exact bP q
  have h2l:r<s.heap.objs.size:=by obtain⟨_,q,_⟩:=m.live;exact bP q
  have hn:=I.Ro.fresh (PF _);have kk:∀b o,b∉[z,TI,TO,A,r]->s.heap.get? b=Bn o->B.get? b=Bn o:=λb o d q=>by simp only[P1,Rj,or_false,not_or]at d;exact(e2.2 b d.1).trans (J b o d.1 d.2.2.1 d.2.2.2.1 d.2.2.2.2 q)
  have hT2:=(e2.2 _ (Q0 T)).trans pr
  have I2:Inv X g σ (bS H s.heap.objs.size (.tup [x,y])) {s with heap:=B}:=
   I.XS L kk (PF _) ⟨by show 2<=PZ;decide,[u,t],.cons ru (.cons rt .nil),⟨_,hT2,⟨rfl,_,rfl⟩,rfl⟩⟩
  have e:∀b o,b≠z->k.get? b=Bn o->B.get? b=Bn o:=λb o n q=>(e2.2 b n).trans q;refine⟨.ref s.heap.objs.size,_,I2,rfl,⟨_,x,y,hn,rfl,λzs Z=>by rw[BC I Z G];exact hx,λzs Z=>by rw[BC I Z F];exact hy,rfl⟩,
   ⟨z2,e _ _ D.TIz (J _ _ D.TIz D.TITO D.TIi1 D.TIi2 f),⟨_,_,e _ _ D.TOz o1⟩,g1.to λo q=>e _ _ D.i1z q,g2.to λo q=>e _ _ D.i2z q⟩,λb d=>?_⟩
  have hb2:b<s.heap.objs.size:=by simp only[P1,Rj,or_false]at d;rcases d with rfl|rfl|rfl|rfl|rfl<;>assumption
  rw[a9 (P5 hb2)];exact(L b d).1
 done:=by
  intro X hP Y hK hc i g s σ H E I L st hg;subst hP Y hK;obtain⟨j,f,⟨a,c,l⟩,p,m⟩:=st;obtain⟨xs,ys,G,F,U⟩:=hg;obtain⟨Qw,N,Q⟩:=nX I G;obtain⟨C,M,O⟩:=nX I F;have Wx:=N.length;have XD:=M.length;have hd:Qw.toArray[i]?=Pn\/C.toArray[i]?=Pn:=by
   rcases U with q|q
   .exact .inl (by simp;ext)
   .exact .inr (by simp;ext)
  refine xX (I.ok.hd hc) D j f l p m Q O hd λk J=>⟨rfl,?_⟩;exact Cq I L λb o d q=>by simp only[P1,Rj,or_false,not_or]at d;exact J b o d.1 d.2.2.1 d.2.2.2.1 d.2.2.2.2 q
 self:=λ_ _ _ _ _ st h=>abz st.1 h
theorem Ci(n b a:Nat)(h1:b<n)(d:a<n):Wg (n+4) (n+2) (n+3) n (n+1) b a:=by constructor<;>(show(_:Nat)≠_;ext)
def J7(K:Po)(e:TA):TI:=λd H R=>e d H λvs b=>∃a c b1 b2,vs=[.ref a,.ref c]/\(∃xs,C7 b1 K b a xs)/\(∃ys,C7 b2 K b c ys)/\R (Oq K b1 b2 a c) b
theorem FP:QY "zip"=Bn (.type "zip"):=by left
theorem KH{kk}(P:Gl X "zip")(hm:X.mg "zip"=Pn)(ha:PA X [l,m] ta)(M:Qp [l,m] X.env=(Py,eval l X.env)::Qp [m] X.env:=by rfl)(N:(backTo pos (Qp [m] X.env)).any (·.1)=Py:=by rfl):
  PI X (.Tuple elts kk tp) (.Call (.Name "zip" p) [l,m] [] pos) (J7 X.K ta):=by
 intro d s w H R I h;refine Call_ (rX I P hm FP (S4 (dF (ha pos d s w H _ I h) λZ f ⟨vs,v,i,E,F⟩=>?_) M N));obtain⟨a,c,U,T,e,⟨xs,B⟩,⟨Y,A⟩,q⟩:=F;subst e;obtain⟨u,t,rfl,C,rt⟩:=JA E;cases C;cases rt;obtain⟨Qw,rx,o⟩:=nX i B;obtain⟨L,ry,n⟩:=nX i A;have S:∀b∈[f.heap.objs.size+4,f.heap.objs.size+2,f.heap.objs.size+3,f.heap.objs.size,f.heap.objs.size+1],oA X d v b:=λb r=>by
  have g:f.heap.objs.size<=b:=by simp only[P1,Rj,or_false]at r;have Q:=r;ext
  exact i.Yv g (i.Ro.fresh g)
 refine CK o n λh1 j J G z y O=>?_;refine abz j ?_;exact⟨f.heap.objs.size+4,_,_,_,v,rfl,i.kept O,E1 U T _ _ _ _ _ a c (Ci _ _ _ o.lt n.lt),⟨j,J,⟨_,_,G⟩,z,y⟩,S,q⟩
def M9:QK->Bool
 |.Starred _ _=>Pr
 |_=>Py
theorem tW(e:QK)(a:bb QK)(env:Env)(h:M9 e=Py):Qp (e::a) env=(Py,eval e env)::Qp a env:=by cases e<;>first|rfl|cases h
def mr:bb D->bb D->bb D
 |x::r,y::q=>.tuple [x,y]::mr r q
 |_,_=>[]
theorem yh:∀(xs ys:bb D),(mr xs ys).length=min xs.length ys.length
 |[],_=>by simp[mr]
 |_::_,[]=>by simp[mr]
 |_::r,_::q=>by simp only[mr,PN,yh r q];ext
theorem wI:∀(xs ys:bb D) (i:Nat),(mr xs ys)[i]?=(xs[i]?).bind λx=>(ys[i]?).map λy=>.tuple [x,y]
 |[],_,_=>by simp[mr]
 |x::r,[],i=>by cases i<;>simp[mr]
 |x::r,y::q,0=>by simp[mr]
 |x::r,y::q,i+1=>by simp only[mr,Us];exact wI r q i
section
variable{K:Po}{E:XK}{B O Z:b8}{H0 H Y:Hp}{σ:L2.St}{ρ ρ':aO}{v:V}
def Xp(b:Bool)(O:b8)(K:Po)(H:Hp)(a:Pz)(xs:bb V):Prop:=match b with
 |true=>UQ O K H a xs
 |false=>VT O K H a xs
theorem Xp.ev(h:Xp b O K H a xs)(e:Ev O H Z Y):Xp b Z K Y a xs:=by
 cases b with
 |true=>exact UQ.ev h e
 |false=>exact VT.ev h e
theorem Xp.at(h:Xp b O K H a xs):C7 b K H a xs:=by
 cases b with
 |true=>exact(show UQ O K H a xs from h).1
 |false=>exact(show VT O K H a xs from h).1.sq
theorem Ka(h:Xp b1 O K H a xs)(hd:Rk O K H xs ds)(g:Xp b2 O K H c ys)(z:Rk O K H ys es):zr K (Oq K b1 b2 a c) O H (mr ds es):=by
 intro Z Y e n;have d:=h.ev e;have C:=hd.ev e;have j:=g.ev e;have f:=z.ev e;rw[yh];refine⟨λi hi=>?_,⟨xs,ys,d.at,j.at,?_⟩⟩
 .have r:i<ds.length:=by ext
  have o:i<es.length:=by ext
  obtain⟨x,w,dx⟩:=C.get (PM r);obtain⟨y,u,A⟩:=f.get (PM o);refine⟨⟨xs,ys,x,y,d.at,j.at,w,u⟩,?_⟩;rintro t I ⟨p,G,F,b,rfl,Xm,hy',rfl⟩;have m:=Xm xs d.at;have l:=hy' ys j.at;rw[w]at m;rw[u]at l;cases m;cases l;refine⟨bV b _,.tuple [ds[i],es[i]],?_,.tup ⟨Uj.of aJ,λq=>a5 q (n p b)⟩ (.cons (dx.ev (Ev.grow (bV b _))) (.cons (A.ev (Ev.grow (bV b _))) .nil))⟩;rw[wI,PM r,PM o];rfl
 .rw[hd.length,z.length];ext
theorem Jm(h:DV O K H v d)(q:fL d=Bn ds):∃b a xs,v=.ref a/\Xp b O K H a xs/\Rk O K H xs ds:=by
 cases h with
 |tup h e=>cases q;exact⟨Pr,_,_,rfl,h,e⟩
 |lst h e=>cases q;exact⟨Py,_,_,rfl,h,e⟩
 |_=>cases q
def Ef(fa:FA):FI:=λρ=>(fa ρ).bind λa=>(Res.QL (pI a.2 a.1)).bind λb=>match b.1 with
 |[d,e]=>(Res.QL (fL d)).bind λds=>(Res.QL (fL e)).bind λf=>.ok (mr ds f,b.2)
 |_=>.bad
theorem KM(h:AO K E ta fa):IO K E (J7 K ta) (Ef fa):=by
 intro B H0 O σ H ρ M R w;refine h B H0 O σ H ρ _ R (w.bind.imp λa b N vs I p F l=>?_);obtain⟨⟨ds,g⟩,q,b⟩:=b.QL;obtain⟨G,o,R2,r⟩:=rH F l q;dsimp only at b;cases r with
 |nil=>exact b.elim
 |cons n d=>
  cases d with
  |nil=>exact b.elim
  |cons d m=>
   cases m with
   |cons _ _=>exact b.elim
   |nil=>obtain⟨L,j,b⟩:=WR.QL b;obtain⟨fs,i,b⟩:=WR.QL b;obtain⟨z,C,xs,rfl,f,u⟩:=Jm n j;obtain⟨y,A,J,rfl,e,t⟩:=Jm d i;exact⟨C,A,z,y,rfl,⟨_,f.at⟩,⟨_,e.at⟩,b G _ I (p.trans o) R2 (Ka f u e t)⟩
def kx(d e:D):bg RV:=match d,e with
 |.str z,.int i=>if z.length<=1000000 then(lO z.cps.toList i).map λc=>.fz (.str ⟨#[c]⟩)else Pn
 |_,_=>Pn
theorem AB:nM K (N8 K) kx:=by
 intro O H x y dx f rv Q n b a e q;unfold kx at e;split at e
 .split at e
  .rename_i z i d
   cases qa:lO z.cps.toList i with
   |none=>rw[qa]at e;cases e
   |some c=>rw[qa]at e;cases e;cases b;cases a;exact .inr (.inr ⟨z,i,c,rfl,rfl,A0 d,qa,q.at (.str _)⟩)
  .cases e
 .cases e
end
end L3
namespace L3
open PySem L2
def OP(N C:aO->Prop)(T:RV->Prop):Res Fl->Prop
 |.ok (.nx ρ)=>N ρ
 |.ok (.ct ρ)=>C ρ
 |.ok (.rt v)=>T v
 |_=>False
structure Go(r:Res Fl)(N C:aO->Prop)(T:RV->Prop):Prop where
 out:OP N C T r
section
variable{ρ ρ1 Z ρ3:aO}{f g:FS}{fe:FE}{pv:PV}{d:D}{rv:RV}{ds:bb D}{N C:aO->Prop}{T:RV->Prop}
theorem Go.eq(e:r=r')(h:Go r' N C T):Go r N C T:=by rw[e];exact h
theorem Go.imp(h:Go r N C T)(b:∀ρ,N ρ->N' ρ)(e:∀ρ,C ρ->C' ρ)(a:∀v,T v->T' v):Go r N' C' T':=by
 refine⟨?_⟩;have h:=h.out;cases r with
 |bad=>exact h
 |er x=>exact h
 |ok i=>
  cases i with
  |nx r=>exact b _ h
  |ct r=>exact e _ h
  |rt v=>exact a _ h
  |bk r=>exact h
theorem zQ(h:Go (f ρ) (λr=>Go (g r) N C T) C T):Go (bp f g ρ) N C T:=by
 refine⟨?_⟩;have h:=h.out;unfold bp;cases q:f ρ with
 |bad=>rw[q]at h;exact h.elim
 |er x=>rw[q]at h;exact h.elim
 |ok a=>
  rw[q]at h;cases a with
  |nx r=>exact(show Go (g r) N C T from h).out
  |ct r=>exact h
  |rt v=>exact h
  |bk r=>exact h.elim
theorem yw(h:c ρ=.ok (b,ρ1))(a:b=Pr->Go (f ρ1) N C T)(e:b=Py->Go (g ρ1) N C T):Go (jv c f g ρ) N C T:=by
 unfold jv;rw[h,dt];cases b with
 |true=>exact a rfl
 |false=>exact e rfl
theorem Ew(b:fe ρ=.ok (pv,ρ1))(a:gt pv ρ1=.ok Z)(h:N Z):Go (cQ fe gt ρ) N C T:=.eq (rB b a rfl) ⟨h⟩
theorem k6(a:fe ρ=.ok (pv,ρ1))(h:N ρ1):Go (gJ fe ρ) N C T:=.eq (ve a) ⟨h⟩
theorem eh(b:fe ρ=.ok (pv,ρ1))(a:B5 ρ1 pv=Bn rv)(h:T rv):Go (c9 fe ρ) N C T:=.eq (wu b a) ⟨h⟩
theorem AF(h:N ρ):Go (dw ρ) N C T:=⟨h⟩
theorem BW(I:Nat->aO->Prop):∀(ds:bb D) (k:Nat) (ρ:aO),I k ρ->(∀i d ρ,ds[i]?=Bn d->I (k+i) ρ->∃ρ1,gt (.fz d) ρ=.ok ρ1/\Go (b ρ1) (I (k+i+1)) (I (k+i+1)) T)->Go (pF gt b ds ρ) (I (k+ds.length)) C T
 |[],k,ρ,h0,_=>⟨h0⟩
 |d::r,k,ρ,h0,hs=>by
  obtain⟨ρ1,o,a⟩:=hs 0 d ρ rfl h0;have a:=a.out;have l:∀j,I (k+1) j->Go (pF gt b r j) (I (k+(r.length+1))) C T:=λj h=>by
   have e:k+(r.length+1)=k+1+r.length:=by ext
   rw[e];refine BW I r (k+1) j h λi t m hi n=>?_;have e:k+1+i=k+(i+1):=by ext
   rw[e]at n⊢;exact hs (i+1) t m (by simpa using hi) n
  refine⟨?_⟩;show OP _ _ _ ((gt (.fz d) ρ).bind _);rw[o,dt];cases q:b ρ1 with
  |bad=>rw[q]at a;exact a.elim
  |er x=>rw[q]at a;exact a.elim
  |ok p=>
   rw[q]at a;cases p with
   |nx r=>exact(l _ a).out
   |ct r=>exact(l _ a).out
   |rt v=>exact a
   |bk r=>exact a.elim
theorem LA(I:Nat->aO->Prop)(hi:fi ρ=.ok (ds,ρ1))(j:I 0 ρ1)(a:∀i d ρ,ds[i]?=Bn d->I i ρ->∃ρ1,gt (.fz d) ρ=.ok ρ1/\Go (b ρ1) (I (i+1)) (I (i+1)) T)(e:∀ρ',I ds.length ρ'->N ρ'):Go (mV fi gt b ρ) N C T:=by have:=BW (C:=C) I ds 0 ρ1 j (by simpa using a);rw[Xz]at this;exact .eq (yY hi) (this.imp e (λ_ h=>h) λ_ h=>h)
theorem jY(a:ds.map (λd=>Bn (.fz d))++PK (n - ds.length) Pn=ρ)(h:Go (g ρ) (λ_=>T (.fz .none)) (λ_=>False) T):∃rv,fC n g ds=.ok rv/\T rv:=by
 have h:=h.out;unfold fC;rw[a];cases q:g ρ with
 |bad=>rw[q]at h;exact h.elim
 |er x=>rw[q]at h;exact h.elim
 |ok b=>
  rw[q]at h;cases b with
  |nx r=>exact⟨_,rfl,h⟩
  |ct r=>exact h.elim
  |rt v=>exact⟨_,rfl,h⟩
  |bk r=>exact h.elim
theorem jD(a:ds.map (λd=>Bn (.fz d))++PK (n - ds.length) Pn=ρ)(h:Go (g ρ) (λ_=>RV.fz .none=v) (λ_=>False) (λr=>r=v)):fC n g ds=.ok v:=by obtain⟨rv,e,b⟩:=jY (T:=λr=>r=v) a h;rw[e,b]
theorem bB(b:fe ρ=.ok (pv,ρ1))(a:gt pv ρ1=.ok Z)(hn:Z=ρ3)(h:Go (g ρ3) N C T):Go (bp (cQ fe gt) g ρ) N C T:=.eq (zj (rB b a hn)) h
theorem vq(a:fe ρ=.ok (pv,ρ1))(h:Go (g ρ1) N C T):Go (bp (gJ fe) g ρ) N C T:=.eq (zj (ve a)) h
theorem fY(b:fe ρ=.ok (pv,ρ1))(a:B5 ρ1 pv=Bn rv)(h:T rv):Go (bp (c9 fe) g ρ) N C T:=.eq (Dl (wu b a)) ⟨h⟩
theorem cS(h:Go (g ρ) N C T):Go (bp dw g ρ) N C T:=.eq rfl h
theorem gK(i:c ρ=.ok (b,ρ1))(a:b=Pr->Go (bp f1 g ρ1) N C T)(h:b=Py->Go (bp f2 g ρ1) N C T):Go (bp (jv c f1 f2) g ρ) N C T:=by
 have e:bp (jv c f1 f2) g ρ=if b=Pr then bp f1 g ρ1 else bp f2 g ρ1:=by unfold bp jv;rw[i,dt];cases b<;>rfl
 refine .eq e ?_;cases b with
 |true=>exact a rfl
 |false=>exact h rfl
theorem l4(I:Nat->aO->Prop)(hi:fi ρ=.ok (ds,ρ1))(h:I 0 ρ1)(a:∀i d ρ,ds[i]?=Bn d->I i ρ->∃ρ1,gt (.fz d) ρ=.ok ρ1/\Go (b ρ1) (I (i+1)) (I (i+1)) T)(e:∀ρ',I ds.length ρ'->Go (g ρ') N C T):Go (bp (mV fi gt b) g ρ) N C T:=
 zQ (LA I hi h a e)
theorem tK(I:aO->Prop)(P:Nat->D->Prop):∀(ds:bb D) (k:Nat) (ρ:aO) (a:bb D),I ρ->a.length+ds.length<=1000000->(∀i d,ds[i]?=Bn d->∀ρ,I ρ->∃x ρ',kT gt ft fe d ρ=.ok (Bn x,ρ')/\I ρ'/\P (k+i) x)->
  ∃xs,dG gt ft fe ds ρ a=.ok (a++xs)/\xs.length=ds.length/\∀i x,xs[i]?=Bn x->P (k+i) x
 |[],k,ρ,a,_,_,_=>⟨[],by show Res.ok a=_;simp,rfl,λi x h=>by simp at h⟩
 |d::r,k,ρ,a,h0,hl,hs=>by
  obtain⟨x,ρ',o,n,m⟩:=hs 0 d rfl ρ h0;rw[PN]at hl;obtain⟨xs,t,q,p⟩:=tK I P r (k+1) ρ' (a++[x]) n (by rw[PJ];simp;ext) λi u hi b l=>by
   have e:k+1+i=k+(i+1):=by ext
   rw[e];exact hs (i+1) u (by simpa using hi) b l
  refine⟨x::xs,?_,by rw[PN,q,PN],λi y j=>?_⟩
  .rw[rE o (by ext)];show dG gt ft fe r ρ' (a++[x])=_;rw[t,QS];rfl
  .cases i with
   |zero=>cases(show Bn x=Bn y from j);exact m
   |succ i=>
    have e:k+(i+1)=k+1+i:=by ext
    rw[e];exact p i y (by simpa using j)
theorem yq(I:aO->Prop)(P:Nat->D->Prop)(e:I ρ)(b:ds.length<=1000000)(a:∀i d,ds[i]?=Bn d->∀ρ,I ρ->∃x ρ',kT gt ft fe d ρ=.ok (Bn x,ρ')/\I ρ'/\P i x):
  ∃xs,kh (dG gt ft fe ds ρ [])=.ok xs/\xs.length=ds.length/\∀i x,xs[i]?=Bn x->P i x:=by
 obtain⟨xs,l,j,h⟩:=tK I P ds 0 ρ [] e (by simpa using b) (by simpa using a);exact⟨xs,by rw[l];rfl,j,by simpa using h⟩
theorem uK{α:Type}{f:α->D}{Q:Nat->α->Prop}:∀(xs:bb D) (k:Nat),(∀i x,xs[i]?=Bn x->∃a,x=f a/\Q (k+i) a)->∃as:bb α,xs=as.map f/\∀i a,as[i]?=Bn a->Q (k+i) a
 |[],_,_=>⟨[],rfl,λi a h=>by simp at h⟩
 |x::r,k,h=>by
  obtain⟨a,e,q⟩:=h 0 x rfl;obtain⟨as,n,l⟩:=uK (f:=f) (Q:=Q) r (k+1) λi y m=>by
   have e:k+1+i=k+(i+1):=by ext
   rw[e];exact h (i+1) y (by simpa using m)
  refine⟨a::as,by rw[e,n];rfl,λi b j=>?_⟩;cases i with
  |zero=>cases(show Bn a=Bn b from j);exact q
  |succ i=>
   have e:k+(i+1)=k+1+i:=by ext
   rw[e];exact l i b (by simpa using j)
theorem NX(ha:Pw.strOk a=Pr)(e:Pw.strOk b=Pr):cx (.str a) (.str b)=Bn (.fz (.bool (a==b))):=by unfold cx;rw[show iE (.str a)=Pr by unfold iE;rw[show Pw.canLay0 (.str a)=Pr from ha];rfl,show Pw.canLay0 (.str b)=Pr from e,RU,av rfl];rfl
theorem J0(ha:Pw.strOk a=Pr):cx (.str a) (.str a)=Bn (.fz (.bool Pr)):=by rw[NX ha ha,dn]
theorem BJ(ha:Pw.strOk a=Pr)(e:Pw.strOk b=Pr)(h:(a==b)=Py):cx (.str a) (.str b)=Bn (.fz (.bool Py)):=by rw[NX ha e,h]
theorem BU{α:Type}{xs:bb α}{i:Int}{v:α}(a:0<=i)(h:xs[i.toNat]?=Bn v):lO xs i=Bn v:=Lc a h
theorem Nr(a:0<=i)(h:ds[i.toNat]?=Bn d):bc (.list ds) (.int i)=Bn (.fz d):=by show(lO ds i).map RV.fz=_;rw[BU a h];rfl
theorem wg(a:0<=n)(h:n<=1000000):gQ [.int n]=Bn (aR (P0 n.toNat)):=by rw[Bz (by unfold jJ;ext),xP]
theorem IK{s:bb Nat}(e:s.Pairwise (·<·))(h:∀k∈s,k<n):s.length<=n:=by
 have:∀(s:bb Nat) (a:Nat),s.Pairwise (·<·)->(∀k∈s,a<=k/\k<n)->s.length<=n - a:=by
  intro s
  induction s with
  |nil=>intro a _ _;exact Qu _
  |cons x r i=>intro a e h;obtain⟨l,j⟩:=QZ.mp e;have m:=h x PH;have:=i (x+1) j λk b=>⟨l k b,(h k (PD _ b)).2⟩;rw[PN];ext
 exact this s 0 e λk b=>⟨Qu _,h k b⟩
theorem B3(ha:fr ρ=.ok (ps,ρ1))(hd:pI ρ1 ps=Bn ([d,e],Z))(b:fL d=Bn es)(a:fL e=Bn fs):Ef fr ρ=.ok (mr es fs,Z):=by unfold Ef;rw[ha,dt,hd,aL,dt];dsimp only;rw[b,aL,dt,a,aL,dt]
theorem EN{f g:D->D->bg RV}(ha:fa ρ=.ok (pa,ρ))(i:fb ρ=.ok (pb,ρ))(h:fc ρ=.ok (pc,ρ))(hx:tD ρ (cj pa)=Bn dx)(a:tD ρ (cj pb)=Bn dy)(hz:tD ρ pc=Bn dz)(e:f dx dy=Bn (.fz (.bool b1)))(b:b1=Pr->g dy dz=Bn (.fz (.bool b2))):oO f g fa fb fc ρ=.ok (.fz (.bool (b1&&b2)),ρ):=by
 unfold oO;rw[ha,dt,i,dt];dsimp only;rw[hx,aL,dt,a,aL,dt,e,aL,dt];cases b1 with
 |false=>rfl
 |true=>dsimp only;rw[h,dt];dsimp only;rw[a,aL,dt,hz,aL,dt,b rfl,aL,dt];rfl
end
end L3
namespace L3
open PySem PySem.Spec PyProof.Rows L2 PySem.Builtin PySem.Builtin.Str
section
variable{K:Po}{E:XK}{B O O':b8}{H0 H H':Hp}{σ:L2.St}{ρ ρ':aO}{v:V}
def nZ:bb D->bg (bb Str)
 |[]=>Bn []
 |.str b::r=>(nZ r).map (b::·)
 |_=>Pn
theorem u7{O:b8}{H:Hp}:∀{xs:bb V} {ds:bb D} {bs:bb Str},Rk O K H xs ds->nZ ds=Bn bs->xs=bs.map V.str
 |_,_,_,.nil,e=>by cases e;rfl
 |_,_,bs,.cons (vs:=vs) (ds:=r) h t,e=>by
  cases h with
  |str b=>
   have a:(nZ r).map (b::·)=Bn bs:=e;cases q:nZ r with
   |none=>rw[q]at a;cases a
   |some d=>rw[q]at a;cases a;rw[u7 t q];rfl
  |_=>cases e
end
end L3
namespace L2
open PySem PySem.Spec PyProof.Rows
section
variable{κ:Type}[DecidableEq κ]
def ki(Qk:bb (κ×V))(k:κ):bg V:=(Qk.find? λa=>decide (a.1=k)).map (·.2)
def jo(Qk:bb (κ×V))(k:κ)(v:V):bb (κ×V):=
 if(Qk.any λa=>decide (a.1=k))=Pr then Qk.map (λa=>if a.1=k then(a.1,v)else a)else Qk++[(k,v)]
def nA(Qk:bb (κ×V))(k:κ):bb (κ×V):=Qk.filter λa=>decide (a.1≠k)
theorem rl{k:κ}(e:p.1=k):ki (p::r) k=Bn p.2:=by simp[ki,Rr,e]
theorem rM{k:κ}(e:¬p.1=k):ki (p::r) k=ki r k:=by simp[ki,Rr,e]
theorem xI(k:κ):∀Qk:bb (κ×V),(Qk.any λkv=>decide (kv.1=k))=(ki Qk k).isSome
 |[]=>rfl
 |p::r=>by
  rw[Rm];by_cases e:p.1=k
  .simp only[rl e,aP e,TF,X3]
  .rw[rM e,a3 e,Ug];exact xI k r
theorem ky(Qk:bb (κ×V))(k:κ)(v:V):(jo Qk k v).length<=Qk.length+1:=by
 unfold jo;split
 .rw[Pp];ext
 .rw[PJ,PN,QA];ext
theorem UR.Vz(r:UR o u):o.isSome=u.isSome:=by
 cases o with
 |none=>cases u with
  |none=>rfl
  |some _=>exact(show False from r).elim
 |some _=>cases u with
  |none=>exact(show False from r).elim
  |some _=>rfl
theorem KV.val{Qk:bb (κ×V)}{vs:bb (κ×Pq)}(r:KV Qk vs)(k:κ):UR (ki Qk k) (valueAt vs k):=by
 unfold KV at r
 induction r with
 |nil=>exact True.intro
 | @cons p q ps qs h t ih=>
  obtain⟨d,f⟩:=h;by_cases e:p.1=k
  .have a:q.1=k:=d.symm.trans e
   have b:valueAt (q::qs) k=Bn q.2:=by simp[valueAt,Rr,a]
   rw[rl e,b];exact f
  .have a:¬q.1=k:=λz=>e (d.trans z)
   have b:valueAt (q::qs) k=valueAt qs k:=by simp[valueAt,Rr,a]
   rw[rM e,b];exact ih
theorem KV.any(r:KV Qk vs)(k:κ):(Qk.any λkv=>decide (kv.1=k))=vs.any λkv=>decide (kv.1=k):=by
 unfold KV at r
 induction r with
 |nil=>rfl
 |cons h t a=>rw[Rm,Rm,a,h.1]
theorem KV.aay(r:KV Qk vs)(k:κ)(b:RelV y u):
  KV (Qk.map λkv=>if kv.1=k then(kv.1,y)else kv) (vs.map λkv=>if kv.1=k then(kv.1,u)else kv):=by
 unfold KV at r⊢
 induction r with
 |nil=>exact .nil
 | @cons p q ps qs h t ih=>
  rw[PY,PY];refine .cons ?_ ih;obtain⟨a,d⟩:=h;by_cases e:p.1=k
  .rw[av e,av (a.symm.trans e)];exact⟨a,b⟩
  .rw[ax e,ax (λz=>e (a.trans z))];exact⟨a,d⟩
theorem KV.put(r:KV Qk vs)(k:κ)(a:RelV y u):KV (jo Qk k y) (stored vs k u):=by
 unfold jo stored;rw[r.any k];by_cases e:(vs.any λb=>decide (b.1=k))=Pr
 .rw[av e,av e];exact r.aay k a
 .rw[ax e,ax e];exact Paired.snoc r ⟨rfl,a⟩
theorem KV.drop(r:KV Qk vs)(k:κ):KV (nA Qk k) (without vs k):=by
 unfold KV at r⊢;unfold nA without
 induction r with
 |nil=>exact .nil
 | @cons p q ps qs h t ih=>
  obtain⟨d,f⟩:=h;rw[Ut,Ut];by_cases e:p.1=k
  .have a:¬decide (p.1≠k)=Pr:=by simp[e]
   have b:¬decide (q.1≠k)=Pr:=by simp[d.symm.trans e]
   rw[ax a,ax b];exact ih
  .have g:¬q.1=k:=λz=>e (d.trans z)
   have a:decide (p.1≠k)=Pr:=by simp[e]
   have b:decide (q.1≠k)=Pr:=by simp[g]
   rw[av a,av b];exact .cons ⟨d,f⟩ ih
theorem KV.keys{vs:bb (κ×Pq)}(r:KV Qk vs):Qk.map (·.1)=vs.map (·.1):=by
 unfold KV at r
 induction r with
 |nil=>rfl
 |cons h t a=>rw[PY,PY,a,h.1]
theorem KV.length(r:KV Qk vs):Qk.length=vs.length:=Paired.length r
theorem EA(Qk:bb (κ×V))(k:κ):(nA Qk k).length<=Qk.length:=Tb _ _
end
theorem tN(r:RelV (kV k) u):(cY P w).is k u=Pr:=by
 cases k with
 |inl i=>obtain⟨t,e⟩:=(show∃t,u=Pq.int i t from r);subst e;exact ym P w i t
 |inr x=>obtain⟨t,e⟩:=(show∃t,u=Pq.str x t from r);subst e;exact xh P w x t
theorem t6:∀{ks:bb cT} {us:bb Pq},Vals (ks.map kV) us->ItemsAre (cY P w) ks us
 |[],_,r=>by rw[Uz]at r;cases r;exact .nil
 |k::ks,_,r=>by
  rw[PY]at r;cases r with
  |cons h t=>exact .cons (tN h) (t6 t)
abbrev KT(H:Hp):bb (bb cT×V)->bb (bb cT×Pz×Pq)->Prop:=Paired λp q=>p.1=q.1/\H q.2.1=Bn (.tup (p.1.map kV))/\RelV p.2 q.2.2
theorem KT.val(r:KT H Qk xs)(k:bb cT):UR (ki Qk k) ((atKey xs k).map (·.2)):=by
 induction r with
 |nil=>exact True.intro
 | @cons p q ps qs h t ih=>
  obtain⟨d,_,f⟩:=h;by_cases e:p.1=k
  .have a:=d.symm.trans e
   have b:atKey (q::qs) k=Bn q.2:=by simp[atKey,Rr,a]
   rw[rl e,b];exact f
  .have a:¬q.1=k:=λz=>e (d.trans z)
   have b:atKey (q::qs) k=atKey qs k:=by simp[atKey,Rr,a]
   rw[rM e,b];exact ih
theorem KT.aay(r:KT H Qk xs)(k:bb cT)(d:RelV y u):
  KT H (Qk.map λkv=>if kv.1=k then(kv.1,y)else kv) (xs.map (putAt k u)):=by
 induction r with
 |nil=>exact .nil
 | @cons p q ps qs h t ih=>
  rw[PY,PY];refine .cons ?_ ih;obtain⟨a,b,f⟩:=h;unfold putAt;by_cases e:p.1=k
  .rw[av e,av (a.symm.trans e)];exact⟨a,b,d⟩
  .rw[ax e,ax (λz=>e (a.trans z))];exact⟨a,b,f⟩
theorem KT.put(r:KT H Qk xs)(k:bb cT)(f:H b=Bn (.tup (k.map kV)))(a:RelV y u):
  KT H (jo Qk k y) (storedH xs k b u):=by
 have e:(Qk.any λd=>decide (d.1=k))=(atKey xs k).isSome:=by rw[xI,(r.val k).Vz,Yi]
 unfold jo storedH;rw[e];by_cases q:(atKey xs k).isSome=Pr
 .rw[av q,av q];exact r.aay k a
 .rw[ax q,ax q];exact Paired.snoc r ⟨rfl,f,a⟩
theorem KT.keeps(r:KT H Qk xs)(a:∀b ys,H b=Bn (.tup ys)->H' b=Bn (.tup ys)):KT H' Qk xs:=
 Paired.Ub r λ_ _ z=>⟨z.1,a _ _ z.2.1,z.2.2⟩
section
variable{P:Qc}{w:Qt}{H:Hp}{h:Heap}{a:Pz}
theorem Jp(ok:Vf P w H h)(e:Rd H a u):ObjOk P w H h a u:=e.ok ok
theorem xu(ok:Vf P w H h)(e:Rd H a (.dK Qk)):Qk.length<=PZ/\(a==SE)=Py/\∃vs,KV Qk vs/\h.DictOf (cY P w) a vs:=
 show ObjOk P w H h a (.dK Qk)from Jp ok e
theorem wT(ok:Vf P w H h)(e:H a=Bn (.dK Qk)):Qk.length<=PZ/\(a==SE)=Py/\∃vs,KV Qk vs/\h.DictOf (cY P w) a vs:=xu ok (.inl e)
theorem uR{ks:bb cT}(ok:Vf P w H h)(e:H a=Bn (.tup (ks.map kV))):(tupleKind (cY P w)).is h ks a:=by obtain⟨_,g,r,o,f,⟨d,n,b⟩,_⟩:=(show ObjOk P w H h a (.tup (ks.map kV))from ok a _ e);exact⟨o,g.toArray,n,f,d,b,by simpa using t6 r⟩
theorem wQ(ok:Vf P w H h)(e:Rd H a (.dT Qk)):Qk.length<=PZ/\(a==SE)=Py/\
  ∃xs,KT H Qk xs/\h.DictOfH (tupleKind (cY P w)) a xs:=by
 obtain⟨z,y,xs,r,o,n,u,j,i,g,f,d⟩:=(show ObjOk P w H h a (.dT Qk)from Jp ok e);refine⟨z,y,xs,r,o,n,u,j,i,g,f,λx b=>?_,d⟩;have all:∀{l:bb (bb cT×V)} {m:bb (bb cT×Pz×Pq)},KT H l m->∀x∈m,(tupleKind (cY P w)).is h x.1 x.2.1:=by
  intro l m q
  induction q with
  |nil=>intro x b;exact nomatch b
  | @cons p q ps qs hq t ih=>
   intro x b;rcases P1.mp b with e|b
   .subst e;exact uR ok (by rw[<-hq.1];exact hq.2.1)
   .exact ih x b
 exact all r x b
theorem Nx(ok:Vf P w H h)(e:H a=Bn (.dT Qk)):Qk.length<=PZ/\(a==SE)=Py/\
  ∃xs,KT H Qk xs/\h.DictOfH (tupleKind (cY P w)) a xs:=wQ ok (.inl e)
end
def WW(H:Hp)(a:Pz)(y:V)(r:bg V):Prop:=
 (∃Qk k,Rd H a (.dK Qk)/\y=kV k/\r=ki Qk k)\/∃Qk k b,Rd H a (.dT Qk)/\y=.ref b/\H b=Bn (.tup (k.map kV))/\r=ki Qk k
def Y2(H:Hp)(a:Pz)(y v:V)(d:Hp):Prop:=
 (∃Qk k,H a=Bn (.dK Qk)/\y=kV k/\Qk.length<PZ/\d=bS H a (.dK (jo Qk k v)))\/
 ∃Qk k b,H a=Bn (.dT Qk)/\y=.ref b/\H b=Bn (.tup (k.map kV))/\Qk.length<PZ/\d=bS H a (.dT (jo Qk k v))
theorem WW.k{k:cT}(e:H a=Bn (.dK Qk)):WW H a (kV k) (ki Qk k):=.inl ⟨Qk,k,.inl e,rfl,rfl⟩
theorem Y2.k{k:cT}(e:H a=Bn (.dK Qk))(b:Qk.length<PZ):Y2 H a (kV k) v (bS H a (.dK (jo Qk k v))):=.inl ⟨Qk,k,e,rfl,b,rfl⟩
section
variable{X:Cx}{Z:bb (Pz×Obj)}{Y:St}{H:Hp}{s:Px}{a:Pz}{y v:V}{u r:Pq}{o:bg V}{A:Ql}{E:Pq->Px->Prop}
theorem Inv.big(I:Inv X Z Y H s):SE<s.heap.objs.size:=by have h:=(I.mod.glob.keeps I.bk).lt;exact Sx (by decide) h
theorem CB{Q:Pq->Px->Prop}(q:A.units+1<cLine)(I:Inv X Z Y H s)(g:WW H a y (Bn v))(n:RelV y u)(h:∀w' s',Inv X Z Y H s'->RelV v w'->Q w' s'):
  wpAny (model X.prog X.w) A (getItem (.ref a) u) Q E s:=by
 rcases g with⟨Qk,k,e,j,l⟩|⟨Qk,k,b,e,j,C,l⟩
 .subst j;obtain⟨z,B,vs,d,dd⟩:=xu I.Ro e;obtain⟨w',f,m⟩:=UR.some_of (v:=v) (o:=valueAt vs k) (by rw[l];exact d.val k);exact wpAny_getItem_of (tN n) dd.mapOf f (h w' _ (I.tok _) m)
 .subst j;cases(show u=Pq.ref b from n);obtain⟨z,B,xs,d,dd⟩:=wQ I.Ro e;obtain⟨w',f,m⟩:=UR.some_of (v:=v) (o:=(atKey xs k).map (·.2)) (by rw[l];exact d.val k);obtain⟨p,t,i⟩:=Option.map_eq_some_iff.mp f;refine wpAny_getItem_heap (V3 q) (uR I.Ro C) dd t ?_;rw[i];exact h w' _ (I.tok _) m
theorem Oy{Q:Pq->Px->Prop}(m:A.units+1<cLine)(I:Inv X Z Y H s)(g:WW H a y o)(j:RelV y u)(h:∀s',Inv X Z Y H s'->Q (.bool o.isSome) s'):
  wpAny (model X.prog X.w) A (RG .In u (.ref a)) Q E s:=by
 rcases g with⟨Qk,k,e,i,l⟩|⟨Qk,k,b,e,i,n,l⟩
 .subst i;obtain⟨z,f,vs,d,dd⟩:=xu I.Ro e;refine wpAny_in_of (tN j) f dd.mapOf ?_;rw[<-(d.val k).Vz,<-l];exact h _ (I.tok _)
 .subst i;cases(show u=Pq.ref b from j);obtain⟨z,f,xs,d,dd⟩:=wQ I.Ro e;refine wpAny_in_heap (V3 m) (uR I.Ro n) f dd ?_;have q:=(d.val k).Vz;rw[Yi]at q;rw[<-q,<-l];exact h _ (I.tok _)
theorem uH{h':Heap}{t':Nat}{d:HO}(I:Inv X Z Y H s)(f:MX (H a))(g:Heap.SameBut a s.heap h')(h:∃q,h'.get? a=Bn q)(new:ObjOk X.prog X.w (bS H a d) h' a d):
  Inv X Z Y (bS H a d) {s with heap:=h',toks:=t'}:=
 I.write (x:=a) (e:=a) f (.inl rfl) (λb q i z=>(g.2 b i).trans z) h new
theorem zk(z:Qk.length<=PZ)(hd:(a==SE)=Py)(b:KV Qk vs)(dd:h'.DictOf (cY P w) a vs):
  ObjOk P w H' h' a (.dK Qk):=⟨z,hd,vs,b,dd⟩
theorem CV{K:Hp}{Q:Unit->Px->Prop}(L:A.units+1<cLine)(I:Inv X Z Y H s)(g:Y2 H a y v K)(C:RelV y u)(rv:RelV v r)(h:∀s',Inv X Z Y K s'->Q () s'):
  wpAny (model X.prog X.w) A (setItem (.ref a) u r) Q E s:=by
 rcases g with⟨Qk,k,e,t,l,B⟩|⟨Qk,k,b,e,t,J,l,B⟩
 .subst t B
  obtain⟨z,p,vs,d,dd⟩:=wT I.Ro e;have j:vs.length<=PZ:=by rw[<-d.length];exact z
  have n:(jo Qk k v).length<=PZ:=by have:=ky Qk k v;ext
  refine wpAny_setItem_pairs (hsz:=j) (tN C) dd λF f m=>h _ ?_;have M:∃q,F.get? a=Bn q:=let⟨q,_,_,i,_⟩:=f;⟨q,i⟩
  exact uH I (by rw[e];exact True.intro) m M (zk n p (d.put k rv) f)
 .subst t B
  cases(show u=Pq.ref b from C);obtain⟨z,p,xs,d,dd⟩:=Nx I.Ro e;have j:xs.length<=PZ:=by rw[<-Paired.length d];exact z
  have n:(jo Qk k v).length<=PZ:=by have:=ky Qk k v;ext
  refine wpAny_setItem_heap (hsz:=j) (V3 L) (uR I.Ro J) dd λF f m=>h _ ?_;obtain⟨q,S,T,i,R,P,O,_,N⟩:=f;refine uH I (by rw[e];exact True.intro) m ⟨q,i⟩ ⟨n,p,_,(d.put k J rv).keeps λc U G=>?_,q,S,T,i,R,P,O,N⟩;rw[a9 (MQ G e (λz=>nomatch z))];exact G
end
section
variable{X:Cx}{Z:bb (Pz×Obj)}{σ:St}{H:Hp}{s:Px}{a:Pz}{Y:bb (cT×V)}{k:cT}{u:Pq}{A:Ql}{E:Pq->Px->Prop}
theorem MM{v:V}{b:bb Pq}{Q:Pq->Px->Prop}(I:Inv X Z σ H s)(e:H a=Bn (.dK Y))(g:RelV (kV k) u)(l:ki Y k=Bn v)(hm:b=[]\/∃x,b=[x])
  (h:∀w' s',Inv X Z σ (bS H a (.dK (nA Y k))) s'->RelV v w'->Q w' s'):wpAny (model X.prog X.w) A (call (.builtin "dict.pop") (.ref a::u::b)) Q E s:=by
 obtain⟨z,r,vs,d,dd⟩:=wT I.Ro e;obtain⟨w',j,B⟩:=UR.some_of (v:=v) (o:=valueAt vs k) (by rw[<-l];exact d.val k);have n:(keyPart u).isSome=Pr:=by
  cases k with
  |inl i=>obtain⟨t,q⟩:=(show∃t,u=Pq.int i t from g);subst q;rfl
  |inr x=>obtain⟨t,q⟩:=(show∃t,u=Pq.str x t from g);subst q;rfl
 have ha:argsOk "dict.pop" ⟨.ref a::u::b,[]⟩:=by
  rcases hm with q|⟨x,q⟩
  .subst q;exact PySem.F.args_dict_pop_2 _ _
  .subst q;exact PySem.F.args_dict_pop_3 _ _ _
 refine call_meetsIn W2 dd.typeIs PySem.F.entry_dict_pop ha (meets_dict_pop_there (cY X.prog X.w) a (tN g) b hm n)
  ⟨vs,w',dd,by rw[<-d.length];exact z,j,λy f m=>h w' _ ?_ B⟩
 have p:∃q,y.get? a=Bn q:=let⟨q,_,_,hq,_⟩:=f;⟨q,hq⟩
 exact uH I (by rw[e];exact True.intro) m p (zk (Qz (EA Y k) z) r (d.drop k) f)
end
def NJ(i:QK):Prop:=∀ov iv,subscripted i Py ov iv=operate [ov,iv] (getItem ov iv)
theorem Il{T j:String}
  (m:typeLookup (.type T) "__getitem__"=pure (Bn (.builtin j))) (l:NJ slice)
  (h:wpAny (model prog w) A (eval value env) (λo s₁=>wpAny (model prog w) A (eval slice env) (λi s₂=>s₂.TypeIs o T/\wpAny (model prog w) A (getItem o i) Q E s₂) E s₁) E s):
  wpAny (model prog w) A (eval (.Subscript value slice pos) env) Q E s:=by
 refine Subscript_ (wpAny_mono h (λo s₁ f=>wpAny_mono f (λi s₂ a=>?_) λ_ _ x=>x) λ_ _ x=>x);obtain⟨g,a⟩:=a;unfold subscriptTail;refine Ld ?_;rw[getitemInPython_of_ne g.not_modules];refine Ld (acB g m ?_);have d:wpAny (model prog w) A (subscripted slice Py o i) (λr b=>wpAny (model prog w) A (letTemporaryGo value o r>>=λ_=>pure r) Q E b) E s₂:=by rw[l o i];exact wpAny_operating (wpAny_mono a (λr b e=>Ld (wpAny_letTemporaryGo (Pt e))) λ_ _ x=>x)
 first
  |exact Pt (Ld d)
  |exact Ld (Pt (Ld d))
  |exact Ld d
theorem wK(I:Inv X pins σ H s)(g:WW H a y o):s.TypeIs (.ref a) "dict":=by
 rcases g with⟨Qk,k,e,_,_⟩|⟨Qk,k,b,e,_,_,_⟩
 .obtain⟨_,_,vs,_,dd⟩:=xu I.Ro e;exact dd.typeIs
 .obtain⟨_,_,xs,_,dd⟩:=wQ I.Ro e;exact dd.typeIs
def J6(e ty:TE):TE:=λb H Q=>e b H λx f=>ty b f λy d=>∃a v,x=.ref a/\WW d a y (Bn v)/\Q v d
def Nu(ty e:TE):TE:=λb H Q=>ty b H λy f=>e b f λx d=>∃a o,x=.ref a/\WW d a y o/\Q (.bl o.isSome) d
def Jg(e ty d:TE):TS:=λD b H=>d b H λv h=>e b h λx g=>ty b g λy f=>∃a H4,x=.ref a/\Y2 f a y v H4/\D.nx b H4
section
variable{X:Cx}{o i e Z:QK}{U Y ae9:Pos}{S T tv:TE}
theorem Bb(q:X.A.units+1<cLine)(t:PE X o S)(hi:PE X i T)(r:NJ i):PE X (.Subscript o i U) (J6 S T):=by intro b s d H Q I h;refine Il PySem.F.slot_dict_getitem.lookup r (dF (t b s d H _ I h) λu j ⟨x,G,C,m,p⟩=>dF (hi b j d G _ C p) λM L ⟨y,E,f,l,a,v,w,g,n⟩=>?_);subst w;obtain rfl:=m;exact⟨wK f g,CB q f g l λJ K B z=>⟨v,E,B,z,n⟩⟩
theorem Kw(q:X.A.units+1<cLine)(hi:PE X i T)(r:PE X o S):PC X .In i o (Nu T S):=by intro b s d H Q I h;refine dF (hi b s d H _ I h) λG f ⟨y,C,z,j,n⟩=>dF (r b f d C _ z n) λu F ⟨x,B,w,l,a,p,t,g,m⟩=>?_;subst t;obtain rfl:=l;exact Oy q w g j λE v=>⟨.bl p.isSome,B,v,rfl,m⟩
theorem Hu(w:X.A.units+1<cLine)(B:PE X o S)(hi:PE X i T)(t:PE X Z tv)(z:Rz Z (Bn (.Subscript o i Y)) U.line X.env=pure Py):
  PS X (.Assign [.Subscript o i Y] Z U) (Jg S T tv):=by
 intro b s d H D I h;refine wpAny_Assign_Subscript (dF (t b s d H _ I h) λr j ⟨v,M,J,rv,q⟩=>dF (B b j d M _ J q) λu f ⟨x,L,G,m,p⟩=>dF (hi b f d L _ G p) λP O ⟨y,Q,F,l,a,K,C,g,n⟩=>?_) z;subst C;obtain rfl:=m;exact CV w F g l rv λN E=>⟨d,K,E,n⟩
end
def nW(Qk a:bb (cT×V)):bb (cT×V):=a.foldl (λb d=>jo b d.1 d.2) Qk
theorem KV.merge:∀{a:bb (cT×V)} {b:bb (cT×Pq)} {Qk:bb (cT×V)} {vs:bb (cT×Pq)},KV a b->KV Qk vs->KV (nW Qk a) (merged vs b):=by
 intro a b Qk vs r;unfold KV at r
 induction r generalizing Qk vs with
 |nil=>intro q;exact q
 | @cons p q ps qs h t ih=>
  intro d;have e:KV (jo Qk p.1 p.2) (stored vs q.1 q.2):=by have:=d.put p.1 h.2;rw[<-h.1];exact this
  exact ih e
theorem lP:∀(a Qk:bb (cT×V)),(nW Qk a).length<=Qk.length+a.length
 |[],Qk=>by show Qk.length<=Qk.length+0;ext
 |p::r,Qk=>by have d:=lP r (jo Qk p.1 p.2);have b:=ky Qk p.1 p.2;show(nW (jo Qk p.1 p.2) r).length<=_;rw[PN];ext
structure M1(X:Cx)(o:QK)(m:Str)(apos:Pos)(e:QK)(TQ:Pos):Prop where
 base:attributeBase o m X.env (eval o X.env)=eval o X.env
 few:((backTo TQ (Qp [e] X.env)).all (λx=> !x.1)&&(backToKw TQ (keywordEach [] X.env)).all (λx=>x.1.isSome)
  &&decide (([e]:bb QK).length+([]:bb We).length+(if([]:bb We).isEmpty then 0 else 1)<30))=Pr
 line:(apos.endLine==TQ.line)=Pr
 trees:backTo TQ (Qp [e] X.env)=[(Py,eval e X.env)]
structure M2(X:Cx)(o:QK)(m:Str)(apos:Pos)(e f:QK)(TQ:Pos):Prop where
 base:attributeBase o m X.env (eval o X.env)=eval o X.env
 few:((backTo TQ (Qp [e,f] X.env)).all (λx=> !x.1)&&(backToKw TQ (keywordEach [] X.env)).all (λx=>x.1.isSome)
  &&decide (([e,f]:bb QK).length+([]:bb We).length+(if([]:bb We).isEmpty then 0 else 1)<30))=Pr
 line:(apos.endLine==TQ.line)=Pr
 trees:backTo TQ (Qp [e,f] X.env)=[(Py,eval e X.env),(Py,eval f X.env)]
def OO(H:Hp)(a:Pz):Prop:=(∃Qk,Rd H a (.dK Qk))\/∃Qk,Rd H a (.dT Qk)
theorem Kh(I:Inv X pins σ H s)(d:OO H a):
  s.TypeIs (.ref a) "dict"/\(∀b,Pq.ref a=.ref b->∃ob,s.heap.get? b=Bn ob/\ob.dict=Pn)/\(a==SE)=Py:=by
 rcases d with⟨Qk,e⟩|⟨Qk,e⟩
 .obtain⟨_,f,vs,_,dd⟩:=xu I.Ro e;refine⟨dd.typeIs,λb q=>?_,f⟩;cases q;obtain⟨ob,_,_,h,g,_⟩:=dd;exact⟨ob,h,g.2.1⟩
 .obtain⟨_,f,xs,_,dd⟩:=wQ I.Ro e;refine⟨dd.typeIs,λb q=>?_,f⟩;cases q;obtain⟨ob,_,_,h,g,_⟩:=dd;exact⟨ob,h,g.2.1⟩
def Dg(f ty:TE):TE:=λb H Q=>f b H λx e=>∃a,x=.ref a/\OO e a/\ty b e λy d=>∃Qk k v,d a=Bn (.dK Qk)/\y=kV k/\ki Qk k=Bn v/\Q v (bS d a (.dK (nA Qk k)))
section
variable{X:Cx}{o e f:QK}{Z TQ:Pos}{td ty tx:TE}
theorem FJ(z:PE X o td)(A:PE X e ty)(m:M1 X o "pop" Z e TQ):PE X (.Call (.Attribute o "pop" Z) [e] [] TQ) (Dg td ty):=by intro b s g H Q I h;refine wpAny_Call_method m.base m.few m.line T9 W2 PySem.F.type_dict_pop (dF (z b s g H _ I h) λu p ⟨x,L,i,r,a,C,d,w⟩=>?_);subst C;obtain rfl:=r;obtain⟨n,j,_⟩:=Kh i d;refine⟨n,j,?_⟩;rw[m.trees];refine Calls.callWith_builtin rfl (Calls.evalArgs_plain (Calls.spliced_cons (dF (A b p g L _ i w) λP O ⟨y,R,K,q,Qk,k,v,E,B,l,t⟩=>Calls.spliced_nil ?_)));subst B;exact MM K E q l (.inl rfl) λM N J G=>⟨v,_,J,G,t⟩
end
end L2
namespace L4
open PySem PySem.Spec PyProof.Rows L2 L3
structure Lft(l:bb Env)(e:Pz)(hd:bg Pz)(h h':Heap):Prop where
 keep:∀b o,h.get? b=Bn o->b≠e->hd≠Bn b->b∉C6 l->h'.get? b=Bn o
 slot:∀b o,h.get? b=Bn o->b≠e->hd≠Bn b->∃sl,h'.get? b=Bn {o with slots:=sl}
 here:∀b o,h.get? b=Bn o->∃o',h'.get? b=Bn o'
section
variable{P:Qc}{w:Qt}{K:Po}{mg:Str->bg Pq}{base:Heap}{N:bb Str}{qual:Str}{scope:TL}{f:Pz}{cd:Pq}{A:Ql}{outer:bb Env}{s0:Px}{H0:Hp}{E:XK}{CX:xl}
  {σ:L2.St} {H:Hp} {s:Px} {h':Heap} {X:Cx}
end
def MV(K:Po)(C:Pz)(m:bb Pq):Prop:=∃nm q N bs hd sn sub ab col dd k0 k1 k2 k3 k5 id,K.lookup C=Bn (excClassObj nm q C N bs m hd sn sub ab col dd k0 k1 k2 k3 k5 id)
structure Apart(X:Cx)(a:Pz):Prop where
 n0:X.s₀.heap.get? a=Pn
 nL:a≠X.env.locals
 nC:∀y c,X.env.cells.lookup y=Bn c->c≠a
 nP:∀p∈X.pn,p.1≠a
end L4
namespace L4
open PySem PySem.Spec PySem.W PyProof.Rows L2 L3
section
variable{prog:Qc}{w:Qt}{A:Ql}{E:Pq->Px->Prop}{h:Heap}{g:Array Vq}{d:Xw}{t:Nat}{os:OsState}{a C:Pz}{o:Obj}{K:Po}
  {n1 q1:Str} {N1:Pz} {b1 m1:bb Pq} {d1:Bool} {s1:bb Str} {u1:bb Pq} {a1:Bool} {c1:bg Bool} {x1:bg Pz} {i0 i1 i2 i3 i5:bg Pq} {id1:String}
structure aet(K:Po)(C:Pz)(m:bb Pq):Prop where
 cl:MV K C m
 be:m.contains (.type "BaseException")=Pr
 ga:findIn K (.ref C) "__getattribute__"=Bn (Bn (.builtin "BaseException.__getattribute__"))
 gt:findIn K (.ref C) "__getattr__"=Bn Pn
 cs:findIn K (.ref C) "__class__"=Bn (Bn (.builtin "object.__class__"))
 ob:mroIn K C (.type "object")=Bn Pr
end
end L4
namespace HT
open PySem PySem.Spec PyProof.Rows
section
variable{prog:Qc}{w:Qt}{A:Ql}{E:Pq->Px->Prop}{s:Px}
theorem getItem_tuple_all{t sl:Pz}{a:Array Pq}{j i:Pq}{lo hi:bg Int}{Q:Pq->Px->Prop}(b:IsTup s.heap t a)(n:s.heap.IsSliceOf sl j i .none)(pl:Vr j lo)(o:Vr i hi)
  (l:sIx a.size 0 lo=0/\sIx a.size a.size hi=a.size) (h:Q (.ref t) s):wpAny (model prog w) A (getItem (.ref t) (.ref sl)) Q E s:=by
 obtain⟨p,d,e,q⟩:=id n;have f:s.TypeIs (.ref sl) "slice":=⟨p,d,e⟩;unfold getItem
 try specialize Q1 ?_
 first|refine Ld (Pt ?_)|skip
 refine Ld (aaU b.typeIs (by decide) ?_);refine Ld (QG (name:=Str.ofString "__getitem__") b.typeIs QR
  (QC QR b.typeIs entry_tuple_getitem ?_ (args_tuple_getitem _ _)))
 show wpAny _ _ (Qe.Tuple.tupleItemsOf (.ref t)>>=_) _ _ s;refine Ld (tupleItemsOf_ b ?_);refine Ld (Ti f ?_);rw[av (by decide)];refine Ld (jt n pl o ?_);have g:((((sIx a.size 0 lo:Nat):Int)==0&&(1:Int)==1&&(sIx a.size a.size hi - sIx a.size 0 lo)==a.size)=Pr):=by rw[l.1,l.2];simp
 show wpAny _ _ (if(((sIx a.size 0 lo:Nat):Int)==0&&(1:Int)==1&&(sIx a.size a.size hi - sIx a.size 0 lo)==a.size)=Pr then _ else _) _ _ s;rw[av g];refine Ld (m:=Qe.Tuple.tupleIsExact _) ?_;unfold Qe.Tuple.tupleIsExact;refine Ld (Ti b.typeIs (Pt ?_));rw[av (by decide)];refine Ld (Sj ?_);exact Pt ⟨_,rfl,Pt h⟩
end
end HT
namespace L3
open PySem PySem.Spec PyProof.Rows L2
def MY(K:Po):V->bg Int->bg Int->Hp->VK->Prop:=λx lo hi H Q=>∃(a:Pz) (xs:bb V),x=.ref a/\Uj K H a xs/\(HT.sIx xs.length 0 lo=0/\HT.sIx xs.length xs.length hi=xs.length)/\Q (.ref a) H
theorem FM{X:Cx}:MA X (MY X.K):=by
 intro d s n H x v p o lo hi sl Q I f l pl g h;obtain⟨a,xs,rfl,i,j,q⟩:=h;cases f;obtain⟨m,r,e,t⟩:=I.tuple i;have b:m.toArray.size=xs.length:=by rw[PX];exact r.length.symm
 refine⟨"tuple",_,QR.lookup,e.typeIs,?_⟩;exact HT.getItem_tuple_all e l pl g (by rw[b];exact j) ⟨.ref a,H,I,rfl,q⟩
def MP(K:Po):V->bg Int->bg Int->Hp->VK->Prop:=λx lo hi H Q=>Mu K x lo hi H Q\/MY K x lo hi H Q
theorem vS{X:Cx}:MA X (MP X.K):=by
 intro a s b H x v e d lo hi sl Q I f h pl g q;rcases q with q|q
 .exact FR a s b H x v e d lo hi sl Q I f h pl g q
 .exact FM a s b H x v e d lo hi sl Q I f h pl g q
section
variable{K:Po}{E:XK}
end
end L3
namespace L9
open PySem PySem.W PyProof.Rows Builtin Builtin.ObjectAttr
abbrev OV:bb Pq:=[.type "ValueError",.type "Exception",.type "BaseException",.type "object"]
end L9
namespace L9
open PySem PySem.Spec PyProof.Rows L2
structure XC(K:Po)(C B fI:Pz):Prop where
 obj:∃nm q N bs sn sub ab col dd k0 k1 k2 k3 k5,K.lookup C=Bn (excClassObj nm q C N bs (.ref B::OV) Pr sn sub ab col dd k0 k1 k2 k3 k5 "ValueError.__new__")/\PySem.W.nsOkIn K N=Pr/\Qj K N "__init__"=Bn (Bn (.ref fI))
 base:PySem.W.excIn K B OV "ValueError.__new__"=Pr
 sa:QN K (.ref C) "__setattr__"=Bn (Bn (.builtin "object.__setattr__"))
end L9
namespace L9
open PySem PySem.Spec PySem.W PyProof.Rows L2 L3 L4
section
variable{prog:Qc}{w:Qt}{A:Ql}{E:Pq->Px->Prop}{h:Heap}{g:Array Vq}{d:Xw}{t:Nat}{os:OsState}{a C:Pz}{o:Obj}{K:Po}{od:bg Obj}{name:Str}{v:Pq}
  {n1 q1:Str} {N1:Pz} {b1 m1:bb Pq} {d1:Bool} {s1:bb Str} {u1:bb Pq} {a1:Bool} {c1:bg Bool} {x1:bg Pz} {i0 i1 i2 i3 i5:bg Pq} {id1:String}
end
end L9
namespace L3
open PySem PySem.Spec PyProof.Rows L2
mutual
def OZ:Pw->Bool
 |.tuple ds=>LJ ds
 |.int _=>Pr
 |.str _=>Pr
 |.bool _=>Pr
 |.none=>Pr
 |_=>Py
def LJ:bb Pw->Bool
 |[]=>Pr
 |d::r=>OZ d&&LJ r
end
section
variable{K:Po}{E:XK}{B:b8}{H0:Hp}{O Z:b8}{σ:L2.St}{H H':Hp}{ρ:aO}
theorem Ii(h:Uj K H a xs)(l:H a=Bn (.lst ys)):Uj K (λ_=>Pn) a xs:=by
 rcases h with(h|⟨o,h⟩)|h
 .rw[l]at h;cases h
 .rw[l]at h;cases h
 .exact .inr h
mutual
theorem Iu(f:∀b,O b->¬Z b->∃ys,H b=Bn (.lst ys)):∀{v:V} {d:D},DV Z K H v d->OZ d=Pr->DV O K H v d
 |_,_,.Sz,_=>.Sz
 |_,_,.bl b,_=>.bl b
 |_,_,.int i,_=>.int i
 |_,_,.str x,_=>.str x
 |_,_,.tup (a:=a) h hs,e=>.tup ⟨h.1,λz=>by
   by_cases y:Z a
   .exact h.2 y
   .obtain⟨ys,q⟩:=f a z y;exact Ii h.1 q⟩ (xF f hs e)
 |_,_,.lst h hs,e=>by cases e
theorem xF(a:∀b,O b->¬Z b->∃ys,H b=Bn (.lst ys)):∀{vs:bb V} {ds:bb D},Rk Z K H vs ds->LJ ds=Pr->Rk O K H vs ds
 |_,_,.nil,_=>.nil
 |_,_,.cons h hs,e=>by have d:=Bool.and_eq_true_iff.mp e;exact .cons (Iu a h d.1) (xF a hs d.2)
end
end
end L3
namespace PySem
section
variable{prog:Qc}{w:Qt}{A:Ql}{E:Pq->Px->Prop}{s:Px}
abbrev lM(a:Bool):Obj:={cls:=.type "set",dict:=Pn,data:=.set #[] 0 (.fresh 0 0 a)}
end
end PySem
namespace PyProof.Rows
open PySem
section
variable{prog:Qc}{w:Qt}{A:Ql}{E:Pq->Px->Prop}{s:Px}
theorem jB(b:h.get? a=Bn (seqObj "list" vs.toArray n)):∃e,(sortedHeap h a vs out).get? a=Bn (seqObj "list" out e):=by have d:=get?_update_seq b (λ_=> #[]);exact⟨_,get?_update_seq (br _ (br _ d)) _⟩
theorem iM(d:b≠a)(e:h.get? b=Bn o):(sortedHeap h a vs out).get? b=Bn o:=
 (b3 _ _ (da d)).trans (br _ (br _ ((b3 _ _ (da d)).trans e)))
theorem zD{l:Pz}{vs:bb Pq}{f:bb Int}{Q:Pq->Px->Prop}(g:s.heap.IsTuple l vs.toArray)(t:IntsAre vs f)(B:vs.length<64)
  (h:∀(h1 h':Heap) (out:Array Pq) (e:Nat) (a:bb Int),(∀b o,s.heap.get? b=Bn o->h1.get? b=Bn o)->h'.get? h1.objs.size=Bn (seqObj "list" out e)->(∀b o,h1.get? b=Bn o->h'.get? b=Bn o)->IntsAre out.toList a->a.Perm f->a.Pairwise (·<=·)->Q (.ref h1.objs.size) {s with heap:=h'}):
  wpAny (model prog w) A (call (.builtin "sorted") [.ref l]) Q E s:=by
 obtain⟨o,i,r,n,q⟩:=g;refine Calls.call_function_entry kind_sorted plain_sorted entry_sorted (args_sorted1 _) (Ld (m:=checkCount "sorted" 1 1 _) (Pt (Ld (wpAny_collect_seq l (.inr rfl) i r q (λh1 j=>Ld (VY ?_)) (by rw[PX,S5];ext)))));have d:(h1.push (seqObj "list" vs.toArray 0)).get? h1.objs.size=Bn (seqObj "list" vs.toArray 0):=b0 _ rfl;refine Ld (Q1 (QC slot_list_sort ⟨_,d,rfl⟩ entry_list_sort (list_sort_tree d t B λout a y v u=>⟨_,rfl,Pt ⟨_,rfl,?_⟩⟩) (args_list_sort _)));obtain⟨e,p⟩:=jB (out:=out) d;exact h h1 _ out e a j p (λb C z=>iM (P5 (bP z)) (br _ z)) y v u
end
end PyProof.Rows
namespace L9
open PySem PySem.Spec PyProof.Rows L2 L3
section
variable{K:Po}{E:XK}
theorem vN:Sm X (.builtin "sorted") (λxs H Q=>∃(p:Pz) (d:bb Int),xs=[.ref p]/\Uj X.K H p (d.map V.int)/\d.length<64/\∀(l:Pz) (a:bb Int),H l=Pn->a.Perm d->a.Pairwise (·<=·)->Q (.ref l) (bS H l (.lst (a.map V.int)))):=by
 intro g s A H xs B Q I r h;obtain⟨p,d,rfl,o,G,q⟩:=h;obtain⟨u,rfl,m⟩:=ir r;cases m;obtain⟨J,rv,pl,C⟩:=I.tuple o;have t:=rv.length;rw[Pp]at t;refine zD pl (iz rv) (by ext) λy F f e a v w z hi i n=>?_;have b:=i.length_eq;have j:=I.kept (t':=s.toks) v;refine⟨.ref y.objs.size,_,j.laid z (PF _) ?_,rfl,q _ a (j.Ro.fresh (PF _)) i n⟩;refine⟨?_,f.toList,e,ie hi,w⟩;rw[Pp,b];have:(64:Nat)<=PZ:=by decide
 ext
theorem vt:Sm X (.builtin "sorted") (λxs H Q=>(∃(p:Pz) (a:bb Int),xs=[.ref p]/\T6 X.K H p (a.map V.int)/\a.length<64/\∀(l:Pz) (b:bb Int),H l=Pn->b.Perm a->b.Pairwise (·<=·)->Q (.ref l) (bS H l (.lst (b.map V.int))))\/
  (∃(p:Pz) (a:bb Int),xs=[.ref p]/\Uj X.K H p (a.map V.int)/\a.length<64/\∀(l:Pz) (b:bb Int),H l=Pn->b.Perm a->b.Pairwise (·<=·)->Q (.ref l) (bS H l (.lst (b.map V.int))))):=L2.Sm.or ko vN
def ia:bb D->bg RV
 |[.tuple ds]=>(match i9 ds with
  |some a=>if a.length<64 then Bn (.ow ((dr a).map .int))else Pn
  |none=>Pn)
 |ds=>iU ds
theorem zV:BO K (λxs H Q=>(∃(p:Pz) (b:bb Int),xs=[.ref p]/\T6 K H p (b.map V.int)/\b.length<64/\∀(l:Pz) (d:bb Int),H l=Pn->d.Perm b->d.Pairwise (·<=·)->Q (.ref l) (bS H l (.lst (d.map V.int))))\/
  (∃(p:Pz) (b:bb Int),xs=[.ref p]/\Uj K H p (b.map V.int)/\b.length<64/\∀(l:Pz) (d:bb Int),H l=Pn->d.Perm b->d.Pairwise (·<=·)->Q (.ref l) (bS H l (.lst (d.map V.int))))) ia:=by
 intro O H xs ds rv Q n g e q;unfold ia at e;split at e
 .split at e
  .rename_i b i
   split at e
   .rename_i hn
    cases e;cases g with
    |cons o m=>cases m;obtain⟨a,vs,rfl,h,r⟩:=Gz o;rw[lr r i]at h;refine .inr ⟨a,b,rfl,h.1,hn,λl d j f d9=>?_⟩;have t:=gk (f.trans (cN b).symm) d9 (cw b);subst t;exact q.new (mF _) l j
   .cases e
  .cases e
 .exact .inl (k9 O H xs ds rv Q n g e q)
theorem FX:QY "set"=Bn (.type "set"):=by left
end
end L9
namespace LD
open PySem PyProof.Rows L2 L3
mutual
def kd:Pw->Bool
 |.none=>Pr
 |.int _=>Pr
 |.str x=>Pw.strOk x
 |.tuple xs=>C9 xs
 |_=>Py
def C9:bb Pw->Bool
 |[]=>Pr
 |x::r=>kd x&&C9 r
end
def Ou:Pw->Bool
 |.tuple xs=>C9 xs&&decide ((Pw.tuple xs).depth<=8)
 |_=>Py
mutual
theorem LM:∀d:Pw,kd d=Pr->d.canLay0=Pr
 |.none,_=>rfl
 |.int _,_=>rfl
 |.str x,h=>by unfold Pw.canLay0;unfold kd at h;exact h
 |.tuple xs,h=>by unfold Pw.canLay0;unfold kd at h;exact Ad xs h
 |.bool _,h|.list _,h|.dict _,h=>by simp[kd]at h
theorem Ad:∀xs:bb Pw,C9 xs=Pr->Pw.canLayAll0 xs=Pr
 |[],_=>rfl
 |x::r,h=>by unfold C9 at h;rw[P2]at h;unfold Pw.canLayAll0;rw[LM x h.1,Ad r h.2];rfl
end
mutual
theorem LF:∀d e:Pw,kd d=Pr->kd e=Pr->Pw.eqv d e=Pr->d=e
 |.none,e,_,h,q=>by cases e<;>simp_all [kd,Pw.eqv]
 |.int i,e,_,h,q=>by cases e<;>simp_all [kd,Pw.eqv]
 |.str x,e,_,h,q=>by cases e<;>simp_all [kd,Pw.eqv]
 |.tuple xs,e,g,h,q=>by
  cases e with
  |tuple a=>rw[Pw.eqv]at q;unfold kd at g h;rw[BX xs a g h q]
  |_=>simp_all [kd,Pw.eqv]
 |.bool _,_,h,_,_|.list _,_,h,_,_|.dict _,_,h,_,_=>by simp[kd]at h
theorem BX:∀xs ys:bb Pw,C9 xs=Pr->C9 ys=Pr->Pw.eqvAll xs ys=Pr->xs=ys
 |[],[],_,_,_=>rfl
 |[],_::_,_,_,q=>by simp[Pw.eqvAll]at q
 |_::_,[],_,_,q=>by simp[Pw.eqvAll]at q
 |x::xs,y::ys,g,h,q=>by unfold C9 at g h;rw[Pw.eqvAll]at q;rw[P2]at g h q;rw[LF x y g.1 h.1 q.1,BX xs ys g.2 h.2 q.2]
end
mutual
def BD(w:Qt):Pw->Int
 |.none=>reduceHash 0xFCA86420
 |.int i=>hashInt i
 |.str x=>hashStr w x
 |.tuple xs=>reduceHash (Qe.Tuple.tupleHashOf (sN w xs))
 |_=>0
def sN(w:Qt):bb Pw->bb Int
 |[]=>[]
 |x::r=>BD w x::sN w r
end
mutual
def Op:Pw->Nat
 |.tuple xs=>GJ xs+1
 |_=>1
def GJ:bb Pw->Nat
 |[]=>0
 |x::r=>Op x+GJ r
end
section
variable{prog:Qc}{w:Qt}{E:Pq->Px->Prop}
mutual
theorem HA:∀(d:Pw) (v:Pq) (f:bb Pz) (A:Ql) (s:Px) (Q:Int->Px->Prop),kd d=Pr->Reads s.heap v d f->A.units+d.depth<cLine->Q (BD w d) {s with toks:=s.toks+Op d}->wpAny (model prog w) A (pyHash v) Q E s
 |.none,_,_,A,s,Q,_,r,hu,h=>by cases r;exact Xq (T:= "NoneType") rfl F.slot_NoneType_hash F.entry_NoneType_hash (F.args_NoneType_hash_1 _) (abA _) (.inr (by ext)) (Ld (Pt (Ld (wpAny_mkInt (Pt ⟨_,_,rfl,h⟩)))))
 |.int i,_,_,A,s,Q,_,r,_,h=>by cases r;exact abq h
 |.str x,_,_,A,s,Q,_,r,_,h=>by cases r;exact abr h
 |.tuple xs,_,_,A,s,Q,hk,r,hu,h=>by
  cases r with
  | @tuple a o vs n _ _ h1 h2 h3 h4=>
   refine Xq (T:= "tuple") ⟨_,h1,h2⟩ F.slot_tuple_hash F.entry_tuple_hash (F.args_tuple_hash_1 _) (abA _) (.inr (by ext)) ?_;show wpAny _ _ (Qe.Tuple.tupleItemsOf (.ref a)>>=_) _ _ s;refine Ld (wpAny_tupleItemsOf h1 h3 ?_);refine Ld ?_;rw[<-Array.forIn_toList];unfold kd at hk;refine ud xs vs.toList _ A.in1 s #[] _ hk h4 (by simp only[Pw.depth,Ql.in1_units]at hu⊢;ext) λb e=>?_;show wpAny _ _ (retInt (Qe.Tuple.tupleHashOf b.toList)) _ _ _;rw[e];refine Ld (wpAny_mkInt (Pt ⟨_,_,rfl,?_⟩));unfold BD Op at h
   simpa [Um]using h
 |.bool _,_,_,_,_,_,h,_,_,_|.list _,_,_,_,_,_,h,_,_,_|.dict _,_,_,_,_,_,h,_,_,_=>by simp[kd]at h
theorem ud:∀(xs:bb Pw) (vs:bb Pq) (f:bb Pz) (A:Ql) (s:Px) (b:Array Int) (Q:Array Int->Px->Prop),C9 xs=Pr->Zd s.heap vs xs f->A.units+Pw.depthAll xs<cLine->
  (∀b':Array Int,b'.toList=b.toList++sN w xs->Q b' {s with toks:=s.toks+GJ xs})->
  wpAny (model prog w) A (forIn vs b λx r=>do let h<-pyHash x;pure PUnit.unit;pure (ForInStep.yield (r.push h))) Q E s
 |[],_,_,A,s,b,Q,_,x,_,h=>by cases x;exact Pt (h b (by simp[sN]))
 |k::xs,_,_,A,s,b,Q,hk,x,hu,h=>by
  cases x with
  |cons d a=>
   unfold C9 at hk;simp only[P2,Pw.depthAll]at hk hu;rw[UG];refine Ld (Ld (HA k _ _ A s _ hk.1 d (by ext) ?_));refine Ld (Pt (Pt ?_));refine ud xs _ _ A _ _ Q hk.2 a (by ext) λb' e=>?_;have:=h b' (by simp[e,sN]);unfold GJ at this
   simpa [Um]using this
end
end
mutual
theorem C3{h h':Heap}{x:Pz}{b:Obj}{i:Array VF}{j:Nat}(hx:h.get? x=Bn b)(f:b.data=.dict i j)(e:Heap.SameBut x h h'):∀(d:Pw) (v:Pq) (g:bb Pz),kd d=Pr->Reads h v d g->Reads h' v d g
 |.none,_,_,_,r=>by cases r;exact .none
 |.int _,_,_,_,r=>by cases r;exact .int _ _
 |.str _,_,_,_,r=>by cases r;exact .str _ _
 |.tuple xs,_,_,k,r=>by
  cases r with
  | @tuple a o vs n _ _ h1 h2 h3 h4=>
   have l:a≠x:=by rintro rfl;rw[hx]at h1;cases h1;rw[f]at h3;exact nomatch h3
   unfold kd at k;exact .tuple ((e.2 a l).trans h1) h2 h3 (rJ hx f e xs _ _ k h4)
 |.bool _,_,_,h,_|.list _,_,_,h,_|.dict _,_,_,h,_=>by simp[kd]at h
theorem rJ{h h':Heap}{x:Pz}{a:Obj}{j:Array VF}{l:Nat}(hx:h.get? x=Bn a)(e:a.data=.dict j l)(b:Heap.SameBut x h h'):∀(ds:bb Pw) (vs:bb Pq) (f:bb Pz),C9 ds=Pr->Zd h vs ds f->Zd h' vs ds f
 |[],_,_,_,r=>by cases r;exact .nil
 |d::ds,_,_,k,r=>by
  cases r with
  |cons i g=>unfold C9 at k;rw[P2]at k;exact .cons (C3 hx e b d _ _ k.1 i) (rJ hx e b ds _ _ k.2 g)
end
abbrev KD:={d:Pw//Ou d=Pr}
noncomputable instance kdDec:DecidableEq KD:=λ_ _=>Classical.propDecidable _
def Pe(a:Pz)(xs:bb (KD×Pz×V))(w:Qt)(h:Heap):Prop:=
 (xs.length<=PZ/\(a==SE)=Py/\(xs.map (·.1)).Nodup)/\∃o es ep,h.get? a=Bn o/\o.ExactDict/\o.data=.dict es ep/\Paired (λ(x:KD×Pz×V) (e:VF)=>e.hash=BD w x.1.1/\e.key=.ref x.2.1/\RelV x.2.2 e.val) xs es.toList
abbrev DkO(a:Pz)(xs:bb (KD×Pz×V)):HO:=.exw (Pe a xs)
abbrev PrD(O:b8)(K:Po)(H:Hp):bb (KD×Pz×V)->bb (D×D)->Prop:=
 Paired λx a=>x.1.1=a.1/\L3.DV O K H (.ref x.2.1) a.1/\L3.DV O K H x.2.2 a.2
end LD
namespace L10
open PySem L2 L3
inductive AV where
 |fz (d:D)
 |rf (i:Nat)
inductive SV where
 |fz (d:D)
 |rf (i:Nat)
 |tp (l:bb AV)
def AV.sv:AV->SV
 |.fz d=>.fz d
 |.rf i=>.rf i
inductive Cell where
 |lst (xs:bb SV)
 |Vo (Qk:bb (cT×SV))
 |obj (C:Str) (fs:bb (Str×SV))
 |dd (Qk:bb (D×D))
 |dead
abbrev aZ:=bb Cell
abbrev bv:=bb (bg SV)
inductive RS(α:Type) where
 |ok (a:α) (Z:aZ)
 |er (x:Xc) (Z:aZ)
 |bad
def RS.bind(r:RS α)(f:α->aZ->RS β):RS β:=match r with
 |.ok a Z=>f a Z
 |.er x Z=>.er x Z
 |.bad=>.bad
def RS.QL(Z:aZ):bg α->RS α
 |some a=>.ok a Z
 |none=>.bad
theorem RS.bind_ok(a:α)(Z:aZ)(f:α->aZ->RS β):(RS.ok a Z).bind f=f a Z:=rfl
abbrev dP:=@RS.bind_ok
def Lv(α:bb Pz)(Z:aZ):b8:=λb=>∃(i:Nat) (c:Cell),α[i]?=Bn b/\Z[i]?=Bn c/\c≠Cell.dead
def ow(B:b8)(α:bb Pz)(Z:aZ):b8:=λb=>B b\/Lv α Z b
section
variable(O:b8)(K:Po)(H:Hp)(Z:bb Pz)
def ZP(v:V):AV->Prop
 |.fz d=>DV O K H v d
 |.rf i=>∃a,Z[i]?=Bn a/\v=.ref a
def SU(v:V):SV->Prop
 |.fz d=>DV O K H v d
 |.rf i=>∃a,Z[i]?=Bn a/\v=.ref a
 |.tp l=>∃a xs,v=.ref a/\UQ O K H a xs/\Paired (ZP O K H Z) xs l
abbrev Sh:bb V->bb SV->Prop:=Paired (SU O K H Z)
def ZJ(a:Pz):Cell->Prop
 |.lst xs=>∃vs,H a=Bn (.lst vs)/\Sh O K H Z vs xs
 |.Vo Qk=>∃ws:bb (cT×V),H a=Bn (.dK ws)/\Paired (λ(p:cT×V) (q:cT×SV)=>p.1=q.1/\SU O K H Z p.2 q.2) ws Qk
 |.obj C fs=>∃Ca dx ws,Qj K P8 C=Bn (Bn (.ref Ca))/\H a=Bn (.ins Ca dx ws)/\Paired (λ(p:Str×V) (q:Str×SV)=>p.1=q.1/\SU O K H Z p.2 q.2) ws fs
 |.dd Qk=>∃xs,H a=Bn (LD.DkO a xs)/\LD.PrD O K H xs Qk
 |.dead=>True
def SR(a:L2.St)(ρ:bv):Prop:=a.length=ρ.length/\∀(i:Nat) (x:SV),ρ[i]?=Bn (Bn x)->∃v,a[i]?=Bn (Bn v)/\SU O K H Z v x
end
structure Qr(B:b8)(K:Po)(H:Hp)(α:bb Pz)(Z:aZ):Prop where
 len:α.length=Z.length
 nd:∀(i j:Nat) (a:Pz),α[i]?=Bn a->α[j]?=Bn a->i=j
 bn:∀a,B a->H a≠Pn
 ba:∀a,B a->∀i:Nat,α[i]?≠Bn a
 al:∀(i:Nat) (a:Pz),α[i]?=Bn a->H a≠Pn
 Ww:∀(i:Nat) (a:Pz) (c:Cell),α[i]?=Bn a->Z[i]?=Bn c->ZJ (ow B α Z) K H α a c
structure RK(α:bb Pz)(Z:aZ)(H:Hp)(α':bb Pz)(Z':aZ)(H':Hp):Prop where
 pre:∀(i:Nat) (a:Pz),α[i]?=Bn a->α'[i]?=Bn a
 kp:∀b o,H b=Bn o->¬Lv α Z b->H' b=Bn o
 lv:∀b,Lv α' Z' b->Lv α Z b\/H b=Pn
section
variable{B O N:b8}{K:Po}{E:XK}{H U Q M:Hp}{Y X T R:bb Pz}{Z S Z1 Z2:aZ}{σ:L2.St}{ρ:bv}{v:V}
theorem RK.refl:RK Y Z H Y Z H:=⟨λ_ _ h=>h,λ_ _ h _=>h,λ_ h=>.inl h⟩
theorem RK.trans(a:RK Y Z H T Z1 Q)(b:RK T Z1 Q R Z2 M):RK Y Z H R Z2 M:=by
 have d:∀b o,H b=Bn o->¬Lv Y Z b->¬Lv T Z1 b:=λb o h n z=>(a.lv b z).elim n λq=>by rw[h]at q;cases q
 refine⟨λi p h=>b.pre i p (a.pre i p h),λp o h n=>b.kp p o (a.kp p o h n) (d p o h n),λp h=>?_⟩;rcases b.lv p h with h|h
 .exact a.lv p h
 .cases q:H p with
  |none=>exact .inr rfl
  |some o=>refine .inl (Classical.byContradiction λn=>?_);rw[a.kp p o q n]at h;cases h
theorem RK.same(s:Rx H U):RK Y Z H Y Z U:=⟨λ_ _ h=>h,λb o h _=>s b o h,λ_ h=>.inl h⟩
theorem RK.ev(e:RK Y Z H X S U):Ev (ow B Y Z) H (ow B X S) U:=λb o h n=>
 ⟨e.kp b o h λz=>n (.inr z),λz=>z.elim (λq=>n (.inl q)) λq=>(e.lv b q).elim (λq=>n (.inr q)) λq=>by rw[h]at q;cases q⟩
theorem ZP.ev(e:Ev O H N U)(p:∀(i:Nat) (a:Pz),Y[i]?=Bn a->X[i]?=Bn a)(h:ZP O K H Y v x):ZP N K U X v x:=by
 cases x with
 |fz d=>exact DV.ev e h
 |rf i=>obtain⟨a,f,b⟩:=h;exact⟨a,p i a f,b⟩
theorem SU.ev(e:Ev O H N U)(p:∀(i:Nat) (a:Pz),Y[i]?=Bn a->X[i]?=Bn a)(h:SU O K H Y v x):SU N K U X v x:=by
 cases x with
 |fz d=>exact DV.ev e h
 |rf i=>obtain⟨a,f,b⟩:=h;exact⟨a,p i a f,b⟩
 |tp l=>obtain⟨a,xs,f,b,g⟩:=h;exact⟨a,xs,f,b.ev e,Paired.Ub g λ_ _ q=>q.ev e p⟩
theorem SU.SJ(e:RK Y Z H X S U)(h:SU (ow B Y Z) K H Y v x):SU (ow B X S) K U X v x:=h.ev e.ev e.pre
theorem Sh.SJ(e:RK Y Z H X S U)(h:Sh (ow B Y Z) K H Y vs xs):Sh (ow B X S) K U X vs xs:=Paired.Ub h λ_ _ q=>q.SJ e
theorem SR.SJ(e:RK Y Z H X S U)(h:SR (ow B Y Z) K H Y σ ρ):SR (ow B X S) K U X σ ρ:=⟨h.1,λi x q=>let⟨v,h1,h2⟩:=h.2 i x q;⟨v,h1,h2.SJ e⟩⟩
theorem ZJ.ev(e:Ev O H N U)(p:∀(i:Nat) (a:Pz),Y[i]?=Bn a->X[i]?=Bn a)(ha:∀o,H a=Bn o->U a=Bn o)(h:ZJ O K H Y a c):ZJ N K U X a c:=by
 cases c with
 |lst xs=>obtain⟨vs,d,b⟩:=h;exact⟨vs,ha _ d,Paired.Ub b λ_ _ q=>q.ev e p⟩
 |Vo Qk=>obtain⟨ws,d,b⟩:=h;exact⟨ws,ha _ d,Paired.Ub b λ_ _ q=>⟨q.1,q.2.ev e p⟩⟩
 |obj C fs=>obtain⟨g,dx,ws,f,d,b⟩:=h;exact⟨g,dx,ws,f,ha _ d,Paired.Ub b λ_ _ q=>⟨q.1,q.2.ev e p⟩⟩
 |dd Qk=>obtain⟨xs,d,b⟩:=h;exact⟨xs,ha _ d,Paired.Ub b λ_ _ q=>⟨q.1,q.2.1.ev e,q.2.2.ev e⟩⟩
 |dead=>trivial
theorem Qr.W8(s:Qr B K H Y Z):oY (ow B Y Z) H:=λa h z=>z.elim (λq=>s.bn a q h) λ⟨i,c,q,_⟩=>s.al i a q h
theorem Qr.owd(s:Qr B K H Y Z):∀a,ow B Y Z a->H a≠Pn:=λa z h=>s.W8 a h z
theorem Qr.grow(s:Qr B K H Y Z)(e:Rx H U):Qr B K U Y Z:=by have n:∀a,H a≠Pn->U a≠Pn:=λa h z=>h (e.free z);exact⟨s.len,s.nd,λa h=>n a (s.bn a h),s.ba,λi a h=>n a (s.al i a h),λi a c d b=>(s.Ww i a c d b).ev (Ev.grow e) (λ_ _ h=>h) λo h=>e _ _ h⟩
theorem Qr.at(s:Qr B K H Y Z){i:Nat}(h:Z[i]?=Bn c):∃a,Y[i]?=Bn a:=by have:i<Z.length:=(Pu.mp h).1;rw[<-s.len]at this;exact⟨_,PM this⟩
theorem Qr.Zu(s:Qr B K H Y Z){i:Nat}(h:Y[i]?=Bn a):¬B a:=λz=>s.ba a z i h
theorem zS{i:Nat}{c l:Cell}(h:Z[i]?=Bn c)(m:c≠.dead)(n:l≠.dead){b:Pz}:Lv Y (Z.set i l) b↔Lv Y Z b:=by
 constructor
 .rintro⟨j,d,f,a,g⟩
  rcases cG a with⟨rfl,rfl⟩|⟨_,a⟩
  .exact⟨j,c,f,h,m⟩
  .exact⟨j,d,f,a,g⟩
 .rintro⟨j,d,f,a,g⟩
  by_cases e:j=i
  .subst e;exact⟨j,l,f,by rw[QI (Pu.mp h).1],n⟩
  .exact⟨j,d,f,by rw[Qv (λz=>e z.symm)];exact a,g⟩
theorem Mv(h:Z[i]?=Bn c)(a:c≠.dead)(d:c'≠.dead):ow B Y (Z.set i c')=ow B Y Z:=by funext b;exact propext ⟨λz=>z.imp id (zS h a d).mp,λz=>z.imp id (zS h a d).mpr⟩
theorem RK.put(ha:Y[i]?=Bn a)(h:Z[i]?=Bn c)(d:c≠.dead)(f:c'≠.dead):RK Y Z H Y (Z.set i c') (bS H a o):=
 ⟨λ_ _ h=>h,λb g q n=>by have z:b≠a:=λe=>n ⟨i,c,by rw[e];exact ha,h,d⟩;rw[a9 z];exact q,λb z=>.inl ((zS h d f).mp z)⟩
theorem Qr.put(s:Qr B K H Y Z)(ha:Y[i]?=Bn a)(h:Z[i]?=Bn c)(l:c≠.dead)(m:c'≠.dead)(new:ZJ (ow B Y Z) K (bS H a o) Y a c'):Qr B K (bS H a o) Y (Z.set i c'):=by
 have e:RK Y Z H Y (Z.set i c') (bS H a o):=RK.put ha h l m;have n:∀b,H b≠Pn->bS H a o b≠Pn:=λb h=>by
  by_cases z:b=a
  .subst z;rw[aJ];simp
  .rw[a9 z];exact h
 refine⟨by rw[Ra];exact s.len,s.nd,λb h=>n b (s.bn b h),s.ba,λj b h=>n b (s.al j b h),λj b d f g=>?_⟩;rcases cG g with⟨rfl,rfl⟩|⟨p,g⟩
 .rw[ha]at f;cases f;rw[Mv h l m];exact new
 .exact(s.Ww j b d f g).ev e.ev e.pre λu q=>by rw[a9 (λz=>p (s.nd j i a (by rw[<-z];exact f) ha))];exact q
theorem qI{i:Nat}{a:Pz}{c:Cell}{o:HO}(ha:Y[i]?=Bn a)(h:Z[i]?=Bn c)(b:c≠.dead):Ev (ow B Y Z) H (ow B Y Z) (bS H a o):=Ev.mut (.inr ⟨i,c,ha,h,b⟩) o
theorem cz{Y:Type}{l:bb Y}{x y:Y}{i:Nat}(h:(l++[x])[i]?=Bn y):l[i]?=Bn y\/(i=l.length/\y=x):=by
 by_cases hi:i<l.length
 .rw[P9 hi]at h;exact .inl h
 .rw[Qq (by ext)]at h
  cases q:i - l.length with
  |zero=>rw[q]at h;cases h;exact .inr ⟨by ext,rfl⟩
  |succ n=>rw[q]at h;cases h
theorem im{Y:Type}{l:bb Y}{x y:Y}{i:Nat}(h:l[i]?=Bn y):(l++[x])[i]?=Bn y:=by rw[P9 (Pu.mp h).1];exact h
theorem bf:(l++[x])[l.length]?=Bn x:=by simp
theorem vP(g:Y.length=Z.length)(h:Lv (Y++[p]) (Z++[c]) b):Lv Y Z b\/b=p:=by
 obtain⟨i,d,a,e,f⟩:=h;rcases cz a with a|⟨e1,e2⟩
 .rcases cz e with e|⟨e1,e2⟩
  .exact .inl ⟨i,d,a,e,f⟩
  .have:=(Pu.mp a).1;ext
 .exact .inr e2
theorem RK.Xn(f:Y.length=Z.length)(s:Rx H U)(d:H p=Pn):RK Y Z H (Y++[p]) (Z++[c]) U:=
 ⟨λi a h=>im h,λb u q _=>s b u q,λb z=>(vP f z).imp id λe=>by rw[e];exact d⟩
theorem Qr.Xn(s:Qr B K H Y Z)(e:Rx H U)(l:H p=Pn)(m:U p≠Pn)(new:ZJ (ow B (Y++[p]) (Z++[c])) K U (Y++[p]) p c):Qr B K U (Y++[p]) (Z++[c]):=by
 have ev:RK Y Z H (Y++[p]) (Z++[c]) U:=RK.Xn s.len e l;have n:∀b,H b≠Pn->U b≠Pn:=λb h z=>h (e.free z);refine⟨by rw[PJ,PJ,s.len];rfl,λi j a f g=>?_,λa h=>n a (s.bn a h),λa h i q=>?_,λi a h=>?_,λi a d f g=>?_⟩
 .rcases cz f with g1|⟨e1,e2⟩<;>rcases cz g with g2|⟨e3,e4⟩
  .exact s.nd i j a g1 g2
  .exact a5 (by rw[e4];exact l) (s.al i a g1)
  .exact a5 (by rw[e2];exact l) (s.al j a g2)
  .omega
 .rcases cz q with q|⟨_,e2⟩
  .exact s.ba a h i q
  .subst e2;exact s.bn a h l
 .rcases cz h with h|⟨_,e2⟩
  .exact n a (s.al i a h)
  .subst e2;exact m
 .rcases cz g with g|⟨e1,e2⟩
  .rcases cz f with f|⟨e1,_⟩
   .exact(s.Ww i a d f g).ev ev.ev ev.pre λo q=>e _ _ q
   .have:=(Pu.mp g).1;have:=s.len;ext
  .rcases cz f with f|⟨_,e3⟩
   .have:=(Pu.mp f).1;have:=s.len;ext
   .subst e2 e3;exact new
def WS(K:Po)(E:XK)(B:b8)(H:Hp)(Y:bb Pz)(Z:aZ)(P:A->bb Pz->aZ->Hp->Prop):RS A->Prop
 |.ok a S=>∀X U,RK Y Z H X S U->Qr B K U X S->P a X S U
 |.er x S=>∀c dx X U,RK Y Z H X S U->Qr B K U X S->Zk K (ow B X S) U c dx x->E c dx U
 |.bad=>False
theorem WS.from(e:RK Y Z H T Z1 Q)(h:WS K E B H Y Z P r):WS K E B Q T Z1 P r:=by
 cases r with
 |ok a Z2=>exact λR M d b=>h R M (e.trans d) b
 |er x Z2=>exact λc dx R M d b=>h c dx R M (e.trans d) b
 |bad=>exact h
theorem WS.bind(h:WS K E B H Y Z P (r.bind k)):WS K E B H Y Z (λa T Z1 Q=>WS K E B Q T Z1 P (k a Z1)) r:=by
 cases r with
 |ok a Z1=>exact λT Q b _=>WS.from b h
 |er x Z1=>exact h
 |bad=>exact h
theorem WS.QL(h:WS K E B H Y Z P ((RS.QL Z o).bind k)):∃a,o=Bn a/\WS K E B H Y Z P (k a Z):=by
 cases o with
 |none=>exact h.elim
 |some a=>exact⟨a,rfl,h⟩
theorem WS.imp(h:WS K E B H Y Z P r)(g:∀a X S U,RK Y Z H X S U->Qr B K U X S->P a X S U->P' a X S U):WS K E B H Y Z P' r:=by
 cases r with
 |ok a Z1=>exact λT Q d b=>g a T Z1 Q d b (h T Q d b)
 |er x Z1=>exact h
 |bad=>exact h
theorem WS.now(s:Qr B K H Y Z)(h:WS K E B H Y Z P (.ok a Z)):P a Y Z H:=h Y H .refl s
end
abbrev eK:=bv->aZ->RS SV
abbrev yB:=bv->aZ->RS Bool
abbrev xy:=bv->aZ->RS (bb SV)
def eF(K:Po)(E:XK)(t:TE)(f:eK):Prop:=
 ∀(B:b8) (b:L2.St) (H:Hp) (α:bb Pz) (Z:aZ) (ρ:bv) (Q:VK),Qr B K H α Z->SR (ow B α Z) K H α b ρ->WS K E B H α Z (λx a e d=>∀v,SU (ow B a e) K d a v x->Q v d) (f ρ Z)->t b H Q
def yy(K:Po)(E:XK)(t:TT)(f:yB):Prop:=
 ∀(B:b8) (a:L2.St) (H:Hp) (α:bb Pz) (Z:aZ) (ρ:bv) (Q:Bool->Hp->Prop),Qr B K H α Z->SR (ow B α Z) K H α a ρ->WS K E B H α Z (λb _ _ d=>Q b d) (f ρ Z)->t a H Q
def Cw(K:Po)(E:XK)(t:TA)(f:xy):Prop:=
 ∀(B:b8) (b:L2.St) (H:Hp) (α:bb Pz) (Z:aZ) (ρ:bv) (Q:bb V->Hp->Prop),Qr B K H α Z->SR (ow B α Z) K H α b ρ->WS K E B H α Z (λxs a e d=>∀vs,Sh (ow B a e) K d a vs xs->Q vs d) (f ρ Z)->t b H Q
section
variable{B O M:b8}{K:Po}{E:XK}{H P T H2:Hp}{Y N X J:bb Pz}{Z Z' Z1 Z2:aZ}{U:L2.St}{ρ:bv}{v:V}
def JB:bg SV->bg PV
 |some (.fz d)=>Bn (.fz d)
 |_=>Pn
def cB(ρ:bv):aO:=ρ.map JB
theorem t9{i:Nat}(h:(cB ρ)[i]?=Bn (Bn x)):∃d,x=.fz d/\ρ[i]?=Bn (Bn (.fz d)):=by
 unfold cB at h;rw[PU]at h;cases q:ρ[i]? with
 |none=>rw[q]at h;cases h
 |some o=>
  rw[q]at h;have a:=P4 h;unfold JB at a;split at a
  .cases a;exact⟨_,rfl,rfl⟩
  .cases a
theorem Ej(s:Qr B K H Y Z)(sl:SR (ow B Y Z) K H Y U ρ):Rl K (ow B Y Z) H (ow B Y Z) U H (cB ρ):=by
 refine⟨Rx.refl _,λ_ h=>h,s.owd,s.W8,by unfold cB;rw[Pp];exact sl.1,λi x h=>?_,λi j ds g w h=>?_⟩
 .obtain⟨d,rfl,a⟩:=t9 h;obtain⟨v,f,b⟩:=sl.2 i _ a;exact⟨v,f,b⟩
 .obtain⟨d,e,_⟩:=t9 h;cases e
def lR(Z:aZ):RV->RS SV
 |.fz d=>.ok (.fz d) Z
 |.ow ds=>.ok (.rf Z.length) (Z++[.lst (ds.map .fz)])
abbrev PQ(B:b8)(K:Po)(Q:VK):SV->bb Pz->aZ->Hp->Prop:=λx N Z' P=>∀v,SU (ow B N Z') K P N v x->Q v P
theorem oa(O:b8)(Y:bb Pz):∀{vs:bb V} {ds:bb D},Rk O K H vs ds->Sh O K H Y vs (ds.map .fz)
 |_,_,.nil=>.nil
 |_,_,.cons h t=>.cons h (oa O Y t)
theorem DZ:∀{vs:bb V} {ds:bb D},Sh O K H Y vs (ds.map .fz)->Rk O K H vs ds
 |_,[],.nil=>.nil
 |_,_::_,.cons h t=>.cons h (DZ t)
theorem rb(s:Qr B K H Y Z)(w:WS K E B H Y Z (PQ B K Q) (lR Z (.ow ds)))(e:Rx H P)(a:H p=Pn)(h:P p=Bn (.lst vs))(hd:Rk M K P vs ds)(d:∀b,ow B Y Z b->M b)(f:M p):Q (.ref p) P:=by
 have sub:∀b,ow B (Y++[p]) (Z++[.lst (ds.map .fz)]) b->M b:=λb z=>z.elim (λq=>d b (.inl q)) λq=>(vP s.len q).elim (λq=>d b (.inr q)) λq=>by rw[q];exact f
 exact w (Y++[p]) P (RK.Xn s.len e a) (s.Xn e a (by rw[h];simp) ⟨vs,h,oa _ _ (hd.ev (Ev.sub sub))⟩) (.ref p) ⟨p,by rw[<-s.len];exact bf,rfl⟩
theorem Fg(s:Qr B K H Y Z)(w:WS K E B H Y Z (PQ B K Q) (lR Z rv)):Fin (ow B Y Z) K H Q rv:=by
 cases rv with
 |fz d=>exact λv P e a=>w Y P (RK.same e) (s.grow e) v a
 |ow ds=>exact λp vs P e f h a=>rb s w e f h a (λb z=>.inl z) (.inr rfl)
def ag(f:FE):eK:=λρ Z=>match f (cB ρ)with
 |.ok (.fz d,_)=>.ok (.fz d) Z
 |.ok (.ow ds,_)=>lR Z (.ow ds)
 |.ok (.pl _,_)=>.bad
 |.er x=>.er x Z
 |.bad=>.bad
theorem aB(h:EO K E t f):eF K E t (ag f):=by
 intro B U H Y Z ρ Q s sl w;refine h (ow B Y Z) H (ow B Y Z) U H (cB ρ) Q (Ej s sl) ?_;unfold ag at w;cases q:f (cB ρ)with
 |bad=>rw[q]at w;exact w.elim
 |er x=>rw[q]at w;exact λc dx P e k=>w c dx Y P (RK.same e) (s.grow e) k
 |ok r=>
  obtain⟨pv,b⟩:=r;rw[q]at w;intro M v P e R p;cases pv with
  |fz d=>exact w Y P (RK.same R.same) (s.grow R.same) v (DV.ev (Ev.sub R.bo) p)
  |ow ds=>obtain⟨a,vs,rfl,m,l,j,g,n⟩:=p;exact rb s w R.same l j g R.bo m
  |pl i=>exact w.elim
def bT(f:FT):yB:=λρ Z=>match f (cB ρ)with
 |.ok (b,_)=>.ok b Z
 |.er x=>.er x Z
 |.bad=>.bad
theorem gI(h:Xa K E t f):yy K E t (bT f):=by
 intro B U H Y Z ρ Q s sl w;refine h (ow B Y Z) H (ow B Y Z) U H (cB ρ) Q (Ej s sl) ?_;unfold bT at w;cases q:f (cB ρ)with
 |bad=>rw[q]at w;exact w.elim
 |er x=>rw[q]at w;exact λc dx P e k=>w c dx Y P (RK.same e) (s.grow e) k
 |ok r=>obtain⟨b,a⟩:=r;rw[q]at w;exact λM P e R=>w Y P (RK.same R.same) (s.grow R.same)
def az(i:Nat):eK:=λρ Z=>match ρ[i]? with
 |some (Bn x)=>.ok x Z
 |_=>.bad
theorem bj:eF K E (CM i) (az i):=by
 intro B U H Y Z ρ Q s sl w;unfold az at w;cases q:ρ[i]? with
 |none=>rw[q]at w;exact w.elim
 |some o=>
  cases o with
  |none=>rw[q]at w;exact w.elim
  |some x=>rw[q]at w;obtain⟨v,b,a⟩:=sl.2 i x q;exact⟨v,b,WS.now s w v a⟩
def jj(K:Po)(C:Str)(fs:bb Str):Prop:=∃Ca,Qj K P8 C=Bn (Bn (.ref Ca))/\Ys K Ca/\∀f∈fs,US K Ca f
def b4(C f:Str)(e:eK):eK:=λρ Z=>(e ρ Z).bind λx Z1=>match x with
 |.rf i=>(match Z1[i]? with
  |some (.obj D fs)=>if D=C then RS.QL Z1 (fs.lookup f)else .bad
  |_=>.bad)
 |_=>.bad
theorem uz:∀{ws:bb (Str×V)} {fs:bb (Str×SV)},Paired (λ(p:Str×V) (q:Str×SV)=>p.1=q.1/\SU O K H Y p.2 q.2) ws fs->fs.lookup f=Bn x->∃v,ws.lookup f=Bn v/\SU O K H Y v x
 |_,_,.nil,h=>by cases h
 |(a,v)::ws,(b,y)::fs,.cons ⟨h1,h2⟩ t,h=>by
  cases h1;rw[P6]at h⊢;split at h
  .cases h;exact⟨v,rfl,h2⟩
  .exact uz t h
theorem tY:∀{ws:bb (Str×V)} {fs:bb (Str×SV)},Paired (λ(p:Str×V) (q:Str×SV)=>p.1=q.1/\SU O K H Y p.2 q.2) ws fs->fs.lookup f=Pn->ws.lookup f=Pn
 |_,_,.nil,h=>rfl
 |(a,v)::ws,(b,y)::fs,.cons ⟨h1,h2⟩ t,h=>by
  cases h1;rw[P6]at h⊢;split at h
  .cases h
  .exact tY t h
theorem gY(o:jj K C L)(n:f∈L)(ha:eF K E ta fa):eF K E (NM K ta f) (b4 C f fa):=by
 intro B U H Y Z ρ Q s sl w;refine ha B U H Y Z ρ _ s sl (w.bind.imp λx X Z1 T G e b v j=>?_);cases x with
 |fz d=>exact b.elim
 |tp l=>exact b.elim
 |rf i=>
  obtain⟨a,ha,rfl⟩:=j;dsimp only at b;cases q:Z1[i]? with
  |none=>rw[q]at b;exact b.elim
  |some c=>
   rw[q]at b;cases c with
   |obj D fs=>
    dsimp only at b;by_cases z:D=C
    .subst z
     rw[av rfl]at b;obtain⟨F,dx,ws,t,r,p⟩:=e.Ww i a _ ha q;cases ql:fs.lookup f with
     |none=>rw[ql]at b;exact b.elim
     |some x=>rw[ql]at b;obtain⟨u,m,h⟩:=uz p ql;obtain⟨I,g,A,y⟩:=o;rw[t]at g;cases g;exact⟨a,F,dx,ws,u,rfl,r,A,y f n,m,WS.now e b u h⟩
    .rw[ax z]at b;exact b.elim
   |_=>exact b.elim
def aC{Y a:Type}(f:Y->bg a):bb Y->bg (bb a)
 |[]=>Bn []
 |x::r=>match f x with
  |some y=>(match aC f r with
   |some b=>Bn (y::b)
   |none=>Pn)
  |none=>Pn
def jw:Nat->aZ->SV->bg D
 |_,_,.fz d=>Bn d
 |0,_,_=>Pn
 |n+1,Z,.rf i=>match Z[i]? with
  |some (.lst xs)=>(aC (jw n Z) xs).map .list
  |_=>Pn
 |n+1,Z,.tp l=>(aC (λx=>jw n Z x.sv) l).map .tuple
theorem cM{Y a:Type}{f:Y->bg a}{R:V->Y->Prop}{S:V->a->Prop}(h:∀v x y,R v x->f x=Bn y->S v y):∀{vs:bb V} {xs:bb Y} {ys:bb a},Paired R vs xs->aC f xs=Bn ys->Paired S vs ys
 |_,_,_,.nil,e=>by cases e;exact .nil
 |_,_,_,.cons (b:=x) (l₂:=xs) r t,e=>by
  unfold aC at e;cases q:f x with
  |none=>rw[q]at e;cases e
  |some y=>
   rw[q]at e;dsimp only at e;cases q2:aC f xs with
   |none=>rw[q2]at e;cases e
   |some ys=>rw[q2]at e;cases e;exact .cons (h _ _ _ r q) (cM h t q2)
theorem jA:∀{vs:bb V} {ds:bb D},Paired (DV O K H) vs ds->Rk O K H vs ds
 |_,_,.nil=>.nil
 |_,_,.cons h t=>.cons h (jA t)
theorem Jq:Ev O H W8 H:=Ev.sub λ_ z=>z.elim
theorem jV(s:Qr B K H Y Z):∀(n:Nat) {v:V} {x:SV} {d:D},SU (ow B Y Z) K H Y v x->jw n Z x=Bn d->DV W8 K H v d
 |n,v,.fz d',d,h,e=>by
  have g:Bn d'=Bn d:=by cases n<;>exact e
  cases g;exact DV.ev Jq h
 |0,v,.rf i,d,h,e=>by cases e
 |0,v,.tp l,d,h,e=>by cases e
 |n+1,v,.rf i,d,h,e=>by
  obtain⟨a,ha,rfl⟩:=h;unfold jw at e;cases q:Z[i]? with
  |none=>rw[q]at e;cases e
  |some c=>
   rw[q]at e;cases c with
   |lst xs=>
    dsimp only at e;cases q2:aC (jw n Z) xs with
    |none=>rw[q2]at e;cases e
    |some ds=>rw[q2]at e;cases e;obtain⟨vs,f,b⟩:=s.Ww i a _ ha q;exact .lst ⟨TN.of f,λz=>z.elim⟩ (jA (cM (R:=SU (ow B Y Z) K H Y) (λv x y r e=>jV s n r e) b q2))
   |_=>cases e
 |n+1,v,.tp l,d,h,e=>by
  obtain⟨a,xs,rfl,f,b⟩:=h;unfold jw at e;cases q2:aC (λx=>jw n Z x.sv) l with
  |none=>rw[q2]at e;cases e
  |some ds=>rw[q2]at e;cases e;exact .tup (f.ev Jq) (jA (cM (λv x y r e=>jV s n (by cases x<;>exact r) e) b q2))
def sB:SV->bg D
 |.fz d=>Bn d
 |_=>Pn
def sh(Z:aZ):SV->bg D
 |.fz d=>Bn d
 |.rf i=>match Z[i]? with
  |some (.lst xs)=>(aC sB xs).map .list
  |_=>Pn
 |.tp _=>Pn
theorem Dz(s:Qr B K H Y Z)(h:SU (ow B Y Z) K H Y v x)(e:sh Z x=Bn d):DX (ow B Y Z) K H v d:=by
 cases x with
 |fz g=>cases e;exact DV.x h
 |tp l=>cases e
 |rf i=>
  obtain⟨a,ha,rfl⟩:=h;unfold sh at e;dsimp only at e;cases q:Z[i]? with
  |none=>rw[q]at e;cases e
  |some c=>
   rw[q]at e;cases c with
   |lst xs=>
    dsimp only at e;cases q2:aC sB xs with
    |none=>rw[q2]at e;cases e
    |some ds=>
     rw[q2]at e;cases e;obtain⟨vs,f,b⟩:=s.Ww i a _ ha q;refine⟨a,vs,rfl,TN.of f,jA (cM (λv x y r e=>?_) b q2)⟩;cases x with
     |fz d=>cases e;exact r
     |rf i=>cases e
     |tp l=>cases e
   |_=>cases e
def z9:D->Bool
 |.none=>Pr
 |.bool _=>Pr
 |.int _=>Pr
 |.str _=>Pr
 |_=>Py
theorem G4(h:z9 d=Pr)(a:DV O K H v d):DV M K P v d:=by
 cases a with
 |Sz=>exact .Sz
 |bl b=>exact .bl b
 |int i=>exact .int i
 |str x=>exact .str x
 |tup _ _=>cases h
 |lst _ _=>cases h
def nI(Z:aZ):RV->RS SV
 |.fz d=>if z9 d=Pr then .ok (.fz d) Z else .bad
 |.ow _=>.bad
theorem AW(s:Qr B K H Y Z)(w:WS K E B H Y Z (PQ B K Q) (nI Z rv)):Fin W8 K H Q rv:=by
 cases rv with
 |fz d=>
  have w:WS K E B H Y Z (PQ B K Q) (if z9 d=Pr then RS.ok (SV.fz d) Z else RS.bad):=w;by_cases z:z9 d=Pr
  .rw[av z]at w;exact λv P e a=>w Y P (RK.same e) (s.grow e) v (G4 z a)
  .rw[ax z]at w;exact w.elim
 |ow ds=>exact w.elim
theorem Fp:oY W8 H:=λ_ _ z=>z
def sL(f:D->D->bg RV)(x y:SV)(Z:aZ):RS SV:=match sh Z x,sh Z y with
 |some dx,Bn a=>(RS.QL Z (f dx a)).bind λrv Z1=>lR Z1 rv
 |_,_=>(RS.QL Z (jw 6 Z x)).bind λdx Z1=>(RS.QL Z1 (jw 6 Z1 y)).bind λa Z2=>(RS.QL Z2 (f dx a)).bind λrv b=>nI b rv
theorem DF(l:nM K r f)(s:Qr B K H Y Z)(hx:SU (ow B Y Z) K H Y x a)(j:SU (ow B Y Z) K H Y y b)(w:WS K E B H Y Z (PQ B K Q) (sL f a b Z)):r x y H Q:=by
 have d:WS K E B H Y Z (PQ B K Q) ((RS.QL Z (jw 6 Z a)).bind λdx Z1=>(RS.QL Z1 (jw 6 Z1 b)).bind λh Z2=>(RS.QL Z2 (f dx h)).bind λrv m=>nI m rv)->r x y H Q:=λw=>by obtain⟨dx,e,w⟩:=w.QL;obtain⟨h,g,w⟩:=w.QL;obtain⟨rv,i,w⟩:=w.QL;exact l W8 H x y dx h rv Q Fp (DV.x (jV s 6 hx e)) (DV.x (jV s 6 j g)) i (AW s w)
 unfold sL at w;cases e:sh Z a with
 |none=>rw[e]at w;exact d w
 |some dx=>
  cases g:sh Z b with
  |none=>rw[e,g]at w;exact d w
  |some h=>rw[e,g]at w;obtain⟨rv,i,w⟩:=w.QL;exact l _ H x y dx h rv Q s.W8 (Dz s hx e) (Dz s j g) i (Fg s w)
def kg(f:D->D->bg RV)(fa fb:eK):eK:=λρ Z=>(fa ρ Z).bind λx Z1=>(fb ρ Z1).bind λy Z2=>sL f x y Z2
theorem eU(i:nM K r f)(ha:eF K E ta fa)(j:eF K E tb fb):eF K E (J8 r ta tb) (kg f fa fb):=by intro B U H Y Z ρ Q s sl w;refine ha B U H Y Z ρ _ s sl (w.bind.imp λx X Z1 T m e b v g=>?_);refine j B U T X Z1 ρ _ e (sl.SJ m) (b.bind.imp λy J Z2 H2 l d a u h=>?_);exact DF i d (g.SJ l) h a
def GI:SV->bg Bool
 |.fz (.bool b)=>Bn b
 |_=>Pn
theorem IU(e:GI x=Bn b)(h:SU O K H Y v x):v=.bl b:=by
 unfold GI at e;split at e
 .cases e;cases h;rfl
 .cases e
def bM(fa:eK):yB:=λρ Z=>(fa ρ Z).bind λx Z1=>RS.QL Z1 (GI x)
theorem dW(ha:eF K E ta fa):yy K E (Aj ta) (bM fa):=by
 intro B U H Y Z ρ Q s sl w;refine ha B U H Y Z ρ _ s sl (w.bind.imp λx X Z1 T f d a v e=>?_);cases q:GI x with
 |none=>rw[q]at a;exact a.elim
 |some b=>rw[q]at a;exact⟨b,IU q e,WS.now d a⟩
theorem DG(ha:eF K E ta fa):yy K E (tB ta) (bM fa):=dW ha
def jS(fa fb:yB):yB:=λρ Z=>(fa ρ Z).bind λb Z1=>if b=Pr then fb ρ Z1 else .ok Py Z1
def zc(fa fb:yB):yB:=λρ Z=>(fa ρ Z).bind λb Z1=>if b=Pr then .ok Pr Z1 else fb ρ Z1
def sV(fa:yB):yB:=λρ Z=>(fa ρ Z).bind λb Z1=>.ok (!b) Z1
theorem lF(h1:yy K E t f)(e:yy K E u g):yy K E (Ms t u) (jS f g):=by
 intro B U H Y Z ρ Q s sl w;refine h1 B U H Y Z ρ _ s sl (w.bind.imp λb X Z1 T h d a=>?_);cases b with
 |true=>exact e B U T X Z1 ρ Q d (sl.SJ h) a
 |false=>exact WS.now d a
theorem qM(h1:yy K E t f)(e:yy K E u g):yy K E (OB t u) (zc f g):=by
 intro B U H Y Z ρ Q s sl w;refine h1 B U H Y Z ρ _ s sl (w.bind.imp λb X Z1 T h d a=>?_);cases b with
 |true=>exact WS.now d a
 |false=>exact e B U T X Z1 ρ Q d (sl.SJ h) a
theorem wB(h1:yy K E t f):yy K E (K6 t) (sV f):=by intro B U H Y Z ρ Q s sl w;exact h1 B U H Y Z ρ _ s sl (w.bind.imp λb X Z1 T e d a=>WS.now d a)
def rC:yB:=λ_ Z=>.ok Pr Z
theorem xK:yy K E Fq rC:=λB U H Y Z ρ Q s sl w=>WS.now s w
def yH(fa fb:eK):eK:=λρ Z=>(bM fa ρ Z).bind λb Z1=>if b=Pr then fb ρ Z1 else .ok (.fz (.bool Py)) Z1
theorem wf(ha:eF K E ta fa)(e:eF K E tb fb):eF K E (F3 ta tb) (yH fa fb):=by
 intro B U H Y Z ρ Q s sl w;refine dW ha B U H Y Z ρ (λc T=>if c=Pr then tb U T Q else Q (.bl Py) T) s sl (w.bind.imp λb X Z1 T f d a=>?_);cases b with
 |true=>exact e B U T X Z1 ρ Q d (sl.SJ f) a
 |false=>exact WS.now d a _ (.bl Py)
def KQ(c:yB)(fa fb:eK):eK:=λρ Z=>(c ρ Z).bind λb Z1=>if b=Pr then fa ρ Z1 else fb ρ Z1
theorem Kt(f:yy K E t c)(ha:eF K E ta fa)(g:eF K E tb fb):eF K E (OC t ta tb) (KQ c fa fb):=by
 intro B U H Y Z ρ Q s sl w;refine f B U H Y Z ρ _ s sl (w.bind.imp λb X Z1 T e d a=>?_);cases b with
 |true=>exact ha B U T X Z1 ρ Q d (sl.SJ e) a
 |false=>exact g B U T X Z1 ρ Q d (sl.SJ e) a
def bi:xy:=λ_ Z=>.ok [] Z
def au(fa:eK)(a:xy):xy:=λρ Z=>(fa ρ Z).bind λx Z1=>(a ρ Z1).bind λxs Z2=>.ok (x::xs) Z2
theorem ei:Cw K E ox bi:=λB U H Y Z ρ Q s sl w=>WS.now s w [] .nil
theorem bx(ha:eF K E ta fa)(h:Cw K E tr fr):Cw K E (kU ta tr) (au fa fr):=by intro B U H Y Z ρ Q s sl w;refine ha B U H Y Z ρ _ s sl (w.bind.imp λx X Z1 T j f d v g=>?_);refine h B U T X Z1 ρ _ f (sl.SJ j) (d.bind.imp λxs J Z2 H2 i e b vs a=>?_);exact WS.now e b (v::vs) (.cons (g.SJ i) a)
def Oa:SV->bg AV
 |.fz d=>Bn (.fz d)
 |.rf i=>Bn (.rf i)
 |.tp _=>Pn
def NV(xs:bb SV):bg SV:=match aC sB xs with
 |some ds=>Bn (.fz (.tuple ds))
 |none=>(aC Oa xs).map .tp
def mq(fa:xy):eK:=λρ Z=>(fa ρ Z).bind λxs Z1=>if xs.length<=1000 then RS.QL Z1 (NV xs)else .bad
theorem zh(r:SU O K H Y v x)(e:sB x=Bn d):DV O K H v d:=by
 cases x with
 |fz d=>cases e;exact r
 |rf i=>cases e
 |tp l=>cases e
theorem Mq(r:SU O K H Y v x)(e:Oa x=Bn d):ZP O K H Y v d:=by
 cases x with
 |fz d=>cases e;exact r
 |rf i=>cases e;exact r
 |tp l=>cases e
theorem pZ(ha:Cw K E ta fa):eF K E (Lr ta) (mq fa):=by
 intro B U H Y Z ρ Q s sl w;refine ha B U H Y Z ρ _ s sl (w.bind.imp λxs X Z1 T j d a vs f=>?_);by_cases hn:xs.length<=1000
 .rw[av hn]at a
  refine⟨by rw[f.length];exact yE hn,λp i=>?_⟩;have b:Rx T (bS T p (.tup vs)):=bV i _;have e:RK X Z1 T X Z1 (bS T p (.tup vs)):=RK.same b;have h:UQ (ow B X Z1) K (bS T p (.tup vs)) p vs:=⟨Uj.of aJ,λz=>a5 z (d.W8 p i)⟩;unfold NV at a;cases q:aC sB xs with
  |some ds=>rw[q]at a;exact a X _ e (d.grow b) _ (.tup h (jA (cM (R:=SU (ow B X Z1) K T X) (λv x y r g=>(zh r g).ev e.ev) f q)))
  |none=>
   rw[q]at a;dsimp only at a;cases q2:aC Oa xs with
   |none=>rw[q2]at a;exact a.elim
   |some l=>rw[q2]at a;exact a X _ e (d.grow b) _ ⟨p,vs,rfl,h,cM (R:=SU (ow B X Z1) K T X) (λv x y r g=>(Mq r g).ev e.ev e.pre) f q2⟩
 .rw[ax hn]at a;exact a.elim
def II(f:bb D->bg RV)(xs:bb SV)(Z:aZ):RS SV:=match aC (sh Z) xs with
 |some ds=>(RS.QL Z (f ds)).bind λrv Z1=>lR Z1 rv
 |_=>(RS.QL Z (aC (jw 6 Z) xs)).bind λds Z1=>(RS.QL Z1 (f ds)).bind λrv a=>nI a rv
def J1(f:bb D->bg RV)(fa:xy):eK:=λρ Z=>(fa ρ Z).bind λxs Z1=>II f xs Z1
theorem zN(h:BO K r f)(ha:Cw K E ta fa):eF K E (C8 r ta) (J1 f fa):=by
 intro B U H Y Z ρ Q s sl w;refine ha B U H Y Z ρ _ s sl (w.bind.imp λxs X Z1 T j b a vs g=>?_);unfold II at a;cases q1:aC (sh Z1) xs with
 |none=>rw[q1]at a;obtain⟨ds,i,a⟩:=a.QL;obtain⟨rv,d,a⟩:=a.QL;exact h W8 T vs ds rv Q Fp (cM (R:=SU (ow B X Z1) K T X) (λv x y r e=>DV.x (jV b 6 r e)) g i) d (AW b a)
 |some ds=>rw[q1]at a;obtain⟨rv,d,a⟩:=a.QL;exact h _ T vs ds rv Q b.W8 (cM (R:=SU (ow B X Z1) K T X) (λv x y r e=>Dz b r e) g q1) d (Fg b a)
end
section
variable{B O O':b8}{K:Po}{E:XK}{H J N L:Hp}{Y M X T:bb Pz}{Z U Z1 Z2:aZ}{S:L2.St}{ρ:bv}{v:V}
theorem zT:∀{vs:bb V} {xs:bb β} {i:Nat} {x:β},Paired R vs xs->xs[i]?=Bn x->∃v,vs[i]?=Bn v/\R v x
 |_,_,_,_,.nil,e=>by simp at e
 |_,_,0,_,.cons h _,e=>by simp at e;subst e;exact⟨_,rfl,h⟩
 |_,_,i+1,x,.cons _ t,e=>by obtain⟨v,b,a⟩:=zT t (by simpa using e);exact⟨v,by simpa using b,a⟩
theorem JE{vs:bb V}(h:Paired R vs xs)(e:lO xs i=Bn x):∃v,lO vs i=Bn v/\R v x:=by
 unfold lO at e⊢;rw[h.length];cases q:JH xs.length i with
 |none=>rw[q]at e;cases e
 |some j=>rw[q]at e;exact zT h e
def CC:SV->bg Int
 |.fz (.int i)=>Bn i
 |_=>Pn
theorem A8(e:CC x=Bn i)(h:SU O K H Y v x):v=.int i:=by
 unfold CC at e;split at e
 .cases e;cases h;rfl
 .cases e
def Ho(x y:SV)(Z:aZ):RS SV:=match x with
 |.fz _=>sL bc x y Z
 |.rf j=>(match Z[j]? with
  |some (.lst xs)=>(RS.QL Z (CC y)).bind λi Z1=>RS.QL Z1 (lO xs i)
  |_=>.bad)
 |.tp l=>(RS.QL Z (CC y)).bind λi Z1=>RS.QL Z1 ((lO l i).map AV.sv)
def kx(fa fb:eK):eK:=λρ Z=>(fa ρ Z).bind λx Z1=>(fb ρ Z1).bind λy Z2=>Ho x y Z2
theorem zz(ha:eF K E ta fa)(A:eF K E tb fb):eF K E (J8 (N8 K) ta tb) (kx fa fb):=by
 intro B S H Y Z ρ Q s sl w;refine ha B S H Y Z ρ _ s sl (w.bind.imp λx X Z1 N F t r v e=>?_);refine A B S N X Z1 ρ _ t (sl.SJ F) (r.bind.imp λy T Z2 L C f b u n=>?_);have e:=e.SJ C;unfold Ho at b;cases x with
 |fz d=>exact DF bO f e n b
 |rf j=>
  obtain⟨a,ha,rfl⟩:=e;dsimp only at b;cases q:Z2[j]? with
  |none=>rw[q]at b;exact b.elim
  |some c=>
   rw[q]at b;cases c with
   |lst xs=>
    obtain⟨i,h,b⟩:=WS.QL b;cases qa:lO xs i with
    |none=>rw[qa]at b;exact b.elim
    |some x=>rw[qa]at b;obtain⟨vs,p,o⟩:=f.Ww j a _ ha q;obtain⟨z,m,g⟩:=JE o qa;exact .inl ⟨a,vs,i,z,rfl,A8 h n,T6.of p,m,WS.now f b z g⟩
   |_=>exact b.elim
 |tp l=>
  obtain⟨a,xs,rfl,p,o⟩:=e;obtain⟨i,h,b⟩:=WS.QL b;cases qa:lO l i with
  |none=>rw[qa]at b;exact b.elim
  |some x=>rw[qa]at b;obtain⟨z,m,g⟩:=JE o qa;exact .inr (.inl ⟨a,xs,i,z,rfl,A8 h n,p.1,m,WS.now f b z (by cases x<;>exact g)⟩)
theorem Ja(h:Lv Y (Z.set i .dead) b):Lv Y Z b:=by
 obtain⟨j,c,e,a,d⟩:=h;rcases cG a with⟨rfl,rfl⟩|⟨_,a⟩
 .exact a5 rfl d
 .exact⟨j,c,e,a,d⟩
theorem RK.kill:RK Y Z H Y (Z.set i .dead) H:=⟨λ_ _ h=>h,λ_ _ h _=>h,λ_ h=>.inl (Ja h)⟩
theorem Qr.kill(s:Qr B K H Y Z)(i:Nat):Qr B K H Y (Z.set i .dead):=by
 have e:RK Y Z H Y (Z.set i .dead) H:=RK.kill;refine⟨by rw[Ra];exact s.len,s.nd,s.bn,s.ba,s.al,λj b d f a=>?_⟩;rcases cG a with⟨rfl,rfl⟩|⟨g,a⟩
 .exact trivial
 .exact(s.Ww j b d f a).ev e.ev e.pre λu q=>q
theorem Qr.aam(s:Qr B K H Y Z)(ha:Y[i]?=Bn a):¬ow B Y (Z.set i .dead) a:=by
 rintro(z|⟨j,c,e,d,b⟩)
 .exact s.Zu ha z
 .have:=s.nd j i a e ha
  subst this;rcases cG d with⟨_,rfl⟩|⟨f,_⟩
  .exact b rfl
  .exact f rfl
def pM(g:aZ->SV->bg (D×aZ)):aZ->bb SV->bg (bb D×aZ)
 |Z,[]=>Bn ([],Z)
 |Z,x::r=>match g Z x with
  |some (d,Z1)=>(match pM g Z1 r with
   |some (ds,Z2)=>Bn (d::ds,Z2)
   |none=>Pn)
  |none=>Pn
def frz:Nat->aZ->SV->bg (D×aZ)
 |_,Z,.fz d=>Bn (d,Z)
 |0,_,_=>Pn
 |n+1,Z,.rf i=>match Z[i]? with
  |some (.lst xs)=>(match pM (frz n) Z xs with
   |some (ds,Z1)=>Bn (.list ds,Z1.set i .dead)
   |none=>Pn)
  |_=>Pn
 |n+1,Z,.tp l=>match pM (frz n) Z (l.map AV.sv)with
  |some (ds,Z1)=>Bn (.tuple ds,Z1)
  |none=>Pn
theorem wc(a:∀{Z U:aZ} {v:V} {x:SV} {d:D},Qr B K H Y Z->SU (ow B Y Z) K H Y v x->g Z x=Bn (d,U)->Qr B K H Y U/\RK Y Z H Y U H/\L3.DV (ow B Y U) K H v d):
  ∀{vs:bb V} {xs:bb SV} {ds:bb D} {Z U:aZ},Qr B K H Y Z->Sh (ow B Y Z) K H Y vs xs->pM g Z xs=Bn (ds,U)->Qr B K H Y U/\RK Y Z H Y U H/\L3.Rk (ow B Y U) K H vs ds
 |_,_,_,Z,U,s,.nil,e=>by cases e;exact⟨s,.refl,.nil⟩
 |_,_,_,Z,U,s,.cons (b:=x) (l₂:=xs) r t,e=>by
  unfold pM at e;cases q:g Z x with
  |none=>rw[q]at e;cases e
  |some p=>
   obtain⟨d,Z1⟩:=p;rw[q]at e;dsimp only at e;obtain⟨j,h,n⟩:=a s r q;cases q2:pM g Z1 xs with
   |none=>rw[q2]at e;cases e
   |some l=>obtain⟨ds,Z2⟩:=l;rw[q2]at e;cases e;obtain⟨i,f,m⟩:=wc a j (Sh.SJ h t) q2;exact⟨i,h.trans f,.cons (n.ev f.ev) m⟩
theorem v4:∀{vs:bb V} {l:bb AV},Paired (ZP O K H Y) vs l->Sh O K H Y vs (l.map AV.sv)
 |_,_,.nil=>.nil
 |_,_,.cons (b:=x) h t=>.cons (by cases x<;>exact h) (v4 t)
theorem uV:∀(n:Nat) {Z U:aZ} {v:V} {x:SV} {d:D},Qr B K H Y Z->SU (ow B Y Z) K H Y v x->frz n Z x=Bn (d,U)->Qr B K H Y U/\RK Y Z H Y U H/\L3.DV (ow B Y U) K H v d
 |n,Z,U,v,.fz d',d,s,h,e=>by
  have o:Bn (d',Z)=Bn (d,U):=by cases n<;>exact e
  cases o;exact⟨s,.refl,h⟩
 |0,_,_,v,.rf i,d,s,h,e=>by cases e
 |0,_,_,v,.tp l,d,s,h,e=>by cases e
 |n+1,Z,U,v,.rf i,d,s,h,e=>by
  obtain⟨a,ha,rfl⟩:=h;unfold frz at e;cases q:Z[i]? with
  |none=>rw[q]at e;cases e
  |some c=>
   rw[q]at e;cases c with
   |lst xs=>
    dsimp only at e;obtain⟨vs,j,g⟩:=s.Ww i a _ ha q;cases q2:pM (frz n) Z xs with
    |none=>rw[q2]at e;cases e
    |some p=>obtain⟨ds,Z1⟩:=p;rw[q2]at e;cases e;obtain⟨b,f,m⟩:=wc (λs h e=>uV n s h e) s g q2;exact⟨b.kill i,f.trans RK.kill,vU j (b.aam ha) (m.ev (RK.kill).ev)⟩
   |_=>cases e
 |n+1,Z,U,v,.tp l,d,s,h,e=>by
  obtain⟨a,xs,rfl,j,g⟩:=h;unfold frz at e;cases q2:pM (frz n) Z (l.map AV.sv)with
  |none=>rw[q2]at e;cases e
  |some p=>obtain⟨ds,Z1⟩:=p;rw[q2]at e;cases e;obtain⟨b,f,m⟩:=wc (λs h e=>uV n s h e) s (v4 g) q2;exact⟨b,f,.tup (j.ev f.ev) m⟩
def Lq(x:SV)(Z:aZ):RS SV:=match frz 4 Z x with
 |some (d,Z1)=>.ok (.fz d) Z1
 |none=>.bad
def sY(f:eK):eK:=λρ Z=>(f ρ Z).bind λx Z1=>Lq x Z1
theorem pY(h:eF K E t f):eF K E t (sY f):=by
 intro B S H Y Z ρ Q s sl w;refine h B S H Y Z ρ _ s sl (w.bind.imp λx X Z1 N l e a v g=>?_);unfold Lq at a;cases q:frz 4 Z1 x with
 |none=>rw[q]at a;exact a.elim
 |some p=>obtain⟨d,Z2⟩:=p;rw[q]at a;obtain⟨b,i,j⟩:=uV 4 e g q;exact a X N i b v j
theorem Zk.sub(h:∀b,O' b->O b)(k:Zk K O H c dx x):Zk K O' H c dx x:=by obtain⟨i,fs,g,a⟩:=k;exact⟨i,fs,g,λf d e=>let⟨g1,v,g2,g3⟩:=a f d e;⟨g1,v,g2,g3.ev (Ev.sub h)⟩⟩
def xN(F:FN)(n:Nat)(xs:bb SV)(Z:aZ):RS SV:=if xs.length=n then(match aC sB xs with
 |some ds=>(match F ds with
  |.ok rv=>lR Z rv
  |.er x=>.er x Z
  |.bad=>.bad)
 |none=>(RS.QL Z (aC (jw 6 Z) xs)).bind λds Z1=>(match F ds with
  |.ok rv=>nI Z1 rv
  |_=>.bad))else .bad
def mP:RS A->RS A
 |.er _ _=>.bad
 |r=>r
def jf(F:FN)(n:Nat)(fa:xy):eK:=λρ Z=>(fa ρ Z).bind λxs Z1=>mP (xN F n xs Z1)
theorem WS.e0(h:WS K E B H Y Z P (mP r)):WS K E0 B H Y Z P r:=by
 cases r with
 |ok a Z=>exact h
 |er x Z=>exact h.elim
 |bad=>exact h
theorem IJ(s:Qr B K H Y Z)(b:Sh (ow B Y Z) K H Y vs xs)(w:WS K E B H Y Z (PQ B K Q) (xN F n xs Z)):mK K n F vs H Q E:=by
 unfold xN at w;by_cases hn:xs.length=n
 .rw[av hn]at w
  refine⟨b.length.trans hn,?_⟩;cases q:aC sB xs with
  |some ds=>
   rw[q]at w;refine⟨ow B Y Z,ds,s.owd,jA (cM (R:=SU (ow B Y Z) K H Y) (λv x y r e=>zh r e) b q),?_⟩;dsimp only at w;cases qF:F ds with
   |ok rv=>rw[qF]at w;exact Fg s w
   |er x=>rw[qF]at w;exact λc dx J e k=>w c dx Y J (RK.same e) (s.grow e) k
   |bad=>rw[qF]at w;exact w.elim
  |none=>
   rw[q]at w;obtain⟨ds,d,w⟩:=WS.QL w;refine⟨W8,ds,λa z=>z.elim,jA (cM (R:=SU (ow B Y Z) K H Y) (λv x y r e=>jV s 6 r e) b d),?_⟩;cases qF:F ds with
   |ok rv=>rw[qF]at w;exact AW s w
   |er x=>rw[qF]at w;exact w.elim
   |bad=>rw[qF]at w;exact w.elim
 .rw[ax hn]at w;exact w.elim
theorem Ba(ha:Cw K E ta fa):eF K E (rT (mK K n F) [] E0 ta) (jf F n fa):=by intro B S H Y Z ρ Q s sl w;refine ha B S H Y Z ρ _ s sl (w.bind.imp λxs X Z1 N e b a vs d=>?_);rw[Qh];exact IJ b d (WS.e0 a)
abbrev lB:=bb SV->aZ->RS SV
def gp(K:Po)(n:Nat)(F:lB):Sp:=λvs H Q E=>vs.length=n/\∃(B:b8) (Y:bb Pz) (Z:aZ) (xs:bb SV),Qr B K H Y Z/\Sh (ow B Y Z) K H Y vs xs/\WS K E B H Y Z (PQ B K Q) (F xs Z)
def rj(F:lB)(n:Nat)(fa:xy):eK:=λρ Z=>(fa ρ Z).bind λxs Z1=>if xs.length=n then mP (F xs Z1)else .bad
theorem jg(ha:Cw K E ta fa):eF K E (rT (gp K n F) [] E0 ta) (rj F n fa):=by
 intro B S H Y Z ρ Q s sl w;refine ha B S H Y Z ρ _ s sl (w.bind.imp λxs X Z1 N e d a vs b=>?_);rw[Qh];by_cases hn:xs.length=n
 .rw[av hn]at a;exact⟨b.length.trans hn,B,X,Z1,xs,d,b,WS.e0 a⟩
 .rw[ax hn]at a;exact a.elim
def tV(Z:aZ)(C m:Str):SV->Bool
 |.rf i=>match Z[i]? with
  |some (.obj D fs)=>decide (D=C)&&(fs.lookup m).isNone
  |_=>Py
 |_=>Py
def aY(C m:Str)(F:lB)(n:Nat)(fo:eK)(fa:xy):eK:=λρ Z=>(fo ρ Z).bind λx Z1=>if tV Z1 C m x=Pr then(fa ρ Z1).bind λxs Z2=>(if(x::xs).length=n then mP (F (x::xs) Z2)else .bad)else .bad
theorem KN(g:Qj K P8 C=Bn (Bn (.ref Ca)))(s:Qr B K H Y Z)(f:SU (ow B Y Z) K H Y v x)(h:tV Z C m x=Pr):∃a dx fs,v=.ref a/\H a=Bn (.ins Ca dx fs)/\fs.lookup m=Pn:=by
 cases x with
 |fz d=>cases h
 |tp l=>cases h
 |rf i=>
  obtain⟨a,ha,rfl⟩:=f;unfold tV at h;dsimp only at h;cases q:Z[i]? with
  |none=>rw[q]at h;cases h
  |some c=>
   rw[q]at h;cases c with
   |obj D fs=>rw[P2]at h;obtain⟨n,j⟩:=h;have e:=a4 n;subst e;obtain⟨r,dx,ws,b,p,o⟩:=s.Ww i a _ ha q;rw[g]at b;cases b;exact⟨a,dx,ws,rfl,p,tY o (Option.isNone_iff_eq_none.mp j)⟩
   |_=>cases h
theorem Cz(o:Qj K P8 C=Bn (Bn (.ref Ca)))(l:eF K E to fo)(ha:Cw K E ta fa):eF K E (An Ca m (gp K n F) [] E0 to ta) (aY C m F n fo fa):=by
 intro B S H Y Z ρ Q s sl w;refine l B S H Y Z ρ _ s sl (w.bind.imp λx X Z1 N t f d v g=>?_);by_cases h:tV Z1 C m x=Pr
 .rw[av h]at d
  obtain⟨a,dx,fs,rfl,q,p⟩:=KN o f g h;refine⟨a,dx,fs,rfl,q,p,?_⟩;refine ha B S N X Z1 ρ _ f (sl.SJ t) (d.bind.imp λxs T Z2 L r j b vs e=>?_);rw[Qh];have i:Sh (ow B T Z2) K L T (.ref a::vs) (x::xs):=.cons (g.SJ r) e;by_cases hn:(x::xs).length=n
  .rw[av hn]at b;exact⟨i.length.trans hn,B,T,Z2,_,j,i,WS.e0 b⟩
  .rw[ax hn]at b;exact b.elim
 .rw[ax h]at d;exact d.elim
def Gs:SV->Bool
 |.fz .none=>Pr
 |_=>Py
def A4(C:Str)(F:lB)(n:Nat)(xs:bb SV)(Z:aZ):RS SV:=if(SV.rf Z.length::xs).length=n then(F (.rf Z.length::xs) (Z++[.obj C []])).bind λr Z2=>(if Gs r=Pr then .ok (.rf Z.length) Z2 else .bad)else .bad
def uC(C:Str)(F:lB)(n:Nat)(fa:xy):eK:=λρ Z=>(fa ρ Z).bind λxs Z1=>mP (A4 C F n xs Z1)
theorem GP(h:Gs x=Pr)(a:SU O K H Y v x):v=.Sz:=by
 unfold Gs at h;split at h
 .cases a;rfl
 .cases h
theorem Ky(o:Qj K P8 C=Bn (Bn (.ref Ca)))(s:Qr B K H Y Z)(m:Sh (ow B Y Z) K H Y vs xs)(w:WS K E B H Y Z (PQ B K Q) (A4 C F n xs Z)):
  ∀x dx,H x=Pn->H dx=Pn->dx≠x->gp K n F (.ref x::(vs++[])) (bS (bS H dx (.own x)) x (.ins Ca dx [])) (λv L=>v=.Sz/\Q (.ref x) L) E:=by
 intro x dx b f q;rw[Qh];unfold A4 at w;have g:Rx H (bS (bS H dx (.own x)) x (.ins Ca dx [])):=(bV f _).trans (bV (by rw[a9 (λz=>q z.symm)];exact b) _);have e:RK Y Z H (Y++[x]) (Z++[.obj C []]) (bS (bS H dx (.own x)) x (.ins Ca dx [])):=RK.Xn s.len g b;have l:Qr B K (bS (bS H dx (.own x)) x (.ins Ca dx [])) (Y++[x]) (Z++[.obj C []]):=s.Xn g b (by rw[aJ];simp) ⟨Ca,dx,[],o,aJ,.nil⟩;have i:∀{M:bb Pz} {U:aZ} {J:Hp},RK (Y++[x]) (Z++[.obj C []]) (bS (bS H dx (.own x)) x (.ins Ca dx [])) M U J->SU (ow B M U) K J M (.ref x) (.rf Z.length):=λe=>⟨x,e.pre _ _ (by rw[<-s.len];exact bf),rfl⟩;by_cases hn:(SV.rf Z.length::xs).length=n
 .rw[av hn]at w
  have h:Sh (ow B (Y++[x]) (Z++[.obj C []])) K (bS (bS H dx (.own x)) x (.ins Ca dx [])) (Y++[x]) (.ref x::vs) (.rf Z.length::xs):=.cons (i .refl) (Sh.SJ e m);refine⟨h.length.trans hn,B,_,_,_,l,h,?_⟩;refine WS.imp (WS.from e w.bind) λr T Z2 L p j a v d=>?_;by_cases z:Gs r=Pr
  .rw[av z]at a;exact⟨GP z d,WS.now j a _ (i p)⟩
  .rw[ax z]at a;exact a.elim
 .rw[ax hn]at w;exact w.elim
theorem Er(e:Qj K P8 C=Bn (Bn (.ref Ca)))(ha:Cw K E ta fa):eF K E (Gb Ca (gp K n F) [] E0 ta) (uC C F n fa):=by intro B S H Y Z ρ Q s sl w;refine ha B S H Y Z ρ _ s sl (w.bind.imp λxs X Z1 N f b a vs d=>?_);exact Ky e b d (WS.e0 a)
def fR(Z:aZ):SV->bg (Nat×bb SV)
 |.rf i=>match Z[i]? with
  |some (.lst xs)=>Bn (i,xs)
  |_=>Pn
 |_=>Pn
theorem pW(s:Qr B K H Y Z)(b:SU (ow B Y Z) K H Y v x)(h:fR Z x=Bn (i,xs)):Z[i]?=Bn (.lst xs)/\∃a vs,Y[i]?=Bn a/\v=.ref a/\H a=Bn (.lst vs)/\Sh (ow B Y Z) K H Y vs xs:=by
 cases x with
 |fz d=>cases h
 |tp l=>cases h
 |rf j=>
  obtain⟨a,ha,rfl⟩:=b;unfold fR at h;dsimp only at h;cases q:Z[j]? with
  |none=>rw[q]at h;cases h
  |some c=>
   rw[q]at h;cases c with
   |lst m=>have e:=P4 h;cases e;obtain⟨vs,g,f⟩:=s.Ww i a _ ha q;exact⟨q,a,vs,ha,rfl,g,f⟩
   |_=>cases h
theorem A6(h:Paired R vs xs)(r:R v x):Paired R (vs++[v]) (xs++[x]):=by
 induction h with
 |nil=>exact .cons r .nil
 |cons a _ b=>exact .cons a b
def pz(fo fe:eK):eK:=λρ Z=>(fo ρ Z).bind λo Z1=>(RS.QL Z1 (fR Z1 o)).bind λ_ Z1=>(fe ρ Z1).bind λx Z2=>(RS.QL Z2 (fR Z2 o)).bind λp a=>
 if p.2.length<1000000 then .ok (.fz .none) (a.set p.1 (.lst (p.2++[x])))else .bad
theorem mI(A:eF K E to fo)(C:eF K E te fe):eF K E (N9 K "list" we to (kU te ox)) (pz fo fe):=by
 intro B S H Y Z ρ Q s sl w;refine A B S H Y Z ρ _ s sl (w.bind.imp λo X Z1 N R j d v l=>?_);obtain⟨⟨i0,p⟩,t,d⟩:=WS.QL d;obtain⟨_,n,e,_,rfl,G,_⟩:=pW j l t;refine⟨.inl ⟨rfl,e,T6.of G⟩,?_⟩;refine C B S N X Z1 ρ _ j (sl.SJ R) (d.bind.imp λx T Z2 L P g b u y=>?_);obtain⟨⟨i,xs⟩,q,b⟩:=WS.QL b;obtain⟨f,a,vs,ha,I,F,m⟩:=pW g (l.SJ P) q;cases I;dsimp only at b;by_cases hn:xs.length<1000000
 .rw[av hn]at b;have ev:Ev (ow B T Z2) L (ow B T Z2) (bS L n (.lst (vs++[u]))):=qI ha f (by nofun);refine⟨n,vs,u,rfl,rfl,F,yk (by rw[m.length];exact hn),?_⟩;exact b T _ (RK.put ha f (by nofun) (by nofun)) (g.put ha f (by nofun) (by nofun) ⟨_,aJ,A6 (Paired.Ub m λ_ _ r=>r.ev ev λ_ _ h=>h) (y.ev ev λ_ _ h=>h)⟩) _ .Sz
 .rw[ax hn]at b;exact b.elim
end
inductive ZM where
 |nx (ρ:bv)
 |bk (ρ:bv)
 |ct (ρ:bv)
 |rt (x:SV)
abbrev gS:=bv->aZ->RS ZM
abbrev Da:=SV->bv->aZ->RS bv
abbrev Dn:=bb SV->bv->aZ->RS bv
def DA(B:b8)(K:Po)(D:Ends):ZM->bb Pz->aZ->Hp->Prop
 |.nx ρ,α,Z,H=>∀σ,SR (ow B α Z) K H α σ ρ->D.nx σ H
 |.bk ρ,α,Z,H=>∀σ,SR (ow B α Z) K H α σ ρ->D.bk σ H
 |.ct ρ,α,Z,H=>∀σ,SR (ow B α Z) K H α σ ρ->D.ct σ H
 |.rt x,α,Z,H=>∀v,SU (ow B α Z) K H α v x->D.rt v H
def t8(K:Po)(E:XK)(t:TS)(g:gS):Prop:=
 ∀(B:b8) (a:L2.St) (H:Hp) (α:bb Pz) (Z:aZ) (ρ:bv) (D:Ends),Qr B K H α Z->SR (ow B α Z) K H α a ρ->WS K E B H α Z (DA B K D) (g ρ Z)->t D a H
def Ll(K:Po)(E:XK)(g:TG)(f:Da):Prop:=
 ∀(B:b8) (d:L2.St) (H:Hp) (α:bb Pz) (Z:aZ) (ρ:bv) (v:V) (x:SV) (Q:L2.St->Hp->Prop),Qr B K H α Z->SR (ow B α Z) K H α d ρ->SU (ow B α Z) K H α v x->WS K E B H α Z (λb a h e=>∀σ',SR (ow B a h) K e a σ' b->Q σ' e) (f x ρ Z)->g v d H Q
def Ib(K:Po)(E:XK)(g:Kb)(f:Dn):Prop:=
 ∀(B:b8) (d:L2.St) (H:Hp) (α:bb Pz) (Z:aZ) (ρ:bv) (vs:bb V) (xs:bb SV) (Q:L2.St->Hp->Prop),Qr B K H α Z->SR (ow B α Z) K H α d ρ->Sh (ow B α Z) K H α vs xs->WS K E B H α Z (λb a h e=>∀σ',SR (ow B a h) K e a σ' b->Q σ' e) (f xs ρ Z)->g vs d H Q
section
variable{B O O':b8}{K:Po}{E:XK}{H P S N:Hp}{X M U Y:bb Pz}{Z Z' Z1 Z2:aZ}{T:L2.St}{ρ:bv}{v:V}
theorem SR.set(sl:SR O K H X T ρ)(h:SU O K H X v x):SR O K H X (T.set i (Bn v)) (ρ.set i (Bn x)):=by
 refine⟨by rw[Ra,Ra];exact sl.1,λj y b=>?_⟩;rcases cG b with⟨rfl,e⟩|⟨g,a⟩
 .cases e;refine⟨v,?_,h⟩;rw[QI];have:=ww b;rw[sl.1];exact this
 .obtain⟨u,f,d⟩:=sl.2 j y a;exact⟨u,by rw[Qv (λz=>g z.symm)];exact f,d⟩
def iS(i:Nat):Da:=λx ρ Z=>.ok (ρ.set i (Bn x)) Z
theorem cC:Ll K E (ya i) (iS i):=λB T H X Z ρ v x Q s sl h w=>WS.now s w _ (sl.set h)
def wP:Dn:=λxs ρ Z=>match xs with
 |[]=>.ok ρ Z
 |_=>.bad
def lW(f:Da)(g:Dn):Dn:=λxs ρ Z=>match xs with
 |x::r=>(f x ρ Z).bind λa Z1=>g r a Z1
 |[]=>.bad
theorem nh:Ib K E Ly wP:=by
 intro B T H X Z ρ vs xs Q s sl h w;cases h with
 |nil=>exact⟨rfl,WS.now s w _ sl⟩
 |cons _ _=>exact w.elim
theorem fS(h1:Ll K E t f)(m:Ib K E u g):Ib K E (Fi t u) (lW f g):=by
 intro B T H X Z ρ vs xs Q s sl h w;cases h with
 |nil=>exact w.elim
 |cons a b=>refine⟨_,_,rfl,h1 B T H X Z ρ _ _ _ s sl a (WS.imp (WS.bind w) λe U Z1 S n l j d i=>?_)⟩;exact m B d S U Z1 e _ _ _ l i (Sh.SJ n b) j
def Ga:SV->bg (bb SV)
 |.fz (.tuple ds)=>Bn (ds.map .fz)
 |.tp l=>Bn (l.map AV.sv)
 |_=>Pn
theorem LS(h:SU O K H X v x)(e:Ga x=Bn xs):∃a vs,v=.ref a/\UQ O K H a vs/\Sh O K H X vs xs:=by
 unfold Ga at e;split at e
 .cases e
  cases h with
  |tup h d=>exact⟨_,_,rfl,h,oa _ _ d⟩
 .cases e;obtain⟨a,b,rfl,g,f⟩:=h;exact⟨a,b,rfl,g,v4 f⟩
 .cases e
def JL(n:Nat)(f:Dn):Da:=λx ρ Z=>(RS.QL Z (Ga x)).bind λxs Z1=>if xs.length=n then f xs ρ Z1 else .bad
theorem nw(h:Ib K E t f):Ll K E (L5 K n t) (JL n f):=by
 intro B T H X Z ρ v x Q s sl d w;obtain⟨xs,q,w⟩:=WS.QL w;obtain⟨a,vs,rfl,e,b⟩:=LS d q;by_cases hn:xs.length=n
 .rw[av hn]at w;exact⟨a,vs,rfl,e.1,b.length.trans hn,h B T H X Z ρ vs xs Q s sl b w⟩
 .rw[ax hn]at w;exact w.elim
def dE:gS:=λρ Z=>.ok (.nx ρ) Z
def aW(f g:gS):gS:=λρ Z=>(f ρ Z).bind λa Z1=>match a with
 |.nx ρ1=>g ρ1 Z1
 |a=>.ok a Z1
def bZ(f:eK):gS:=λρ Z=>(f ρ Z).bind λ_ Z1=>.ok (.nx ρ) Z1
def fF(f:eK)(g:Da):gS:=λρ Z=>(f ρ Z).bind λx Z1=>(g x ρ Z1).bind λa Z2=>.ok (.nx a) Z2
def cL(c:yB)(f g:gS):gS:=λρ Z=>(c ρ Z).bind λb Z1=>if b=Pr then f ρ Z1 else g ρ Z1
def je(f:eK):gS:=λρ Z=>(f ρ Z).bind λx Z1=>.ok (.rt x) Z1
def uf:gS:=λ_ Z=>.ok (.rt (.fz .none)) Z
theorem gO:t8 K E D7 dE:=λB T H X Z ρ D s sl w=>WS.now s w T sl
theorem Eb:t8 K E JF uf:=λB T H X Z ρ D s sl w=>WS.now s w .Sz .Sz
theorem bE(h1:t8 K E t f)(i:t8 K E u g):t8 K E (Lx t u) (aW f g):=by
 intro B T H X Z ρ D s sl w;refine h1 B T H X Z ρ {D with nx:=u D} s sl (WS.imp (WS.bind w) λj U Z1 S l d b=>?_);cases j with
 |nx a=>exact λe h=>i B e S U Z1 a D d h b
 |rt x=>exact WS.now (E:=E) d b
 |bk a=>exact WS.now (E:=E) d b
 |ct a=>exact WS.now (E:=E) d b
theorem fX(h:eF K E t f):t8 K E (Ec t) (bZ f):=by intro B T H X Z ρ D s sl w;exact h B T H X Z ρ _ s sl (WS.imp (WS.bind w) λx U Z1 S d b a v e=>WS.now b a T (sl.SJ d))
theorem gU(h:eF K E t f)(m:Ll K E g fg):t8 K E (Ex t g) (fF f fg):=by intro B T H X Z ρ D s sl w;refine h B T H X Z ρ _ s sl (WS.imp (WS.bind w) λx U Z1 S n j e v l=>?_);exact m B T S U Z1 ρ v x _ j (sl.SJ n) l (WS.imp (WS.bind e) λb Y Z2 N p i d a o=>WS.now i d a o)
theorem iX(h:yy K E c fc)(h1:t8 K E t f)(i:t8 K E u g):t8 K E (La c t u) (cL fc f g):=by
 intro B T H X Z ρ D s sl w;refine h B T H X Z ρ _ s sl (WS.imp (WS.bind w) λb U Z1 S e d a=>?_);cases b with
 |true=>exact h1 B T S U Z1 ρ D d (sl.SJ e) a
 |false=>exact i B T S U Z1 ρ D d (sl.SJ e) a
theorem fQ(h:eF K E t f):t8 K E (Km t) (je f):=by intro B T H X Z ρ D s sl w;exact h B T H X Z ρ _ s sl (WS.imp (WS.bind w) λx U Z1 S e b a v d=>WS.now b a v d)
def e9(f:Str)(x:SV):bb (Str×SV)->bb (Str×SV)
 |[]=>[(f,x)]
 |(g,y)::r=>if g=f then(g,x)::r else(g,y)::e9 f x r
theorem Gu(h:SU O K H X v x):∀{ws:bb (Str×V)} {fs:bb (Str×SV)},Paired (λ(p:Str×V) (q:Str×SV)=>p.1=q.1/\SU O K H X p.2 q.2) ws fs->Paired (λ(p:Str×V) (q:Str×SV)=>p.1=q.1/\SU O K H X p.2 q.2) (jh f v ws) (e9 f x fs)
 |_,_,.nil=>.cons ⟨rfl,h⟩ .nil
 |(g,u)::ws,(g',y)::fs,.cons ⟨e,k⟩ t=>by
  cases e;unfold jh e9;by_cases z:g=f
  .rw[av z,av z];exact .cons ⟨rfl,h⟩ t
  .rw[ax z,ax z];exact .cons ⟨rfl,k⟩ (Gu h t)
def FZ(Z:aZ)(C:Str):SV->bg (Nat×bb (Str×SV))
 |.rf i=>match Z[i]? with
  |some (.obj D fs)=>if D=C then Bn (i,fs)else Pn
  |_=>Pn
 |_=>Pn
theorem NB(s:Qr B K H X Z)(b:SU (ow B X Z) K H X v x)(h:FZ Z C x=Bn (i,fs)):Z[i]?=Bn (.obj C fs)/\∃a Ca dx ws,X[i]?=Bn a/\v=.ref a/\Qj K P8 C=Bn (Bn (.ref Ca))/\H a=Bn (.ins Ca dx ws)/\Paired (λ(p:Str×V) (q:Str×SV)=>p.1=q.1/\SU (ow B X Z) K H X p.2 q.2) ws fs:=by
 cases x with
 |fz d=>cases h
 |tp l=>cases h
 |rf j=>
  obtain⟨a,ha,rfl⟩:=b;unfold FZ at h;dsimp only at h;cases q:Z[j]? with
  |none=>rw[q]at h;cases h
  |some c=>
   rw[q]at h;cases c with
   |obj D n=>
    dsimp only at h;by_cases z:D=C
    .subst z;rw[av rfl]at h;have e:=P4 h;cases e;obtain⟨Ca,dx,ws,m,g,f⟩:=s.Ww i a _ ha q;exact⟨q,a,Ca,dx,ws,ha,rfl,m,g,f⟩
    .rw[ax z]at h;cases h
   |_=>cases h
def iu(C f:Str)(fo fe:eK):gS:=λρ Z=>(fe ρ Z).bind λx Z1=>(fo ρ Z1).bind λo Z2=>(RS.QL Z2 (FZ Z2 C o)).bind λp a=>if p.2.length<100 then .ok (.nx ρ) (a.set p.1 (.obj C (e9 f x p.2)))else .bad
theorem vV(R:jj K C L)(J:f∈L)(I:eF K E to fo)(Q:eF K E te fe):t8 K E (MW K to te f) (iu C f fo fe):=by
 intro B T H X Z ρ D s sl w;refine Q B T H X Z ρ _ s sl (WS.imp (WS.bind w) λx U Z1 S t A y v F=>?_);refine I B T S U Z1 ρ _ A (sl.SJ t) (WS.imp (WS.bind y) λo Y Z2 N p g b u G=>?_);obtain⟨⟨i,fs⟩,q,b⟩:=WS.QL b;obtain⟨e,a,d,dx,ws,ha,rfl,l,h1,j⟩:=NB g G q;obtain⟨Cb,m,g1,g2⟩:=R;rw[l]at m;cases m;dsimp only at b;by_cases hn:fs.length<100
 .rw[av hn]at b;have ev:Ev (ow B Y Z2) N (ow B Y Z2) (bS N a (.ins d dx (jh f v ws))):=qI ha e (by nofun);have n:RK Y Z2 N Y (Z2.set i (.obj C (e9 f x fs))) (bS N a (.ins d dx (jh f v ws))):=RK.put ha e (by nofun) (by nofun);have hl:=Paired.length j;refine⟨a,d,dx,ws,rfl,h1,g1,g2 f J,by ext,?_⟩;refine b Y _ n (g.put ha e (by nofun) (by nofun) ⟨d,dx,_,l,aJ,Gu ((F.SJ p).ev ev λ_ _ h=>h) (Paired.Ub j λ_ _ r=>⟨r.1,r.2.ev ev λ_ _ h=>h⟩)⟩) T ((sl.SJ (t.trans p)).SJ n)
 .rw[ax hn]at b;exact b.elim
abbrev MB:=bv->aZ->RS (bb D)
def Ob(K:Po)(E:XK)(b:TI)(d:MB):Prop:=
 ∀(B:b8) (T:L2.St) (H:Hp) (X:bb Pz) (Z:aZ) (ρ:bv) (a:It->Hp->Prop),Qr B K H X Z->SR (ow B X Z) K H X T ρ->WS K E B H X Z (λds M Z' P=>∀J,zr K J (ow B M Z') P ds->a J P) (d ρ Z)->b T H a
def ng(f:FI):MB:=λρ Z=>match f (cB ρ)with
 |.ok (ds,_)=>.ok ds Z
 |.er x=>.er x Z
 |.bad=>.bad
theorem sE(h:IO K E wi f):Ob K E wi (ng f):=by
 intro B T H X Z ρ i s sl w;refine h (ow B X Z) H (ow B X Z) T H (cB ρ) i (Ej s sl) ?_;unfold ng at w;cases q:f (cB ρ)with
 |bad=>rw[q]at w;exact w.elim
 |er x=>rw[q]at w;exact λc dx P e k=>w c dx X P (RK.same e) (s.grow e) k
 |ok r=>obtain⟨ds,a⟩:=r;rw[q]at w;exact λO' J P e R d=>w X P (RK.same R.same) (s.grow R.same) J λj N g n=>d j N (λb o h z=>g b o h λy=>z (R.bo b y)) n
def nK(fe:eK):MB:=λρ Z=>(fe ρ Z).bind λx Z1=>(match frz 4 Z1 x with
 |some (d,Z2)=>RS.QL Z2 (fL d)
 |none=>.bad)
theorem uS(h:eF K E tl fe):Ob K E (BT K tl) (nK fe):=by
 intro B T H X Z ρ m s sl w;refine h B T H X Z ρ _ s sl (WS.imp (WS.bind w) λx U Z1 S l g a v i=>?_);cases q:frz 4 Z1 x with
 |none=>rw[q]at a;exact a.elim
 |some p=>
  obtain⟨d,Z2⟩:=p;rw[q]at a;obtain⟨e,f,j⟩:=uV 4 g i q;dsimp only at a;cases qs:fL d with
  |none=>rw[qs]at a;exact a.elim
  |some ds=>
   rw[qs]at a;cases j with
   |tup h b=>cases qs;exact⟨_,rfl,.inr ⟨⟨_,h.1⟩,a U S f e _ (D4 h b)⟩⟩
   |lst h b=>cases qs;exact⟨_,rfl,.inl ⟨⟨_,h.1.sq⟩,a U S f e _ (A7 h b)⟩⟩
   |_=>cases qs
def kK(gt:Da)(b:gS):bb D->gS
 |[],ρ,Z=>.ok (.nx ρ) Z
 |d::r,ρ,Z=>(gt (.fz d) ρ Z).bind λa Z1=>(b a Z1).bind λe Z2=>match e with
  |.nx ρ2=>kK gt b r ρ2 Z2
  |.ct ρ2=>kK gt b r ρ2 Z2
  |.bk ρ2=>.ok (.nx ρ2) Z2
  |.rt x=>.ok (.rt x) Z2
def uZ(a:MB)(gt:Da)(b:gS):gS:=λρ Z=>(a ρ Z).bind λds Z1=>kK gt b ds ρ Z1
theorem vG(hi:Ob K E wi fi)(hg:Ll K E g gt)(hb:t8 K E tb b):t8 K E (Lf wi g tb) (uZ fi gt b):=by
 intro B T H X Z ρ D s sl w;refine hi B T H X Z ρ _ s sl (WS.imp (WS.bind w) λds U Z1 S e1 s1 w1 J it=>?_);refine⟨λi m a P=>m=ds.length - i/\i<=ds.length/\∃Y Z2 ρ2,RK U Z1 S Y Z2 P/\Qr B K P Y Z2/\SR (ow B Y Z2) K P Y a ρ2/\WS K E B P Y Z2 (DA B K D) (kK gt b (ds.drop i) ρ2 Z2),⟨_,rfl,Qu _,U,Z1,ρ,.refl,s1,sl.SJ e1,w1⟩,?_⟩;rintro i m j N ⟨rfl,hi,Y,Z2,ρ2,e2,s2,Zo,w2⟩;obtain⟨go,n⟩:=it (ow B Y Z2) N e2.ev s2.W8;by_cases t:i<ds.length
 .obtain⟨g1,g2⟩:=go i t
  refine .inr ⟨g1,λa P=>i+1<=ds.length/\∃Y Z2 ρ2,RK U Z1 S Y Z2 P/\Qr B K P Y Z2/\SR (ow B Y Z2) K P Y a ρ2/\WS K E B P Y Z2 (DA B K D) (kK gt b (ds.drop (i+1)) ρ2 Z2),λa P ⟨h1,h2⟩=>⟨ds.length - (i+1),by ext,rfl,h1,h2⟩,λx I y=>?_⟩;obtain⟨L,d,hd,dv⟩:=g2 x I y;have ed:ds.drop i=d::ds.drop (i+1):=by obtain⟨_,q⟩:=Pu.mp hd;rw[RL t,q]
  rw[ed]at w2;have G:RK Y Z2 N Y Z2 I:=RK.same L;refine hg B j I Y Z2 ρ2 x (.fz d) _ (s2.grow L) (Zo.SJ G) dv (WS.imp (WS.bind (WS.from G w2)) λA C Z4 H4 e4 s4 R z F=>?_);refine hb B z H4 C Z4 A _ s4 F (WS.imp (WS.bind R) λfl l Q H5 e5 r p=>?_);have o:=e2.trans (G.trans (e4.trans e5));cases fl with
  |nx f=>exact λu h=>⟨t,l,Q,f,o,r,h,p⟩
  |ct f=>exact λu h=>⟨t,l,Q,f,o,r,h,p⟩
  |bk f=>exact WS.now (E:=E) r p
  |rt x=>exact WS.now (E:=E) r p
 .have e:i=ds.length:=by ext
  subst e;rw[SX (PF _)]at w2;exact .inl ⟨n,WS.now s2 w2 j Zo⟩
end
section
variable{B O O':b8}{K:Po}{E:XK}{H T S L:Hp}{U R X Y:bb Pz}{Z Z' Z1 Z2:aZ}{M:L2.St}{ρ:bv}{v:V}
def eC(gt:Da)(ft:yB)(fe:eK):bb D->bv->aZ->bb SV->RS (bb SV)
 |[],_,Z,acc=>.ok acc Z
 |d::r,ρ,Z,acc=>(gt (.fz d) ρ Z).bind λa Z1=>(ft a Z1).bind λb Z2=>if b=Pr then(fe a Z2).bind λx e=>(if acc.length<1000000 then eC gt ft fe r a e (acc++[x])else .bad)else eC gt ft fe r a Z2 acc
def pq(n:Nat)(a:bb Nat)(ρ:bv):bv:=PK n Pn++a.map λj=>(ρ[j]?).join
def sF(n:Nat)(a:bb Nat)(b:MB)(gt:Da)(ft:yB)(fe:eK):eK:=λρ Z=>(b ρ Z).bind λds Z1=>(mP (eC gt ft fe ds (pq n a ρ) Z1 [])).bind λxs Z2=>.ok (.rf Z2.length) (Z2++[.lst xs])
theorem Im{own:bb Str}{b:bb (Str×Nat)}{n:Nat}{f:bb Nat}(hn:own.length=n)(h:b.map (·.2)=f)(sl:SR O K H U M ρ):SR O K H U (iW own b M) (pq n f ρ):=by
 unfold iW pq;rw[Ao hn];have i:b.length=f.length:=by rw[<-h,Pp]
 refine⟨by rw[PJ,PJ,Qg,Qg,Pp,Pp,i],λj x a=>?_⟩;by_cases g:j<n
 .rw[P9 (by rw[Qg];exact g),R8,av g]at a;cases a
 .rw[Qq (by rw[Qg];ext),Qg,PU]at a⊢
  subst h;rw[PU]at a;cases q:b[j - n]? with
  |none=>rw[q]at a;cases a
  |some p=>
   rw[q]at a;have d:(ρ[p.2]?).join=Bn x:=P4 a;have e:ρ[p.2]?=Bn (Bn x):=by
    cases qq:ρ[p.2]? with
    |none=>rw[qq]at d;cases d
    |some o=>rw[qq]at d;exact di Bn d
   obtain⟨u,m,l⟩:=sl.2 p.2 x e;exact⟨u,by show Bn ((M[p.2]?).join)=_;rw[m];rfl,l⟩
theorem D8{p:Pz}{c:Cell}(a:U.length=Z.length)(e:c≠.dead):ow (c8 B p) U Z=ow B (U++[p]) (Z++[c]):=by
 funext b;refine propext ⟨λz=>?_,λz=>?_⟩
 .rcases z with(z|z)|⟨i,d,h1,h2,h3⟩
  .exact .inl z
  .exact .inr ⟨U.length,c,by rw[z];exact bf,by rw[a];exact bf,e⟩
  .exact .inr ⟨i,d,im h1,im h2,h3⟩
 .rcases z with z|z
  .exact .inl (.inl z)
  .rcases vP a z with z|z
   .exact .inr z
   .exact .inl (.inr z)
theorem Qr.adopt{p:Pz}{vs:bb V}{xs:bb SV}(s:Qr (c8 B p) K H U Z)(l:H p=Bn (.lst vs))(m:Sh (ow (c8 B p) U Z) K H U vs xs)(n:¬B p):Qr B K H (U++[p]) (Z++[.lst xs]):=by
 have t:ow (c8 B p) U Z=ow B (U++[p]) (Z++[.lst xs]):=D8 s.len (by nofun);have b:∀(i:Nat) (a:Pz),U[i]?=Bn a->(U++[p])[i]?=Bn a:=λi a h=>im h;have g:∀i:Nat,U[i]?≠Bn p:=s.ba p (.inr rfl);refine⟨by rw[PJ,PJ,s.len];rfl,λi j a e f=>?_,λa h=>s.bn a (.inl h),λa h i q=>?_,λi a h=>?_,λi a d e f=>?_⟩
 .rcases cz e with g1|⟨e1,e2⟩<;>rcases cz f with g2|⟨e3,e4⟩
  .exact s.nd i j a g1 g2
  .rw[e4]at g1;exact a5 g1 (g i)
  .rw[e2]at g2;exact a5 g2 (g j)
  .omega
 .rcases cz q with q|⟨_,e2⟩
  .exact s.ba a (.inl h) i q
  .subst e2;exact n h
 .rcases cz h with h|⟨_,e2⟩
  .exact s.al i a h
  .rw[e2,l];simp
 .rw[<-t]
  rcases cz f with g2|⟨e1,e2⟩
  .rcases cz e with g1|⟨e1,_⟩
   .exact(s.Ww i a d g1 g2).ev .refl b λo q=>q
   .have:=(Pu.mp g2).1;have:=s.len;ext
  .rcases cz e with g1|⟨_,e3⟩
   .have:=(Pu.mp g1).1;have:=s.len;ext
   .rw[e2,e3];exact⟨vs,l,Paired.Ub m λ_ _ r=>r.ev .refl b⟩
theorem Qr.hide{p:Pz}{o:HO}(s:Qr B K H U Z)(f:H p=Pn):Qr (c8 B p) K (bS H p o) U Z:=by have d:Rx H (bS H p o):=bV f o;have g:=s.grow d;have ev:Ev (ow B U Z) H (ow (c8 B p) U Z) (bS H p o):=λb u h n=>⟨d b u h,λz=>z.elim (λz=>z.elim (λz=>n (.inl z)) λz=>by rw[z,f]at h;cases h) λz=>n (.inr z)⟩;refine⟨g.len,g.nd,λa h=>h.elim (g.bn a) λe=>by rw[e,aJ];simp,λa h i q=>h.elim (λh=>g.ba a h i q) λe=>by rw[e]at q;exact s.al i p q f,g.al,λi a c l j=>?_⟩;exact(s.Ww i a c l j).ev ev (λ_ _ h=>h) λo q=>d _ _ q
theorem Qr.aeg{p:Pz}{o d:HO}(s:Qr (c8 B p) K H U Z)(g:H p=Bn o):Qr (c8 B p) K (bS H p d) U Z:=by
 have ev:Ev (ow (c8 B p) U Z) H (ow (c8 B p) U Z) (bS H p d):=Ev.mut (.inl (.inr rfl)) d;have n:∀b,H b≠Pn->bS H p d b≠Pn:=λb h=>by
  by_cases z:b=p
  .subst z;rw[aJ];simp
  .rw[a9 z];exact h
 refine⟨s.len,s.nd,λa h=>n a (s.bn a h),s.ba,λi a h=>n a (s.al i a h),λi a c e f=>(s.Ww i a c e f).ev ev (λ_ _ h=>h) λu q=>?_⟩;have:a≠p:=λz=>s.ba p (.inr rfl) i (by rw[<-z];exact e);rw[a9 this];exact q
theorem RK.dd{p:Pz}{o:HO}(e:RK X Z1 S U Z H)(a:S p=Pn):RK X Z1 S U Z (bS H p o):=⟨e.pre,λb u h n=>by rw[a9 (cg h a)];exact e.kp b u h n,e.lv⟩
theorem Qr.aaN{p:Pz}(s:Qr (c8 B p) K H U Z):Qr B K H U Z:=
 ⟨s.len,s.nd,λa h=>s.bn a (.inl h),λa h=>s.ba a (.inl h),s.al,λi a c e d=>(s.Ww i a c e d).ev (λb o h n=>⟨h,λy=>n (y.elim (λy=>.inl (.inl y)) .inr)⟩) (λ_ _ h=>h) λ_ h=>h⟩
theorem zA{own:bb Str}{fv:bb (Str×Nat)}{g:TG}{tc:TT}{te:TE}{gt:Da}{ft:yB}{fe:eK}{n:Nat}{fj:bb Nat}{J:It}{Q:VK}{ds:bb D}(hn:own.length=n)(hf:fv.map (·.2)=fj)
  (hg:Ll K E g gt) (ht:yy K E tc ft) (he:eF K E te fe) (s1:Qr B K S X Z1) (sl1:SR (ow B X Z1) K S X M ρ) (it:zr K J (ow B X Z1) S ds) (w1:WS K E B S X Z1 (PQ B K Q) ((eC gt ft fe ds (pq n fj ρ) Z1 []).bind λxs Z2=>.ok (.rf Z2.length) (Z2++[.lst xs]))):
  ∀D,S D=Pn->ES J D (iW own fv M) g tc te S λT=>Q (.ref D) T:=by
 intro p N;have slc:SR (ow B X Z1) K S X (iW own fv M) (pq n fj ρ):=Im hn hf sl1;generalize qr:eC gt ft fe ds (pq n fj ρ) Z1 []=rr at w1;by_cases YU:rr=.bad
 .subst YU;exact w1.elim
 .
  have hB:¬B p:=λz=>s1.bn p z N;have evH:∀{Y:bb Pz} {Z2:aZ} {T:Hp},RK X Z1 S Y Z2 T->Ev (ow B X Z1) S (ow (c8 B p) Y Z2) T:=λe b o h n=>⟨e.kp b o h λz=>n (.inr z),λz=>by
   rcases z with(z|z)|z
   .exact n (.inl z)
   .rw[z,N]at h;cases h
   .exact(e.lv b z).elim (λq=>n (.inr q)) λq=>by rw[h]at q;cases q⟩
  refine⟨λi m σ' T=>m=ds.length - i/\i<=ds.length/\∃Y Z2 ρc acc ys,RK X Z1 S Y Z2 T/\Qr (c8 B p) K T Y Z2/\SR (ow (c8 B p) Y Z2) K T Y σ' ρc/\T p=Bn (.lst ys)/\Sh (ow (c8 B p) Y Z2) K T Y ys acc/\eC gt ft fe (ds.drop i) ρc Z2 acc=rr,
   ⟨_,rfl,Qu _,X,Z1,pq n fj ρ,[],[],RK.same (bV N _),s1.hide N,?_,aJ,.nil,qr⟩,?_⟩
  .exact⟨slc.1,λj x hx=>let⟨v,h1,h2⟩:=slc.2 j x hx;⟨v,h1,h2.ev (evH (RK.same (bV N _))) λ_ _ h=>h⟩⟩
  .rintro i m σ2 L ⟨rfl,hi,Y,Z2,ρ2,acc,ys,e2,s2,Zo,hy,vy,f⟩
   obtain⟨go,stop⟩:=it (ow (c8 B p) Y Z2) L (evH e2) s2.W8;by_cases T7:i<ds.length
   .obtain⟨g1,g2⟩:=go i T7
    refine .inr ⟨g1,λσ5 A=>i+1<=ds.length/\∃Y Z2 ρc acc ys,RK X Z1 S Y Z2 A/\Qr (c8 B p) K A Y Z2/\SR (ow (c8 B p) Y Z2) K A Y σ5 ρc/\A p=Bn (.lst ys)/\Sh (ow (c8 B p) Y Z2) K A Y ys acc/\eC gt ft fe (ds.drop (i+1)) ρc Z2 acc=rr,
     λσ5 A ⟨h1,h2⟩=>⟨ds.length - (i+1),by ext,rfl,h1,h2⟩,λx H3 y=>?_⟩
    obtain⟨s3,d,hd,dv⟩:=g2 x H3 y;have ed:ds.drop i=d::ds.drop (i+1):=by obtain⟨_,q⟩:=Pu.mp hd;rw[RL T7,q]
    rw[ed]at f;unfold eC at f;have e3:RK Y Z2 L Y Z2 H3:=RK.same s3;have kD:∀{αx αy:bb Pz} {Zx Zy:aZ} {Hx Hy:Hp} {o:HO},Qr (c8 B p) K Hx αx Zx->RK αx Zx Hx αy Zy Hy->Hx p=Bn o->Hy p=Bn o:=λsx ex h=>ex.kp _ _ h λ⟨i,c,q,_⟩=>sx.ba p (.inr rfl) i q;have t:∀{F:bb Pz} {Z3:aZ} {H3:Hp} {z:Xc} {w:aZ},RK X Z1 S F Z3 H3->RS.er z w=rr->∀c dx R T,RK F Z3 H3 R w T->Qr (c8 B p) K T R w->Zk K (ow (c8 B p) R w) T c dx z->E c dx T:=λ{F Z3 H3 z w} e3 q c dx R T e s' x'=>by subst q;exact w1 c dx R T (e3.trans e) s'.aaN (Zk.sub (λb y=>y.elim (λy=>.inl (.inl y)) .inr) x')
    refine hg (c8 B p) σ2 H3 Y Z2 ρ2 x (.fz d) _ (s2.grow s3) (Zo.SJ e3) dv ?_;cases qg:gt (.fz d) ρ2 Z2 with
    |er z w=>rw[qg]at f;exact t (e2.trans e3) f
    |bad=>rw[qg]at f;exact YU f.symm
    |ok l Z4=>
     rw[qg]at f;intro α4 H4 e4 s4 σ4 sl4;refine ht (c8 B p) σ4 H4 α4 Z4 l _ s4 sl4 ?_;have f:((ft l Z4).bind λb Z2=>if b=Pr then(fe l Z2).bind λx Z3=>(if acc.length<1000000 then eC gt ft fe (ds.drop (i+1)) l Z3 (acc++[x])else .bad)else eC gt ft fe (ds.drop (i+1)) l Z2 acc)=rr:=f;cases qt:ft l Z4 with
     |er z w=>rw[qt]at f;exact t (e2.trans (e3.trans e4)) f
     |bad=>rw[qt]at f;exact YU f.symm
     |ok b Z5=>
      rw[qt]at f;intro α5 A e5 s5;have G:=sl4.SJ e5;have u:=e3.trans (e4.trans e5);cases b with
      |false=>have f:eC gt ft fe (ds.drop (i+1)) l Z5 acc=rr:=f;exact⟨T7,α5,Z5,l,acc,ys,e2.trans u,s5,G,kD s2 u hy,Sh.SJ u vy,f⟩
      |true=>
       have f:((fe l Z5).bind λx Z3=>(if acc.length<1000000 then eC gt ft fe (ds.drop (i+1)) l Z3 (acc++[x])else .bad))=rr:=f;rw[av rfl];refine he (c8 B p) σ4 A α5 Z5 l _ s5 G ?_;cases qe:fe l Z5 with
       |er z w=>rw[qe]at f;exact t (e2.trans u) f
       |bad=>rw[qe]at f;exact YU f.symm
       |ok x6 Z6=>
        rw[qe]at f;intro C H6 e6 s6 v6 hv6;have f:(if acc.length<1000000 then eC gt ft fe (ds.drop (i+1)) l Z6 (acc++[x6])else .bad)=rr:=f;by_cases I:acc.length<1000000
        .rw[av I]at f;have P:=u.trans e6;have hy6:H6 p=Bn (.lst ys):=kD s2 P hy;have vy6:=Sh.SJ P vy;have em:Ev (ow (c8 B p) C Z6) H6 (ow (c8 B p) C Z6) (bS H6 p (.lst (ys++[v6]))):=Ev.mut (.inl (.inr rfl)) _;have sl6:=G.SJ e6;refine⟨ys,hy6,yk (by rw[vy6.length];exact I),T7,C,Z6,l,acc++[x6],ys++[v6],(e2.trans P).dd N,s6.aeg hy6,⟨sl6.1,λj x hx=>let⟨v,h1,h2⟩:=sl6.2 j x hx;⟨v,h1,h2.ev em λ_ _ h=>h⟩⟩,aJ,A6 (Paired.Ub vy6 λ_ _ r=>r.ev em λ_ _ h=>h) (hv6.ev em λ_ _ h=>h),f⟩
        .rw[ax I]at f;exact a5 f.symm YU
   .have e:i=ds.length:=by ext
    subst e;rw[SX (PF _)]at f;have f:RS.ok acc Z2=rr:=f;subst f;refine .inl ⟨stop,?_⟩;refine w1 (Y++[p]) L ⟨λi a h=>im (e2.pre i a h),e2.kp,λb z=>(vP s2.len z).elim (e2.lv b) λz=>.inr (by rw[z];exact N)⟩ (s2.adopt hy vy hB) (.ref p) ⟨p,by rw[<-s2.len];exact bf,rfl⟩
theorem Ki{A C:Type}{P:C->bb Pz->aZ->Hp->Prop}{r:RS A}{k:A->aZ->C}{m:A->aZ->aZ}(w:WS K E B H U Z P ((mP r).bind λa o=>.ok (k a o) (m a o))):WS K E0 B H U Z P (r.bind λa o=>.ok (k a o) (m a o)):=by
 cases r with
 |ok a o=>exact w
 |er x o=>exact w.elim
 |bad=>exact w
theorem xH{own:bb Str}{e:bb (Str×Nat)}{a:TI}{g:TG}{d:TT}{b:TE}{h:MB}{gt:Da}{ft:yB}{fe:eK}{n:Nat}{f:bb Nat}(hn:own.length=n)(p:e.map (·.2)=f)
  (hi:Ob K E a h) (o:Ll K E0 g gt) (m:yy K E0 d ft) (q:eF K E0 b fe):eF K E (yu own e a g d b) (sF n f h gt ft fe):=by
 intro B M H U Z ρ Q s sl w;refine hi B M H U Z ρ _ s sl (WS.imp (WS.bind w) λds X Z1 S r j i J l=>?_);exact zA hn p o m q j (sl.SJ r) l (Ki i)
def fH(N:Nat)(g:gS):lB:=λxs Z=>(g (xs.map Bn++PK (N - xs.length) Pn) Z).bind λa Z1=>match a with
 |.rt x=>.ok x Z1
 |.nx _=>.ok (.fz .none) Z1
 |_=>.bad
theorem Dq{N:bb Str}{vs:bb V}{xs:bb SV}(h:Sh O K H U vs xs):SR O K H U (L2.start N vs) (xs.map Bn++PK (N.length - xs.length) Pn):=by
 have b:vs.length=xs.length:=Paired.length h;unfold L2.start;refine⟨by rw[PJ,PJ,Pp,Pp,Qg,Qg,b],λi x a=>?_⟩;by_cases hi:i<xs.length
 .rw[P9 (by rw[Pp];exact hi),PU]at a
  cases q:xs[i]? with
  |none=>rw[q]at a;cases a
  |some d=>rw[q]at a;cases a;obtain⟨v,e,f⟩:=zT h q;refine⟨v,?_,f⟩;rw[P9 (by rw[Pp,b];exact hi),PU,e];rfl
 .rw[Qq (by rw[Pp];ext),R8]at a;split at a<;>cases a
theorem K9{N:bb Str}{vs:bb V}{xs:bb SV}{g:gS}{t:TS}{Q:VK}{n:Nat}(e:t8 K E t g)(h:gp K n (fH N.length g) vs H Q E):t {nx:=λ_ T=>Q .Sz T,rt:=Q} (L2.start N vs) H:=by
 obtain⟨i,B,U,Z,xs,s,d,w⟩:=h;refine e B _ H U Z _ _ s (Dq d) (WS.imp (WS.bind w) λf X Z1 S j b a=>?_);cases f with
 |rt x=>exact WS.now (E:=E) b a
 |nx ρ=>exact λM sl=>WS.now (E:=E) b a .Sz .Sz
 |bk ρ=>exact a.elim
 |ct ρ=>exact a.elim
end
theorem Pg{P:Qc}{w:Qt}{K:Po}{mg:Str->bg Pq}{base:Heap}{x a:Str}{st:Sr}{f:Pz}{d:Q6}{N ps:bb Str}{k n m:Nat}{g:gS}{e:lB}(F:S9 K x a st f d)(S:TX N ps (aU st))(hn:ps.length=n)(hm:N.length=m)(o:e=fH m g)
  (p:∀(b:Pq) (A:Ql) (outer:bb Env) (s:Px) (H:Hp) (E:XK),Sg k (A.deeper (QJ a (aU st) s.heap.objs.size f b))->
   ∃t,Wm (rY dL P w K mg base N a (aU st) f b A outer s H E).Zn (fq st) t/\t8 K E t g):FnOk P w K mg base dL (k+1) f d ps (gp K n e):=by
 subst o hm;refine F.ok S (λvs H Q E h=>h.1.trans hn.symm) (λb A outer s H vs Q E l h=>?_);obtain⟨t,i,j⟩:=p b A outer s H E l;exact⟨t,i,K9 (xs:=[]) j h⟩
abbrev Ez(P:Qc)(w:Qt)(K:Po)(mg:Str->bg Pq)(base:Heap)(k:Nat)(x:Str)(ps:bb Str)(n:Nat)(F:lB):Prop:=wW P w K mg base k x ps (gp K n F)
end L10
namespace PySem.W
open PySem PySem.Calls PyProof.Rows PyProof.V PySem.Spec
section
variable{prog:Qc}{w:Qt}{A:Ql}{E:Pq->Px->Prop}{s:Px}{T:String}{r d:Pz}{n:Nat}{P:Nat->Pq->Prop}{OK:Heap->Prop}
theorem collect_kdl(K:KdlSrc prog w T r d n P OK)(l:A.handled=Pn)(h:OK s.heap)(hn:n<=PZ)
  (p:∀h' tk acc,(∀b o,s.heap.get? b=Bn o->h'.get? b=Bn o)->aab P acc n->Q acc.toList {s with heap:=h',toks:=tk}):wpAny (model prog w) A (collect (.ref r)) Q E s:=by
 have g:=K.there _ h;unfold collect;refine Ld (XA (Q2 F.entry_proto_collect ?_));rw[Ql.under_plainId F.plain_proto_collect _];refine Ld (QE ?_);refine Pt ⟨Rb F.plain_list_iadd _,Q2 F.entry_list_iadd ?_⟩;rw[Ql.under_plainId F.plain_list_iadd _];have m:(s.heap.push {cls:=.type "list",data:=.seq ([]:bb Pq).toArray}).get? s.heap.objs.size=Bn {cls:=.type "list",data:=.seq ([]:bb Pq).toArray}:=b0 _ rfl;refine kdl_extend (R:=wants (λv i=>wpAny (model prog w) A (match v with|.ref a=>(load a>>=λo=>match o.data with|.seq xs _=>pure xs.toList|_=>unsupported "internal:collect")|_=>unsupported "internal:collect") Q E i) E) (s:={s with heap:=s.heap.push {cls:=.type "list",data:=.seq ([]:bb Pq).toArray}}) K l (K.keep _ _ h λb _ o e=>br _ e) _ (Q0 g.1) (Q0 g.2) _ 0 m (λh' tk f u j q t=>?_) hn;refine Ld (U9 q ?_);exact Pt (p h' tk f (λb o e=>j b o (P5 (bP e)) (br _ e)) t)
end
end PySem.W
namespace PyProof.Rows
open PySem
section
variable{prog:Qc}{w:Qt}{A:Ql}{E:Pq->Px->Prop}{s:Px}{T:String}{r d:Pz}{n:Nat}{P:Nat->Pq->Prop}{OK:Heap->Prop}
theorem yI(K:PySem.W.KdlSrc prog w T r d n P OK)(l:A.handled=Pn)(y:OK s.heap)(v:n<64)(p:∀acc:Array Pq,aab P acc n->IntsAre acc.toList ns)
  (h:∀(h1 h':Heap) (f:Nat) (out:Array Pq) (e:Nat) (a:bb Int),(∀b o,s.heap.get? b=Bn o->h1.get? b=Bn o)->h'.get? h1.objs.size=Bn (seqObj "list" out e)->(∀b o,h1.get? b=Bn o->h'.get? b=Bn o)->IntsAre out.toList a->a.Perm ns->a.Pairwise (·<=·)->Q (.ref h1.objs.size) {s with heap:=h',toks:=f}):
  wpAny (model prog w) A (call (.builtin "sorted") [.ref r]) Q E s:=by
 refine Calls.call_function_entry kind_sorted plain_sorted entry_sorted (args_sorted1 _) (Ld (Pt (Ld (PySem.W.collect_kdl K l y (by rw[S5];ext) (λh1 f acc j hi=>Ld (VY ?_ (hsz:=by rw[Qf,hi.1,S5];ext)))))));have g:(h1.push (seqObj "list" acc.toList.toArray 0)).get? h1.objs.size=Bn (seqObj "list" acc.toList.toArray 0):=b0 _ rfl;have i:=p acc hi;refine Ld (Q1 (QC slot_list_sort ⟨_,g,rfl⟩ entry_list_sort (list_sort_tree g i (by rw[Qf,hi.1];exact v) λout a u t q=>⟨_,rfl,Pt ⟨_,rfl,?_⟩⟩) (args_list_sort _)));obtain⟨e,m⟩:=jB g;exact h h1 _ f out e a j m (λb B z=>iM (P5 (bP z)) (br _ z)) u t q
end
end PyProof.Rows
namespace L10
open PySem PySem.Spec PyProof.Rows L2 L3
def NU(p d:Pz):HO:=.ext λh=>h.IsValuesView p d
theorem NF(x:h.IsValuesView p d):ObjOk P w H h p (NU p d):=⟨x,let⟨o,a,_⟩:=x;⟨o,a⟩,λf e ⟨o,a,b⟩ k=>⟨o,k o a,b⟩⟩
def JV:V->bb V->Hp->VK->Prop:=λx vs H Q=>∃a Qk,x=.ref a/\vs=[]/\H a=Bn (.dK Qk)/\∀p,H p=Pn->Q (.ref p) (bS H p (NU p a))
theorem uw:Oi X "dict.values" JV:=by intro f s l H x xs v m Q I g d h;obtain⟨a,Qk,rfl,rfl,e,q⟩:=h;cases g;cases d;obtain⟨z,j,vs,i,dd⟩:=wT I.Ro e;refine call_meetsIn T2 dd.typeIs PySem.F.entry_dict_values (PySem.F.args_dict_values_1 _) (meets_dict_values (cY X.prog X.w) a j) ⟨⟨vs,dd⟩,?_⟩;refine⟨.ref s.heap.objs.size,_,I.laid (λb o e=>br _ e) (PF _) (NF ⟨_,b0 _ rfl,rfl,rfl⟩),rfl,q _ (I.Ro.fresh (PF _))⟩
def Es:bb V->Hp->VK->Prop:=λxs H Q=>∃p a Qk,xs=[.ref p]/\H p=Bn (NU p a)/\H a=Bn (.dK Qk)/\∀l,H l=Pn->Q (.ref l) (bS H l (.lst (Qk.map (·.2))))
theorem Bs:∀{Qk:bb (κ×V)} {vs:bb (κ×Pq)},KV Qk vs->Vals (Qk.map (·.2)) (vs.map (·.2))
 |_,_,.nil=>.nil
 |_,_,.cons h t=>.cons h.2 (Bs t)
theorem sM(m:X.calm=Pr):Sm X (.type "list") Es:=by intro f s B H xs C Q I r h;obtain⟨p,a,Qk,rfl,t,e,q⟩:=h;obtain⟨u,rfl,i⟩:=ir r;cases i;obtain⟨z,F,vs,b,dd⟩:=wT I.Ro e;obtain⟨J,A⟩:=dd.dictAt;obtain⟨g,_,_⟩:=I.Ro p _ t;refine PySem.W.kdl_call (PySem.W.kdl_values) (I.ok.hd m) ⟨g,A⟩ (by rw[<-b.length];exact z) λG E d c l n hi=>?_;have y:=PySem.W.kdl_vals_eq d.toList (by rw[Qf];exact hi.1) λj v w=>hi.2 j v (by rw[<-QD];exact w);refine⟨.ref s.heap.objs.size,_,I.laid (o:=.lst (Qk.map (·.2))) l (PF _) ⟨by rw[Pp];exact z,d.toList,c,by rw[y];exact Bs b,by rw[Array.toArray_toList];exact n⟩,rfl,q _ (I.Ro.fresh (PF _))⟩
def ER:bb V->Hp->VK->Prop:=λxs H Q=>∃(p:Pz) (Qk:bb (cT×V)) (a:bb Int),xs=[.ref p]/\H p=Bn (.dK Qk)/\Qk.map (·.1)=a.map Sum.inl/\a.length<64/\∀(l:Pz) (b:bb Int),H l=Pn->b.Perm a->b.Pairwise (·<=·)->Q (.ref l) (bS H l (.lst (b.map V.int)))
theorem sj:∀{vs:bb (cT×Pq)} {a:bb Int} {us:bb Pq},vs.map (·.1)=a.map Sum.inl->us.length=vs.length->(∀(j:Nat) (u:Pq),us[j]?=Bn u->∃k x,vs[j]?=Bn (k,x)/\(cY prog w).is k u=Pr)->IntsAre us a
 |[],[],[],_,_,_=>.nil
 |[],[],_::_,_,h,_=>by simp at h
 |[],_::_,_,h,_,_=>by simp at h
 |_::_,[],_,h,_,_=>by simp at h
 |_::_,_::_,[],_,h,_=>by simp at h
 |(k,y)::vs,n::a,u::us,h1,h2,h3=>by rw[PY,PY,agw]at h1;obtain⟨g,x,e,d⟩:=h3 0 u rfl;cases e;have f:=h1.1;subst f;obtain⟨t,rfl⟩:=Pq.isInt_shape (show Pq.isInt n u=Pr from d);exact .cons _ _ (sj h1.2 (by simpa using h2) λj b e=>h3 (j+1) b (by simpa using e))
theorem sA(B:X.calm=Pr):Sm X (.builtin "sorted") ER:=by
 intro f s M H xs N Q I r h;obtain⟨p,Qk,g,rfl,e,E,T,q⟩:=h;obtain⟨u,rfl,n⟩:=ir r;cases n;obtain⟨z,A,vs,b,dd⟩:=wT I.Ro e;obtain⟨S,J⟩:=dd.dictAt;have i:vs.map (·.1)=g.map Sum.inl:=by rw[<-b.keys];exact E
 have P:vs.length=g.length:=by have:=di U0 i;simpa using this
 refine yI (PySem.W.kdl_dict A) (I.ok.hd B) J (by ext) (λK hi=>sj i (by rw[Qf];exact hi.1) λj v F=>hi.2 j v (by rw[<-QD];exact F)) λC R O d G o w y L hi l t=>?_;have a:=l.length_eq;have m:=I.kept (t':=s.toks) w;refine⟨.ref C.objs.size,_,m.laid L (PF _) ?_,rfl,q _ o (m.Ro.fresh (PF _)) l t⟩;refine⟨?_,d.toList,G,ie hi,y⟩;rw[Pp,a];have:(64:Nat)<=PZ:=by decide
 ext
end L10
namespace PySem
open Sem (wp)
namespace F
theorem lk_tuple_keys:typeLookup (.type "tuple") "keys"=pure Pn:=by rw[Vc,Tt];kernel_rfl
theorem lk_tuple_hook:typeLookup (.type "tuple") "__getattr__"=pure Pn:=by rw[Vc,Tt];kernel_rfl
theorem sub_ae:isSubtype (.type "AttributeError") (.type "AttributeError")=pure Pr:=by rw[Vt];kernel_rfl
end F
section
variable{prog:Qc}{w:Qt}{A:Ql}{E:Pq->Px->Prop}{h:Heap}{g:Array Vq}{d:Xw}{t:Nat}{Z:OsState}{a:Pz}{o:Obj}
theorem yG{α:Type}{name f:Str}{Q:α->Px->Prop}{E:Pq->Px->Prop}(hm:f.length<=PZ)(l:A.handled=Pn)(i:∀e h' t',(∀b o,h.get? b=Bn o->h'.get? b=Bn o)->(⟨h',g,d,t',Z⟩:Px).TypeIs e "AttributeError"->E e ⟨h',g,d,t',Z⟩):
  wpAny (model prog w) A (raiseAttrError (.ref a) name f:Sem α) Q E ⟨h,g,d,t,Z⟩:=by
 have j:¬f.length>PZ:=Nat.not_lt.mpr hm;unfold raiseAttrError newExc newTuple
 repeat (any_goals (first|assumption|wp_step))
 refine UB (a:=Pr) F.sub_ae ?_
 repeat (any_goals (first|assumption|wp_step))
 refine wpAny_raiseNew_none l (i _ _ _ (λb o e=>?_) ?_)
 .exact(b3 _ _ (da (P5 (bP (br _ e))))).trans (br _ (br _ e))
 .exact⟨_,b5 _ (b0 _ rfl) rfl,rfl⟩
theorem oo{f:Tok}{Q:Fin->Px->Prop}{E:Pq->Px->Prop}{l:Array Pq}{n:Nat}{sl:Array (bg Pq)}(hx:h.get? a=Bn ⟨.type "tuple",Pn,.seq l n,sl⟩)(j:A.handled=Pn)(i:∀e h' t',(∀b o,h.get? b=Bn o->h'.get? b=Bn o)->(⟨h',g,d,t',Z⟩:Px).TypeIs e "AttributeError"->E e ⟨h',g,d,t',Z⟩):
  wpAny (model prog w) A (Qe.«object.__getattribute__» ⟨[.ref a,.str "keys" f],[]⟩) Q E ⟨h,g,d,t,Z⟩:=by
 have m:(⟨h,g,d,t,Z⟩:Px).TypeIs (.ref a) "tuple":=⟨_,hx,rfl⟩;have p:=F.lk_tuple_keys
 repeat (any_goals (first|assumption|wp_step))
 exact yG (by left) j i
theorem sT{f:Tok}{Q:Pq->Px->Prop}{E:Pq->Px->Prop}{q:Array Pq}{n:Nat}{sl:Array (bg Pq)}(hx:h.get? a=Bn ⟨.type "tuple",Pn,.seq q n,sl⟩)(m:A.handled=Pn)(j:∀e h' t',(∀b o,h.get? b=Bn o->h'.get? b=Bn o)->(⟨h',g,d,t',Z⟩:Px).TypeIs e "AttributeError"->E e ⟨h',g,d,t',Z⟩):
  wpAny (model prog w) A (getAttrBy (.ref a) (.str "keys" f) Py) Q E ⟨h,g,d,t,Z⟩:=by
 have p:(⟨h,g,d,t,Z⟩:Px).TypeIs (.ref a) "tuple":=⟨_,hx,rfl⟩;have v:=F.slot_tuple_getattribute.lookup;have u:=F.slot_tuple_getattribute.bind (.ref a);have r:=F.lk_tuple_hook
 repeat (any_goals (first|assumption|wp_step))
 refine Vu F.slot_tuple_getattribute.plain F.entry_tuple_ga (F.slot_tuple_getattribute.check _ _ _ _ _ _ _ _ p (F.args_tuple_getattribute_2 _ _) (oo hx m λe h' t' l i=>?_));have fs:=F.sub_ae;show wpAny (model prog w) A (getattributeRaised (Pq.ref a) (Pq.str (Str.ofString "keys") f) (Pq.type "tuple") e Pn Py Py) Q E _;unfold getattributeRaised;refine Ld (UY i fs ?_)
 repeat (any_goals (first|assumption|wp_step))
 exact j e h' t' l i
theorem pG(hx:h.get? a=Bn ⟨.type "tuple",Pn,.seq Qw n,sl⟩)(j:A.handled=Pn)(f:∀h' t',(∀b o,h.get? b=Bn o->h'.get? b=Bn o)->Q Pn ⟨h',g,d,t',Z⟩):
  wpAny (model prog w) A (getAttr? (.ref a) "keys") Q E ⟨h,g,d,t,Z⟩:=by
 unfold getAttr? getAttrBy?;have fs:=F.sub_ae;refine Ld ?_
 repeat (any_goals (first|assumption|(specialize sT hx j λe h' t' i l=>?_)|wp_step))
 exact f h' t' i
namespace F
theorem entry_upd_loop:entryFor table "dict.update.loop"=Bn Qe.«dict.update.loop»:=abB (by kernel_rfl)
theorem plain_upd_loop:plainId "dict.update.loop"=Pr:=by left
end F
end
section
variable{prog:Qc}{w:Qt}{A:Ql}{E:Pq->Px->Prop}{s:Px}{K:Type}[DecidableEq K]{knd:KeyKind prog w K}{I dd Y:Pz}{Z:Array Pq}{ks:bb (K×Pq)}{R:WC->Px->Prop}
theorem yJ(Qk:bb (K×Pq))(k:K)(v:Pq):(stored Qk k v).length<=Qk.length+1:=by
 unfold stored;split
 .rw[Pp];ext
 .rw[PJ];exact PF _
theorem oU:∀(a Qk:bb (K×Pq)),(merged Qk a).length<=Qk.length+a.length
 |[],Qk=>PF _
 |p::r,Qk=>by have d:=oU r (stored Qk p.1 p.2);have b:=yJ Qk p.1 p.2;show(merged (stored Qk p.1 p.2) r).length<=_;rw[PN];ext
theorem yZ(a:bb (K×Pq)):(merged [] a).length<=a.length:=by have:=oU a [];simpa using this
theorem Fe{N:Heap}(hh:A.handled=Pn)(Vg:Y≠I)(M:I≠dd)(L:Y≠dd)(hp:∀(i:Nat) (v:Pq),Z[i]?=Bn v->∃q key k x,v=.ref q/\q≠dd/\q≠I/\ks[i]?=Bn (k,x)/\knd.is k key=Pr/\N.IsTuple q #[key,x])(hs:ks.length=Z.size)(hz:Z.size<=PZ)
  (hR:∀h' g,h'.DictOf knd dd (merged [] ks)->(∀b o,b≠dd->b≠I->N.get? b=Bn o->h'.get? b=Bn o)->R (.ok (.ret .none)) {s with heap:=h',toks:=g}):
  ∀(m i:Nat) (h:Heap) (g:Nat),Z.size - i=m->i<=Z.size->h.IsTupleIter I Y i->h.IsTuple Y Z->h.DictOf knd dd (merged [] (ks.take i))->(∀b o,b≠dd->b≠I->N.get? b=Bn o->h.get? b=Bn o)->
   codeAny (model prog w) A (.builtin "dict.update.loop" ⟨[.ref dd,.ref I,rawInt i,.none],[]⟩) R {s with heap:=h,toks:=g}:=by
 have W:=Walks.tuple (prog:=prog) (w:=w) (A:=A.in1) hh I Y Vg Z;intro m
 induction m with
 |zero=>
  intro i h g hm hi y t p n;have e:i=Z.size:=by ext
  subst e;refine Q2 F.entry_upd_loop ?_;rw[Ql.under_plainId F.plain_upd_loop _];refine Ld (W.done _ _ _ ⟨y,t⟩ λh' r d=>?_);rw[List.take_of_length_le (by ext)]at p;refine Ld (Pt (Pt ?_));refine hR h' r (p.at λo e=>d dd o (by simp;exact λz=>M z.symm) e) λb o f a e=>d b o (by simp;exact a) (n b o f a e)
 |succ m X=>
  intro i h g hm hi y t p n;have Q:i<Z.size:=by ext
  refine Q2 F.entry_upd_loop ?_;rw[Ql.under_plainId F.plain_upd_loop _];refine Ld (W.item i _ _ _ Q ⟨y,t⟩ λv h' r hv st d=>?_);obtain⟨q,key,k,x,rfl,C,j,G,Wd,ht⟩:=hp i v hv;have B:=ht.at λo e=>d q o (by simp;exact j) (n q o C j e);have P:=p.at λo e=>d dd o (by simp;exact λz=>M z.symm) e;have u:=λb o f a e=>d b o (by simp;exact a) (n b o f a e);obtain⟨U,l,J,nq,H⟩:=B;obtain⟨cq,dq,dtq,S⟩:=U;cases J;cases H;have hT:({s with heap:=h',toks:=r}:Px).TypeIs (.ref q) "tuple":=⟨_,l,rfl⟩;refine Ld (Q1 (Ld ?_));refine Vv ?_;unfold Qe.Dict.pairItems;refine Ld (Ti hT ?_);rw[av (by decide)];refine Ld ?_;unfold seqItems?;refine Ld (U9 l (Pt (Pt ?_)));refine Q1 (wpAny_dictSet_pairs Wd P (λa d2 T=>?_) ?_)
  .refine Pt ⟨Rb F.plain_upd_loop _,?_⟩;have O:∀b o,b≠dd->h'.get? b=Bn o->a.get? b=Bn o:=λb o hb e=>(T.2 b hb).trans e;refine X (i+1) a (r+1) (by ext) Q (st.1.at λo e=>O I o M e) (st.2.at λo e=>O Y o L e) ?_ λb o f a e=>O b o f (u b o f a e);rw[merged_take_succ [] ks i (k,x) G];exact d2
  .have:(merged [] (ks.take i)).length<=(ks.take i).length:=yZ _;rw[QH]at this;ext
end
end PySem
namespace PySem
open Sem (wp)
open PyProof.Rows
section
variable{prog:Qc}{w:Qt}{A:Ql}{E:Pq->Px->Prop}{s:Px}{K:Type}[DecidableEq K]{knd:KeyKind prog w K}{Y:Pz}{Z:Array Pq}{ks:bb (K×Pq)}{R:WC->Px->Prop}
theorem pQ(y:A.handled=Pn)(hx:s.heap.get? Y=Bn ⟨.type "tuple",Pn,.seq Z n,sl⟩)(C:ks.length=Z.size)(hz:Z.size<=PZ)
  (G:∀(i:Nat) (v:Pq),Z[i]?=Bn v->∃q key k x,v=.ref q/\ks[i]?=Bn (k,x)/\knd.is k key=Pr/\s.heap.IsTuple q #[key,x])
  (h:∀h' tk,h'.DictOf knd s.heap.objs.size (merged [] ks)->(∀b o,s.heap.get? b=Bn o->h'.get? b=Bn o)->Q (.ref s.heap.objs.size) {s with heap:=h',toks:=tk}):
  wpAny (model prog w) A (call (.type "dict") [.ref Y]) Q E s:=by
 refine callType_codes (Q₁:=λobj a=>obj=.ref s.heap.objs.size/\a={s with heap:=s.heap.push {cls:=.type "dict",data:=.dict #[]}}) F.kt_called_dict (F.kt_typeCall_dict_1 _) F.entry_dict_init (kt_code_dict_new _ ⟨rfl,rfl⟩) ?_;rintro obj a ⟨rfl,rfl⟩;have l:(s.heap.push {cls:=.type "dict",data:=.dict #[]}).DictOf knd s.heap.objs.size []:=Heap.DictOf.new s.heap;have t:(s.heap.push {cls:=.type "dict",data:=.dict #[]}).get? Y=Bn ⟨.type "tuple",Pn,.seq Z n,sl⟩:=br _ hx;have H:({s with heap:=s.heap.push {cls:=.type "dict",data:=.dict #[]}}:Px).TypeIs (.ref Y) "tuple":=⟨_,t,rfl⟩;refine⟨l.typeIs,F.args_dict_init_2 _ _,?_⟩;unfold Qe.«dict.__init__»;refine Ld ?_;unfold Qe.Dict.selfAndRest;refine Ld (wpAny_notOrdered_dict l.typeIs ?_);refine Pt ?_;show wpAny _ _ (Qe.Dict.updateFrom "dict.__init__" s.heap.objs.size (.ref Y) [] .none) _ _ _;unfold Qe.Dict.updateFrom;refine Ld (Ti H ?_);rw[av (by decide)];refine Ld (pG t y λh' z g=>?_);rw[av (show(Pn:bg Pq).isNone=Pr from rfl)];refine Ld (Sj ?_);have f:=g _ _ t;have p:h'.IsTuple Y Z:=⟨_,f,rfl,n,rfl⟩;refine Ld (Vk p ?_);refine Pt ⟨Rb F.plain_upd_loop _,?_⟩;have Mz:s.heap.objs.size<h'.objs.size:=by obtain⟨o,_,_,j,_⟩:=l;exact bP (g _ _ j)
 have d:=bP hx;refine Fe (A:=A.in1) (knd:=knd) y (P5 (Sx d Mz)) (Q0 Mz) (P5 d) (λi v e=>?_) C hz (λr m L B=>?_) Z.size 0 _ z (by ext) (Qu _) ⟨_,b0 _ rfl,rfl,rfl⟩ ⟨_,br _ f,rfl,n,rfl⟩ ?_ λb o _ _ e=>e
 .obtain⟨q,key,k,x,rfl,J,r,o,j,I⟩:=G i v e;have u:=bP j;exact⟨q,key,k,x,rfl,P5 u,P5 (Sx u Mz),J,r,o,br _ (g _ _ (br _ j)),I⟩
 .refine⟨rfl,h r m L λb o e=>?_⟩;have lb:=bP e;exact B b o (P5 lb) (P5 (Sx lb Mz)) (br _ (g _ _ (br _ e)))
 .have:=l.at (h':=h'.push {cls:=.type "tuple_iterator",data:=.fields #[.ref Y,.int 0 0]}) λo e=>br _ (g _ _ e);exact this
end
end PySem
namespace L10
open PySem PySem.Spec PyProof.Rows L2 L3
inductive Wy(K:Po)(H:Hp):bb V->bb (cT×V)->Prop
 |nil:Wy K H [] []
 |cons {q:Pz} {k:cT} {v:V} {vs:bb V} {Qk:bb (cT×V)}:Uj K H q [kV k,v]->Wy K H vs Qk->Wy K H (.ref q::vs) ((k,v)::Qk)
def DC(K:Po):bb V->Hp->VK->Prop:=λxs H Q=>∃p ys Qk,xs=[.ref p]/\Uj K H p ys/\Wy K H ys Qk/\∀d,H d=Pn->Q (.ref d) (bS H d (.dK (nW [] Qk)))
theorem F5(I:Inv X pins σ H s):∀{ys:bb V} {Qk:bb (cT×V)} {us:bb Pq},Wy X.K H ys Qk->Vals ys us->∃ks:bb (cT×Pq),KV Qk ks/\ks.length=us.length/\∀(i:Nat) (v:Pq),us[i]?=Bn v->∃q key k x,v=.ref q/\ks[i]?=Bn (k,x)/\(cY X.prog X.w).is k key=Pr/\s.heap.IsTuple q #[key,x]
 |_,_,_,.nil,.nil=>⟨[],.nil,rfl,λi v e=>by simp at e⟩
 |_,_,_,.cons (q:=q) (k:=k) (v:=v) h t,.cons r rs=>by
  obtain⟨ks,n,m,l⟩:=F5 I t rs;obtain⟨o,rv,pl,_⟩:=I.tuple h;cases r;obtain⟨f,d,rfl,j,g⟩:∃f d,o=[f,d]/\RelV (kV k) f/\RelV v d:=by
   cases rv with
   |cons a b=>cases b with
    |cons b c=>cases c;exact⟨_,_,rfl,a,b⟩
  refine⟨(k,d)::ks,.cons ⟨rfl,g⟩ n,by rw[PN,PN,m],λi u e=>?_⟩;cases i with
  |zero=>cases e;exact⟨q,f,k,d,rfl,rfl,tN j,pl⟩
  |succ i=>exact l i u (by simpa using e)
theorem yT(F:X.calm=Pr):Sm X (.type "dict") (DC X.K):=by
 intro d s G H xs L Q I r h;obtain⟨p,J,Qk,rfl,w,y,q⟩:=h;obtain⟨u,rfl,g⟩:=ir r;cases g;obtain⟨T,rv,⟨o,z,⟨b,n,E⟩,a⟩,t⟩:=I.aaj w;obtain⟨P,f,m,l⟩:=F5 I y rv;obtain⟨O,N,j,S⟩:=o;cases b;cases E;cases a;have A:=rv.length;have B:=f.length;refine pQ (I.ok.hd F) z (by rw[PX];exact m) (by rw[PX,<-A];exact t) (λi v e=>l i v (by simpa using e)) λR M dd C=>?_;refine⟨.ref s.heap.objs.size,_,I.laid C (PF _) ?_,rfl,q _ (I.Ro.fresh (PF _))⟩;refine zk ?_ ?_ (KV.merge f .nil) dd
 .have:=lP Qk [];rw[QA]at this;ext
 .exact beq_eq_false_iff_ne.mpr (Q0 I.big)
end L10
namespace L10
open PySem PyProof.Rows L2 L3
theorem K8:QY "dict"=Bn (.type "dict"):=by left
section
variable{B O O':b8}{K:Po}{E:XK}{H H' S R:Hp}{Y α' X U:bb Pz}{Z Z' Z1 Z2:aZ}{T:L2.St}{ρ:bv}{v:V}
def sW:SV->bg cT
 |.fz (.int i)=>Bn (.inl i)
 |.fz (.str x)=>Bn (.inr x)
 |_=>Pn
theorem p8(e:sW x=Bn k)(h:SU O K H Y v x):v=kV k:=by
 unfold sW at e;split at e
 .cases e;cases h;rfl
 .cases e;cases h;rfl
 .cases e
abbrev v7(O:b8)(K:Po)(H:Hp)(Y:bb Pz):bb (cT×V)->bb (cT×SV)->Prop:=Paired (λ(p:cT×V) (q:cT×SV)=>p.1=q.1/\SU O K H Y p.2 q.2)
def iy(Z:aZ):SV->bg (Nat×bb (cT×SV))
 |.rf i=>match Z[i]? with
  |some (.Vo Qk)=>Bn (i,Qk)
  |_=>Pn
 |_=>Pn
theorem ma(s:Qr B K H Y Z)(b:SU (ow B Y Z) K H Y v x)(h:iy Z x=Bn (i,Qk)):Z[i]?=Bn (.Vo Qk)/\∃a ws,Y[i]?=Bn a/\v=.ref a/\H a=Bn (.dK ws)/\v7 (ow B Y Z) K H Y ws Qk:=by
 cases x with
 |fz d=>cases h
 |tp l=>cases h
 |rf j=>
  obtain⟨a,ha,rfl⟩:=b;unfold iy at h;dsimp only at h;cases q:Z[j]? with
  |none=>rw[q]at h;cases h
  |some c=>
   rw[q]at h;cases c with
   |Vo m=>have e:=P4 h;cases e;obtain⟨ws,g,f⟩:=s.Ww i a _ ha q;exact⟨q,a,ws,ha,rfl,g,f⟩
   |_=>cases h
def jR(Qk:bb (cT×SV))(k:cT):bg SV:=(Qk.find? λa=>decide (a.1=k)).map (·.2)
def ka(Qk:bb (cT×SV))(k:cT)(x:SV):bb (cT×SV):=
 if(Qk.any λa=>decide (a.1=k))=Pr then Qk.map (λa=>if a.1=k then(a.1,x)else a)else Qk++[(k,x)]
def l6(Qk:bb (cT×SV))(k:cT):bb (cT×SV):=Qk.filter λa=>decide (a.1≠k)
theorem qB:∀{ws:bb (cT×V)} {Qk:bb (cT×SV)},v7 O K H Y ws Qk->(∀x,jR Qk k=Bn x->∃v,ki ws k=Bn v/\SU O K H Y v x)/\(jR Qk k=Pn->ki ws k=Pn)
 |_,_,.nil=>⟨λx e=>(by cases e),λ_=>rfl⟩
 |(a,u)::ws,(b,y)::Qk,.cons ⟨h1,h2⟩ t=>by
  cases h1;unfold jR ki;rw[Rr,Rr];by_cases e:a=k
  .simp only[aP e];exact⟨λx h=>⟨u,rfl,by cases h;exact h2⟩,λh=>by cases h⟩
  .simp only[a3 e];exact qB t
theorem Ni:∀{ws:bb (cT×V)} {Qk:bb (cT×SV)},v7 O K H Y ws Qk->(ws.any λkv=>decide (kv.1=k))=Qk.any λkv=>decide (kv.1=k)
 |_,_,.nil=>rfl
 |(a,u)::ws,(b,y)::Qk,.cons ⟨h1,h2⟩ t=>by cases h1;rw[Rm,Rm,Ni t]
theorem LX(d:SU O K H Y v x):∀{ws:bb (cT×V)} {Qk:bb (cT×SV)},v7 O K H Y ws Qk->v7 O K H Y (ws.map (λkv=>if kv.1=k then(kv.1,v)else kv)) (Qk.map (λkv=>if kv.1=k then(kv.1,x)else kv))
 |_,_,.nil=>.nil
 |(a,u)::ws,(b,y)::Qk,.cons ⟨h1,h2⟩ t=>by
  cases h1;rw[PY,PY];by_cases e:a=k
  .rw[av e,av e];exact .cons ⟨rfl,d⟩ (LX d t)
  .rw[ax e,ax e];exact .cons ⟨rfl,h2⟩ (LX d t)
theorem FB(h:v7 O K H Y ws Qk)(r:p.1=q.1/\SU O K H Y p.2 q.2):v7 O K H Y (ws++[p]) (Qk++[q]):=by
 induction h with
 |nil=>exact .cons r .nil
 |cons a _ b=>exact .cons a b
theorem BG(a:SU O K H Y v x)(h:v7 O K H Y ws Qk):v7 O K H Y (jo ws k v) (ka Qk k x):=by
 unfold jo ka;rw[Ni h];split
 .exact LX a h
 .exact FB h ⟨rfl,a⟩
theorem qX:∀{ws:bb (cT×V)} {Qk:bb (cT×SV)},v7 O K H Y ws Qk->v7 O K H Y (nA ws k) (l6 Qk k)
 |_,_,.nil=>.nil
 |(a,u)::ws,(b,y)::Qk,.cons ⟨h1,h2⟩ t=>by
  cases h1;unfold nA l6;rw[Ut,Ut];by_cases e:a=k
  .have z:decide (a≠k)=Py:=a3 λn=>n e;simp only[z];exact qX t
  .have z:=aP e;simp only[z];exact .cons ⟨rfl,h2⟩ (qX t)
def yr(a:Bool)(b d:eK):eK:=λρ Z=>(b ρ Z).bind λx Z1=>(d ρ Z1).bind λo Z2=>(RS.QL Z2 (sW x)).bind λk Z2=>(RS.QL Z2 (iy Z2 o)).bind λp Z2=>.ok (.fz (.bool ((jR p.2 k).isSome !=a))) Z2
theorem Gp(h:v7 O K H Y ws Qk):(ki ws k).isSome=(jR Qk k).isSome:=by
 obtain⟨b,a⟩:=qB h;cases q:jR Qk k with
 |none=>rw[a q];rfl
 |some x=>obtain⟨u,e,_⟩:=b x q;rw[e];rfl
theorem Hi(m:eF K E tk fk)(hd:eF K E td fd):eF K E (Nu tk td) (yr Py fk fd):=by intro B T H Y Z ρ Q s sl w;refine m B T H Y Z ρ _ s sl (w.bind.imp λx X Z1 S q f e v j=>?_);refine hd B T S X Z1 ρ _ f (sl.SJ q) (e.bind.imp λo U Z2 R r d b u l=>?_);obtain⟨k,h,b⟩:=WS.QL b;obtain⟨⟨i,Qk⟩,g,b⟩:=WS.QL b;obtain⟨_,a,ws,ha,rfl,p,n⟩:=ma d l g;refine⟨a,ki ws k,rfl,by rw[p8 h j];exact WW.k p,?_⟩;rw[Gp n];refine WS.now d b _ ?_;rw[Bool.bne_false];exact .bl _
def tP(b a:eK):eK:=λρ Z=>(b ρ Z).bind λo Z1=>(a ρ Z1).bind λx Z2=>(RS.QL Z2 (sW x)).bind λk Z2=>(RS.QL Z2 (iy Z2 o)).bind λp Z2=>RS.QL Z2 (jR p.2 k)
theorem xg(hd:eF K E td fd)(p:eF K E tk fk):eF K E (J6 td tk) (tP fd fk):=by
 intro B T H Y Z ρ Q s sl w;refine hd B T H Y Z ρ _ s sl (w.bind.imp λo X Z1 S C g e u n=>?_);refine p B T S X Z1 ρ _ g (sl.SJ C) (e.bind.imp λx U Z2 R A d b v m=>?_);obtain⟨k,j,b⟩:=WS.QL b;obtain⟨⟨i,Qk⟩,h,b⟩:=WS.QL b;obtain⟨_,a,ws,ha,rfl,t,r⟩:=ma d (n.SJ A) h;dsimp only at b;cases q:jR Qk k with
 |none=>rw[q]at b;exact b.elim
 |some y=>rw[q]at b;obtain⟨z,l,f⟩:=(qB r).1 y q;exact⟨a,z,rfl,by rw[p8 j m,<-l];exact WW.k t,WS.now d b z f⟩
def yf(e d b:eK):gS:=λρ Z=>(b ρ Z).bind λy Z1=>(e ρ Z1).bind λo Z2=>(d ρ Z2).bind λx a=>(RS.QL a (sW x)).bind λk a=>(RS.QL a (iy a o)).bind λp a=>if p.2.length<1000000 then .ok (.nx ρ) (a.set p.1 (.Vo (ka p.2 k y)))else .bad
theorem F6(hd:eF K E td fd)(Q:eF K E tk fk)(N:eF K E tv fv):t8 K E (Jg td tk tv) (yf fd fk fv):=by
 intro B T H Y Z ρ D s sl w;refine N B T H Y Z ρ _ s sl (WS.imp (WS.bind w) λy X Z1 S n I F p j=>?_);refine hd B T S X Z1 ρ _ I (sl.SJ n) (WS.imp (WS.bind F) λo U Z2 R m G C u P=>?_);refine Q B T R U Z2 ρ _ G (sl.SJ (n.trans m)) (WS.imp (WS.bind C) λx b e f l q d z M=>?_);obtain⟨k,L,d⟩:=WS.QL d;obtain⟨⟨i,Qk⟩,J,d⟩:=WS.QL d;obtain⟨g,a,ws,ha,rfl,g1,t⟩:=ma q (P.SJ l) J;dsimp only at d;by_cases hn:Qk.length<1000000
 .rw[av hn]at d;have ev:Ev (ow B b e) f (ow B b e) (bS f a (.dK (jo ws k p))):=qI ha g (by nofun);have A:RK b e f b (e.set i (.Vo (ka Qk k y))) (bS f a (.dK (jo ws k p))):=RK.put ha g (by nofun) (by nofun);have hl:=Paired.length t;refine⟨a,_,rfl,by rw[p8 L M];exact Y2.k g1 (yk (by ext)),?_⟩;exact d b _ A (q.put ha g (by nofun) (by nofun) ⟨_,aJ,BG ((j.SJ (m.trans l)).ev ev λ_ _ h=>h) (Paired.Ub t λ_ _ r=>⟨r.1,r.2.ev ev λ_ _ h=>h⟩)⟩) T ((sl.SJ (n.trans (m.trans l))).SJ A)
 .rw[ax hn]at d;exact d.elim
def xC(b a:eK):eK:=λρ Z=>(b ρ Z).bind λo Z1=>(RS.QL Z1 (iy Z1 o)).bind λ_ Z1=>(a ρ Z1).bind λx Z2=>(RS.QL Z2 (sW x)).bind λk Z2=>(RS.QL Z2 (iy Z2 o)).bind λp Z2=>(RS.QL Z2 (jR p.2 k)).bind λy Z2=>.ok y (Z2.set p.1 (.Vo (l6 p.2 k)))
theorem Dh(hd:eF K E td fd)(I:eF K E tk fk):eF K E (Dg td tk) (xC fd fk):=by intro B T H Y Z ρ Q s sl w;refine hd B T H Y Z ρ _ s sl (w.bind.imp λo X Z1 S P j e u l=>?_);obtain⟨⟨i0,aeO⟩,C,e⟩:=WS.QL e;obtain⟨_,a,d,_,rfl,L,_⟩:=ma j l C;refine⟨a,rfl,.inl ⟨d,.inl L⟩,?_⟩;refine I B T S X Z1 ρ _ j (sl.SJ P) (e.bind.imp λx U Z2 R N g b v G=>?_);obtain⟨k,A,b⟩:=WS.QL b;obtain⟨⟨i,Qk⟩,t,b⟩:=WS.QL b;obtain⟨f,a',ws,ha,M,J,m⟩:=ma g (l.SJ N) t;cases M;dsimp only at b;obtain⟨y,q,b⟩:=WS.QL b;obtain⟨z,F,p⟩:=(qB m).1 y q;have ev:Ev (ow B U Z2) R (ow B U Z2) (bS R a (.dK (nA ws k))):=qI ha f (by nofun);have n:RK U Z2 R U (Z2.set i (.Vo (l6 Qk k))) (bS R a (.dK (nA ws k))):=RK.put ha f (by nofun) (by nofun);refine⟨ws,k,z,J,p8 A G,F,?_⟩;exact b U _ n (g.put ha f (by nofun) (by nofun) ⟨_,aJ,qX (Paired.Ub m λ_ _ r=>⟨r.1,r.2.ev ev λ_ _ h=>h⟩)⟩) z (p.SJ n)
theorem nr(s:Qr B K H Y Z)(a:H p=Pn)(w:WS K E B H Y Z (PQ B K Q) (.ok (.rf Z.length) (Z++[c])))(d:∀e:RK Y Z H (Y++[p]) (Z++[c]) (bS H p o),ZJ (ow B (Y++[p]) (Z++[c])) K (bS H p o) (Y++[p]) p c):Q (.ref p) (bS H p o):=by have b:Rx H (bS H p o):=bV a _;have e:RK Y Z H (Y++[p]) (Z++[c]) (bS H p o):=RK.Xn s.len b a;exact w _ _ e (s.Xn b a (by rw[aJ];simp) (d e)) _ ⟨p,by rw[<-s.len];exact bf,rfl⟩
def Bp(a:eK):eK:=λρ Z=>(a ρ Z).bind λo Z1=>(RS.QL Z1 (iy Z1 o)).bind λp Z1=>.ok (.rf Z1.length) (Z1++[.lst (p.2.map (·.2))])
theorem xW:∀{ws:bb (cT×V)} {Qk:bb (cT×SV)},v7 O K H Y ws Qk->Sh O K H Y (ws.map (·.2)) (Qk.map (·.2))
 |_,_,.nil=>.nil
 |_,_,.cons h t=>.cons h.2 (xW t)
theorem yx(hd:eF K E td fd):eF K E (C8 Es (kU (NP K "dict" JV td) ox)) (Bp fd):=by intro B T H Y Z ρ Q s sl w;refine hd B T H Y Z ρ _ s sl (w.bind.imp λo X Z1 S A g d u n=>?_);obtain⟨⟨i,Qk⟩,m,d⟩:=WS.QL d;obtain⟨z,a,ws,ha,rfl,f,y⟩:=ma g n m;refine⟨.inr (.inr (.inl ⟨rfl,.inl ⟨ws,f⟩⟩)),a,ws,rfl,rfl,f,λp q=>?_⟩;have b:Rx S (bS S p (NU p a)):=bV q _;have j:=g.grow b;have h:=WS.from (RK.same b) d;refine⟨p,a,ws,rfl,aJ,b _ _ f,λl t=>?_⟩;refine nr j t h λe=>⟨_,aJ,xW (Paired.Ub y λ_ _ r=>⟨r.1,(r.2.SJ (RK.same b)).SJ e⟩)⟩
def zm:cT->bg Int
 |.inl i=>Bn i
 |.inr _=>Pn
def ur(b:eK):eK:=λρ Z=>(b ρ Z).bind λo Z1=>(RS.QL Z1 (iy Z1 o)).bind λp Z1=>(RS.QL Z1 (aC zm (p.2.map (·.1)))).bind λa Z1=>if a.length<64 then .ok (.rf Z1.length) (Z1++[.lst ((dr a).map λi=>SV.fz (.int i))])else .bad
theorem qO:∀{ks:bb cT} {a:bb Int},aC zm ks=Bn a->ks=a.map Sum.inl
 |[],_,e=>by cases e;rfl
 |k::r,a,e=>by
  unfold aC at e;cases k with
  |inr x=>cases e
  |inl i=>
   dsimp only[zm]at e;cases q:aC zm r with
   |none=>rw[q]at e;cases e
   |some b=>rw[q]at e;cases e;rw[PY,<-qO q]
theorem x5:∀{ws:bb (cT×V)} {Qk:bb (cT×SV)},v7 O K H Y ws Qk->ws.map (·.1)=Qk.map (·.1)
 |_,_,.nil=>rfl
 |_,_,.cons h t=>by rw[PY,PY,h.1,x5 t]
theorem Ag(O:b8)(K:Po)(H:Hp)(Y:bb Pz):∀ns:bb Int,Sh O K H Y (ns.map V.int) (ns.map λi=>SV.fz (.int i))
 |[]=>.nil
 |n::r=>.cons (.int n) (Ag O K H Y r)
theorem wJ(hd:eF K E td fd):eF K E (C8 ER (kU td ox)) (ur fd):=by
 intro B T H Y Z ρ Q s sl w;refine hd B T H Y Z ρ _ s sl (w.bind.imp λo X Z1 S A f b u j=>?_);obtain⟨⟨i,Qk⟩,h,b⟩:=WS.QL b;obtain⟨y,a,ws,ha,rfl,r,q⟩:=ma f j h;obtain⟨d,g,b⟩:=WS.QL b;by_cases hn:d.length<64
 .rw[av hn]at b;refine⟨a,ws,d,rfl,r,by rw[x5 q];exact qO g,hn,λl z p n m=>?_⟩;have t:=gk (n.trans (cN d).symm) m (cw d);subst t;exact nr f p b λe=>⟨_,aJ,Ag _ _ _ _ _⟩
 .rw[ax hn]at b;exact b.elim
def rq:D->bg (cT×SV)
 |.tuple [.int i,d]=>Bn (.inl i,.fz d)
 |.tuple [.str x,d]=>Bn (.inr x,.fz d)
 |_=>Pn
def wq:SV->bg (bb (cT×SV))
 |.fz (.tuple ds)=>aC rq ds
 |_=>Pn
theorem CL(e:wq x=Bn ps):∃ds,x=.fz (.tuple ds)/\aC rq ds=Bn ps:=by
 unfold wq at e;split at e
 .exact⟨_,rfl,e⟩
 .cases e
def mz(Qk a:bb (cT×SV)):bb (cT×SV):=a.foldl (λb d=>ka b d.1 d.2) Qk
def xT(fe:eK):eK:=λρ Z=>(fe ρ Z).bind λx Z1=>(RS.QL Z1 (wq x)).bind λps Z1=>.ok (.rf Z1.length) (Z1++[.Vo (mz [] ps)])
theorem yd:∀{vs:bb V} {ds:bb D} {ps:bb (cT×SV)},L3.Rk O K H vs ds->aC rq ds=Bn ps->∃Qk,Wy K H vs Qk/\v7 O K H Y Qk ps
 |_,_,_,.nil,e=>by cases e;exact⟨[],.nil,.nil⟩
 |_,_,_,.cons (d:=d) (ds:=ds) h t,e=>by
  unfold aC at e;cases q:rq d with
  |none=>rw[q]at e;cases e
  |some p=>
   rw[q]at e;dsimp only at e;cases q2:aC rq ds with
   |none=>rw[q2]at e;cases e
   |some ps=>
    rw[q2]at e;cases e;obtain⟨Qk,i,g⟩:=yd t q2;unfold rq at q;split at q
    .cases q
     cases h with
     |tup h f=>cases f with
      |cons a b=>cases b with
       |cons b c=>cases c;cases a;exact⟨(.inl _,_)::Qk,.cons h.1 i,.cons ⟨rfl,b⟩ g⟩
    .cases q
     cases h with
     |tup h f=>cases f with
      |cons a b=>cases b with
       |cons b c=>cases c;cases a;exact⟨(.inr _,_)::Qk,.cons h.1 i,.cons ⟨rfl,b⟩ g⟩
    .cases q
theorem AG:∀{d:bb (cT×V)} {e:bb (cT×SV)} {ws:bb (cT×V)} {Qk:bb (cT×SV)},v7 O K H Y d e->v7 O K H Y ws Qk->v7 O K H Y (nW ws d) (mz Qk e)
 |_,_,_,_,.nil,h=>h
 |(a,u)::d,(b,y)::e,_,_,.cons r t,h=>by obtain⟨g,f⟩:=r;cases g;show v7 O K H Y (nW (jo _ a u) d) (mz (ka _ a y) e);exact AG t (BG f h)
theorem FC(m:eF K E te fe):eF K E (C8 (DC K) (kU te ox)) (xT fe):=by
 intro B T H Y Z ρ Q s sl w;refine m B T H Y Z ρ _ s sl (w.bind.imp λx X Z1 S o f b u j=>?_);obtain⟨ps,q,a⟩:=WS.QL b;obtain⟨ds,rfl,q⟩:=CL q;have a:=a;cases j with
 |tup h l=>obtain⟨Qk,i,g⟩:=yd l q;exact⟨_,_,Qk,rfl,h.1,i,λd n=>nr f n a λe=>⟨_,aJ,AG (Paired.Ub g λ_ _ r=>⟨r.1,r.2.SJ e⟩) .nil⟩⟩
end
end L10
namespace PySem
open PyProof.Rows
def lJ:bg Int->Int->bg Int
 |none,x=>Bn x
 |some m,x=>Bn (if x>m then x else m)
def Nb:bg (Int×Tok)->Array Pq
 |none=> #[]
 |some (m,t)=> #[.int m t,.int m t]
def Jz(d:Pq):bg (Int×Tok)->Pq
 |none=>d
 |some (m,t)=>.int m t
namespace F
theorem args_maxd(a b:Pq):checkBuiltinCall "max" ⟨[a],[("default",b)]⟩=pure ():=by kernel_rfl
end F
section
variable{prog:Qc}{w:Qt}{A:Ql}{E:Pq->Px->Prop}{R:WC->Px->Prop}{I l S:Pz}{vs:bb Pq}{d:Pq}
theorem IV(hh:A.handled=Pn)(Vg:l≠I)(j:S≠I)(L:S≠l){s:Px}:
  ∀{Zb:bb Pq} {X:bb Int},IntsAre Zb X->∀(i:Nat) (h:Heap) (H:Nat) (b:bg (Int×Tok)) (c:Nat),vs=vs.take i++Zb->i<=vs.length->h.IsListIter I l i->h.IsList l vs.toArray->h.get? S=Bn {cls:=.type "list",dict:=Pn,data:=.seq (Nb b) c,slots:= #[]}->
  (∀h' H b',b'.map (·.1)=X.foldl lJ (b.map (·.1))->(∀a o,a≠I->a≠S->h.get? a=Bn o->h'.get? a=Bn o)->R (.ok (.ret (Jz d b'))) {s with heap:=h',toks:=H})->
  codeAny (model prog w) A (.builtin "max.loop" ⟨[.ref I,.none,.ref S],[("default",d)]⟩) R {s with heap:=h,toks:=H}:=by
 have W:=Walks.list (prog:=prog) (w:=w) (A:=A.in1) hh I l Vg vs.toArray;intro Zb X hi
 induction hi with
 |nil=>
  intro i h H b c q hi Z Y M C;have e:i=vs.toArray.size:=by rw[Qh]at q;have:=di U0 q;rw[QH]at this;rw[PX];ext
  refine Q2 F.entry_max_loop ?_;rw[Ql.under_plainId F.plain_max_loop _];refine Ld (Ru M rfl ?_);refine Ld (Vv (W.done _ _ _ (e▸⟨Z,Y⟩) λh' G r=>?_));have B:=r S _ (by simpa using j) M;cases b with
  |none=>refine Ld (Sj (Pt ?_));exact C h' G Pn rfl λa o f u e=>r a o (by simpa using f) e
  |some p=>obtain⟨m,t⟩:=p;refine Ld (T3 B rfl (Ld (TM (Pt ?_))) (hz:=by show 2<=PZ;decide));exact C _ G (Bn (m,t)) rfl λa o f u e=>(b3 _ _ (da u)).trans (r a o (by simpa using f) e)
 | @cons n t aeN ach hr ih=>
  intro i h H b c q hi Z Y M C;have T7:i<vs.toArray.size:=by have:=di U0 q;rw[PJ,QH,PN]at this;rw[PX];ext
  have K:vs[i]?=Bn (.int n t):=by rw[q,Qq (by rw[QH];ext),QH,Nat.min_eq_left hi,abC];rfl
  have y:vs=vs.take (i+1)++aeN:=by rw[SY,K];rw[QS];exact q
  have Wx:i+1<=vs.length:=by rw[PX]at T7;exact T7
  refine Q2 F.entry_max_loop ?_;rw[Ql.under_plainId F.plain_max_loop _];refine Ld (Ru M rfl ?_);refine Ld (Vv (W.item i _ _ _ T7 ⟨Z,Y⟩ λv h' G hP st r=>?_));have ev:v=.int n t:=by have N:=hP;rw[UU,K]at N;exact(P4 N).symm
  subst ev;have B:=r S _ (by simpa using j) M;have Xl:(toString "max"++toString ".loop":String)= "max.loop":=by decide
  cases b with
  |none=>
   show wpAny _ A.in1 (updateSeq S (λ_=> #[Pq.int n t,Pq.int n t])>>=_) _ _ _;refine Ld (T3 B rfl ?_);rw[Xl];refine Pt ⟨Rb F.plain_max_loop _,ih (i+1) _ G (Bn (n,t)) _ y Wx (st.1.at λo e=>?_) (st.2.at λo e=>?_) (b5 _ B rfl) λu g Q O J=>C u g Q O λa o f z e=>J a o f z ((b3 _ _ (da z)).trans (r a o (by simpa using f) e))⟩
   .exact(b3 _ _ j).trans e
   .exact(b3 _ _ L).trans e
  |some p=>
   obtain⟨m,T⟩:=p;show wpAny _ A.in1 (tryCatch (holding [Pq.int n t,Pq.int n t] (richCompare .Gt (Pq.int n t) (Pq.int m T)>>=_)) _>>=_) _ _ _;have adK:=CmpOf.ints_gt (prog:=prog) (w:=w) (A:=A.in1) (P:=λ(k:Nat) v=>(k=0/\v=Pq.int n t)\/(k=1/\v=Pq.int m T)) (λk=>if k=0 then n else m) λk v q=>by
    rcases q with⟨rfl,rfl⟩|⟨rfl,rfl⟩
    .exact⟨t,rfl⟩
    .exact⟨T,rfl⟩
   refine Ld (Vv (Q1 (Ld (adK 0 1 _ _ _ _ _ (.inl ⟨rfl,rfl⟩) (.inr ⟨rfl,rfl⟩) ?_))));refine Ld (Q1 (Ry ?_));refine Ld (TM (Pt ?_));show wpAny _ A.in1 (if decide (n>m)=Pr then _ else _) _ _ _;by_cases U:n>m
   .rw[av (aP U)]
    refine Ld (T3 B rfl (Ld (TM ?_)) (hz:=by show 2<=PZ;decide));rw[Xl];refine Pt ⟨Rb F.plain_max_loop _,ih (i+1) _ G (Bn (n,t)) _ y Wx (st.1.at λo e=>?_) (st.2.at λo e=>?_) (b5 _ B rfl) λu g Q O J=>C u g Q ?_ λa o f z e=>J a o f z ((b3 _ _ (da z)).trans (r a o (by simpa using f) e))⟩
    .exact(b3 _ _ j).trans e
    .exact(b3 _ _ L).trans e
    .rw[O];show _=ach.foldl lJ (Bn (if n>m then n else m));rw[av U];rfl
   .rw[ax (by rw[a3 U];exact P7)];refine Ld (TM ?_);rw[Xl];refine Pt ⟨Rb F.plain_max_loop _,ih (i+1) _ G (Bn (m,T)) c y Wx st.1 st.2 B λu g Q O J=>C u g Q ?_ λa o f z e=>J a o f z (r a o (by simpa using f) e)⟩;rw[O];show _=ach.foldl lJ (Bn (if n>m then n else m));rw[ax U];rfl
theorem Cn(m:A.handled=Pn)(g:s.heap.IsList l vs.toArray)(hi:IntsAre vs ns)
  (p:∀h' tk b,b.map (·.1)=ns.foldl lJ Pn->(∀a o,s.heap.get? a=Bn o->h'.get? a=Bn o)->Q (Jz d b) {s with heap:=h',toks:=tk}):
  wpAny (model prog w) A (call (.builtin "max") [.ref l] [("default",d)]) Q E s:=by
 have i:l<s.heap.objs.size:=by obtain⟨_,e,_⟩:=g;exact bP e
 have q:(toString "max"++toString ".loop":String)= "max.loop":=by decide
 refine Xx (Vu F.plain_max F.entry_max (UB (F.args_maxd _ _) ?_));refine Ld (UB (show Qe.Builtins.bindParams "max" ["key","default"] 0 ⟨[],[("default",d)]⟩=pure [Pn,Bn d]from rfl) ?_);refine Ld (Pt ?_);refine Ld (SS g ?_);refine Ld (QE ?_);rw[q];have f:(s.heap.push {cls:=.type "list_iterator",data:=.fields #[.ref l,.int 0 0]}).objs.size=s.heap.objs.size+1:=b7 _ _;refine Pt ⟨Rb F.plain_max_loop _,IV m (P5 i) (by rw[f];exact Zf _) (by rw[f];exact Q0 (RT i)) hi 0 _ s.toks Pn 0 rfl (Qu _) ⟨_,br _ (b0 _ rfl),rfl,rfl⟩ ((g.push _).push _) (b0 _ rfl) λh' tk b n j=>?_⟩;refine p h' tk b n λa o e=>?_;have h:=bP e;exact j a o (P5 h) (by rw[f];exact P5 (RT h)) (br _ (br _ e))
end
end PySem
namespace L10
open PySem PySem.Spec PyProof.Rows L2 L3
def JP(K:Po)(i:Int):bb V->Hp->VK->Prop:=λxs H Q=>∃(p:Pz) (a:bb Int),xs=[.ref p]/\T6 K H p (a.map V.int)/\Q (.int ((a.foldl lJ Pn).getD i)) H
theorem Bw(B:X.calm=Pr)(A:Gl X "max")(hm:X.mg "max"=Pn)(ha:PA X [l] ta)(f:M9 l=Py:=by rfl):
  PE X (.Call (.Name "max" p) [l] [⟨Bn "default",.Constant (.int i) j p1,p2⟩] pos) (C8 (JP X.K i) ta):=by
 intro d s g H Q I h;refine S2 (rX I A hm Jw (callWith_kw (dF (ha pos d s g H _ I h) λF n ⟨vs,E,e,r,v⟩=>?_) (by rw[tW _ _ _ f];rfl) (by rw[tW _ _ _ f];rfl) rfl rfl));obtain⟨a,w,rfl,y,q⟩:=v;obtain⟨u,rfl,o⟩:=ir r;cases o;obtain⟨M,rv,pl,J⟩:=e.list y;refine acC (Z7 (acD ?_));have N:=e.tok (n.toks+1);refine Cn (e.ok.hd B) pl.isList (iz rv) λL G b C z=>?_;refine⟨.int ((w.foldl lJ Pn).getD i),E,e.kept z,?_,q⟩;rw[<-C];cases b with
 |none=>exact⟨_,rfl⟩
 |some p=>obtain⟨m,t⟩:=p;exact⟨t,rfl⟩
def EZ(i:Int):bb D->bg RV
 |[.list ds]=>(i9 ds).map λa=>.fz (.int ((a.foldl lJ Pn).getD i))
 |_=>Pn
theorem A3{K:Po}:BO K (JP K i) (EZ i):=by
 intro O H xs ds rv Q n d e q;unfold EZ at e;split at e
 .rename_i l
  cases d with
  |cons j h=>
   cases h;cases qa:i9 l with
   |none=>rw[qa]at e;cases e
   |some b=>rw[qa]at e;cases e;obtain⟨a,vs,rfl,g,f⟩:=zC j;obtain rfl:=lr f qa;exact⟨a,b,rfl,g.sq,q.at (.int _)⟩
 .cases e
end L10
namespace L10
open PySem L2 L3
section
variable{B O O':b8}{K:Po}{E:XK}{H T H1 H2:Hp}{X Y S α2:bb Pz}{Z U Z1 Z2:aZ}{σ:L2.St}{ρ:bv}{v:V}
theorem g9{l r:bb A}(h:(l++r)[i]?=Bn y):l[i]?=Bn y\/∃j,i=l.length+j/\r[j]?=Bn y:=by
 by_cases hi:i<l.length
 .rw[P9 hi]at h;exact .inl h
 .rw[Qq (by ext)]at h;exact .inr ⟨i - l.length,by ext,h⟩
theorem Hm{l r:bb A}{i:Nat}(h:l[i]?=Bn y):(l++r)[i]?=Bn y:=by rw[P9 (Pu.mp h).1];exact h
theorem De{l r:bb A}(h:r[i]?=Bn y):(l++r)[l.length+i]?=Bn y:=by rw[Qq (by ext),Uw];exact h
theorem Fj(g:X.length=Z.length)(h:Lv (X++ps) (Z++cs) b):Lv X Z b\/b∈ps:=by
 obtain⟨i,d,f,e,a⟩:=h;rcases g9 f with g1|⟨j,e1,g1⟩
 .rcases g9 e with g2|⟨k,e2,g2⟩
  .exact .inl ⟨i,d,g1,g2,a⟩
  .have:=(Pu.mp g1).1;ext
 .exact .inr (Qs g1)
theorem RK.WT(s:Qr B K H X Z)(e:Rx H T)(d:∀p∈ps,H p=Pn):RK X Z H (X++ps) (Z++cs) T:=
 ⟨λi a h=>Hm h,λb u q _=>e b u q,λb z=>(Fj s.len z).imp id λz=>d b z⟩
theorem Qr.WT(s:Qr B K H X Z)(e:Rx H T)(f:∀p∈ps,H p=Pn)(m:∀p∈ps,T p≠Pn)(nd:∀(i j:Nat) (a:Pz),ps[i]?=Bn a->ps[j]?=Bn a->i=j)(t:ps.length=cs.length)
  (new:∀(i:Nat) (a:Pz) (c:Cell),ps[i]?=Bn a->cs[i]?=Bn c->ZJ (ow B (X++ps) (Z++cs)) K T (X++ps) a c):Qr B K T (X++ps) (Z++cs):=by
 have ev:RK X Z H (X++ps) (Z++cs) T:=RK.WT s e f;have n:∀b,H b≠Pn->T b≠Pn:=λb h z=>h (e.free z);refine⟨by rw[PJ,PJ,s.len,t],λi j a g l=>?_,λa h=>n a (s.bn a h),λa h i q=>?_,λi a h=>?_,λi a d g l=>?_⟩
 .rcases g9 g with g1|⟨i',e1,g1⟩<;>rcases g9 l with g2|⟨j',e2,g2⟩
  .exact s.nd i j a g1 g2
  .exact a5 (f a (Qs g2)) (s.al i a g1)
  .exact a5 (f a (Qs g1)) (s.al j a g2)
  .have:=nd i' j' a g1 g2;ext
 .rcases g9 q with q|⟨j,_,q⟩
  .exact s.ba a h i q
  .exact s.bn a h (f a (Qs q))
 .rcases g9 h with h|⟨j,_,h⟩
  .exact n a (s.al i a h)
  .exact m a (Qs h)
 .have r:=s.len
  rcases g9 l with g2|⟨j,e2,g2⟩
  .rcases g9 g with g1|⟨k,e1,g1⟩
   .exact(s.Ww i a d g1 g2).ev ev.ev ev.pre λo q=>e _ _ q
   .have:=(Pu.mp g2).1;ext
  .rcases g9 g with g1|⟨k,e1,g1⟩
   .have:=(Pu.mp g1).1;ext
   .have:k=j:=by ext
    subst this;exact new k a d g1 g2
def C5(U:aZ):Nat->bb AV->bg (bb AV×bb (bb D)×bb Nat)
 |_,[]=>Bn ([],[],[])
 |n,.fz d::r=>match C5 U n r with
  |some (l,cs,js)=>Bn (.fz d::l,cs,js)
  |none=>Pn
 |n,.rf i::r=>match sh U (.rf i)with
  |some (.list ds)=>(match C5 U (n+1) r with
   |some (l,cs,js)=>Bn (.rf n::l,ds::cs,i::js)
   |none=>Pn)
  |_=>Pn
def N2(ds:bb D):Cell:=.lst (ds.map .fz)
def pT(x:SV)(U Z:aZ):RS SV:=match x with
 |.fz d=>.ok (.fz d) Z
 |.rf i=>(match sh U (.rf i)with
  |some (.list ds)=>lR Z (.ow ds)
  |_=>.bad)
 |.tp l=>(match C5 U Z.length l with
  |some (l',cs,js)=>if js.Nodup then .ok (.tp l') (Z++cs.map N2)else .bad
  |none=>.bad)
theorem vE(h:sh Z (.rf i)=Bn (.list ds)):∃xs,Z[i]?=Bn (.lst xs)/\aC sB xs=Bn ds:=by
 unfold sh at h;dsimp only at h;cases q:Z[i]? with
 |none=>rw[q]at h;cases h
 |some c=>
  rw[q]at h;cases c with
  |lst xs=>
   dsimp only at h;cases q2:aC sB xs with
   |none=>rw[q2]at h;cases h
   |some a=>rw[q2]at h;cases h;exact⟨xs,rfl,q2⟩
  |_=>cases h
theorem l9(s:Qr B K H X Z)(h:sh Z (.rf i)=Bn (.list ds)):∃a vs,X[i]?=Bn a/\H a=Bn (.lst vs)/\L3.Rk (ow B X Z) K H vs ds/\ow B X Z a:=by obtain⟨xs,b,d⟩:=vE h;obtain⟨a,ha⟩:=s.at b;obtain⟨vs,g,f⟩:=s.Ww i a _ ha b;exact⟨a,vs,ha,g,jA (cM (R:=SU (ow B X Z) K H X) (λv x y r e=>zh r e) f d),.inr ⟨i,_,ha,b,by intro z;cases z⟩⟩
theorem F7{m:b8}(s:Qr m K T Y U):∀{n:Nat} {l o:bb AV} {cs:bb (bb D)} {g:bb Nat} {xs:bb V},C5 U n l=Bn (o,cs,g)->Paired (ZP (ow m Y U) K T Y) xs l->
  ∃ps:bb Pz,ps.length=g.length/\cs.length=g.length/\(∀(k j:Nat),g[k]?=Bn j->∃a ds vs,ps[k]?=Bn a/\cs[k]?=Bn ds/\Y[j]?=Bn a/\T a=Bn (.lst vs)/\L3.Rk (ow m Y U) K T vs ds/\ow m Y U a)/\
   ∀(b:bb Pz),b.length=n->Paired (ZP (ow m Y U) K T (b++ps)) xs o
 |_,[],_,_,_,_,e,.nil=>by cases e;exact⟨[],rfl,rfl,λk j h=>by simp at h,λb _=>.nil⟩
 |n,.fz d::r,o,cs,g,_,e,.cons h t=>by
  unfold C5 at e;cases q:C5 U n r with
  |none=>rw[q]at e;cases e
  |some p=>obtain⟨I,C,u⟩:=p;rw[q]at e;cases e;obtain⟨ps,A,z,y,w⟩:=F7 s q t;exact⟨ps,A,z,y,λb f=>.cons h (w b f)⟩
 |n,.rf i::r,o,cs,g,_,e,.cons h t=>by
  unfold C5 at e;cases qs:sh U (.rf i)with
  |none=>rw[qs]at e;cases e
  |some d=>
   rw[qs]at e;cases d with
   |list ds=>
    dsimp only at e;cases q:C5 U (n+1) r with
    |none=>rw[q]at e;cases e
    |some p=>
     obtain⟨I,C,u⟩:=p;rw[q]at e;cases e;obtain⟨ps,A,z,y,w⟩:=F7 s q t;obtain⟨a,vs,ha,J,M,L⟩:=l9 s qs;refine⟨a::ps,by rw[PN,PN,A],by rw[PN,PN,z],λk j F=>?_,λb f=>?_⟩
     .cases k with
      |zero=>cases F;exact⟨a,ds,vs,rfl,rfl,ha,J,M,L⟩
      |succ k=>exact y k j (by simpa using F)
     .have N:b++a::ps=(b++[a])++ps:=by simp
      obtain⟨P,G,rfl⟩:=h;rw[ha]at G;cases G;refine .cons ⟨a,by rw[<-f];exact De (l:=b) (r:=a::ps) (i:=0) rfl,rfl⟩ ?_;rw[N];exact w (b++[a]) (by rw[PJ,f];rfl)
   |_=>cases e
theorem Cp(s:Qr B K H X Z)(w:WS K E B H X Z (PQ B K Q) (pT x U Z))(e':RK [] [] H Y U T)(F:Qr (ow B X Z) K T Y U)(I:SU (ow (ow B X Z) Y U) K T Y v x):Q v T:=by
 have C:=λb o h=>e'.kp b o h λ⟨i,c,q,_⟩=>by simp at q
 have sub:∀b,ow B X Z b->ow (ow B X Z) Y U b:=λb z=>.inl z;have fr:=λi a c P h2 h3=>(e'.lv a ⟨i,c,P,h2,h3⟩).elim (λ⟨i,c,q,_⟩=>by simp at q) id;cases x with
 |fz d=>exact w X T (RK.same C) (s.grow C) v (DV.ev (Ev.sub sub) I)
 |rf i=>
  unfold pT at w;dsimp only at w;cases qs:sh U (.rf i)with
  |none=>rw[qs]at w;exact w.elim
  |some d=>
   rw[qs]at w;cases d with
   |list ds=>obtain⟨a,vs,ha,P,hd,L⟩:=l9 F qs;obtain⟨xs,e,_⟩:=vE qs;obtain⟨a',ZO,rfl⟩:=I;rw[ha]at ZO;cases ZO;exact rb s w C (fr i a _ ha e (by nofun)) P hd sub L
   |_=>exact w.elim
 |tp l=>
  unfold pT at w;dsimp only at w;cases qg:C5 U Z.length l with
  |none=>rw[qg]at w;exact w.elim
  |some p=>
   obtain⟨l',cs,G⟩:=p;rw[qg]at w;dsimp only at w;by_cases hn:G.Nodup
   .rw[av hn]at w
    obtain⟨a,xs,rfl,ht,hl⟩:=I;obtain⟨ps,g1,g2,g3,g4⟩:=F7 F qg hl;have A:∀(k:Nat) (b:Pz),ps[k]?=Bn b->∃j ds vs,G[k]?=Bn j/\cs[k]?=Bn ds/\Y[j]?=Bn b/\T b=Bn (.lst vs)/\L3.Rk (ow (ow B X Z) Y U) K T vs ds/\ow (ow B X Z) Y U b:=λk b hb=>by
     have f:k<G.length:=by rw[<-g1];exact(Pu.mp hb).1
     obtain⟨b',ds,vs,e,y,u,m,t,g⟩:=g3 k _ (PM f);rw[hb]at e;cases e;exact⟨_,ds,vs,PM f,y,u,m,t,g⟩
    have nB:∀(j:Nat) (b:Pz),Y[j]?=Bn b->ow (ow B X Z) Y U b->H b=Pn:=λj b M L=>by
     rcases L with z|⟨i,c,z1,z2,z3⟩
     .exact a5 M (F.ba b z j)
     .exact fr i b c z1 z2 z3
    have fp:∀p∈ps,H p=Pn:=λp J=>by obtain⟨k,f⟩:=Rf.mp J;obtain⟨j,ds,vs,e,y,u,m,t,g⟩:=A k p f;exact nB j p u g
    have n:∀b,ow B (X++ps) (Z++cs.map N2) b->ow (ow B X Z) Y U b:=λb z=>by
     rcases z with z|z
     .exact .inl (.inl z)
     .rcases Fj s.len z with z|z
      .exact .inl (.inr z)
      .obtain⟨k,f⟩:=Rf.mp z;obtain⟨j,ds,vs,e,y,u,m,t,g⟩:=A k b f;exact g
    have ev:=RK.WT (cs:=cs.map N2) s C fp;refine w (X++ps) T ev (s.WT C fp (λp J=>?_) (λi j b hi M=>?_) (by rw[Pp,g1,g2]) λi b c hi hc=>?_) (.ref a) ⟨a,xs,rfl,ht.ev (Ev.sub n),Paired.Ub (g4 X s.len) λ_ _ r=>r.ev (Ev.sub n) λ_ _ h=>h⟩
    .obtain⟨k,f⟩:=Rf.mp J;obtain⟨j,ds,vs,e,y,u,m,t,g⟩:=A k p f;rw[m];simp
    .obtain⟨j1,_,_,R,_,p3,_⟩:=A i b hi;obtain⟨j2,_,_,r1,_,r3,_⟩:=A j b M;have:=F.nd j1 j2 b p3 r3;subst this;have N:=(Pu.mp R).1;exact(List.getElem?_inj N hn).mp (R.trans r1.symm)
    .obtain⟨j,ds,vs,e,y,u,m,t,g⟩:=A i b hi;rw[PU,y]at hc;cases hc;exact⟨vs,m,oa _ _ (t.ev (Ev.sub n))⟩
   .rw[ax hn]at w;exact w.elim
def tI(F:lB)(n:Nat)(xs:bb SV)(Z:aZ):RS SV:=if xs.length=n then(match aC sB xs with
 |some ds=>(match F (ds.map .fz) []with
  |.ok x U=>pT x U Z
  |.er x _=>.er x Z
  |.bad=>.bad)
 |none=>.bad)else .bad
def ui(F:lB)(n:Nat)(fa:xy):eK:=λρ Z=>(fa ρ Z).bind λxs Z1=>mP (tI F n xs Z1)
theorem En(h:∀a,B a->H a≠Pn):Qr B K H [] []:=⟨rfl,λi j a h=>by simp at h,h,λa h i=>by simp,λi a h=>by simp at h,λi a c h=>by simp at h⟩
theorem Az:∀{xs:bb SV} {ds:bb D},aC sB xs=Bn ds->xs=ds.map .fz
 |[],_,e=>by cases e;rfl
 |x::r,ds,e=>by
  unfold aC at e;cases x with
  |fz d=>
   dsimp only[sB]at e;cases q:aC sB r with
   |none=>rw[q]at e;cases e
   |some a=>rw[q]at e;cases e;rw[PY,<-Az q]
  |rf i=>cases e
  |tp l=>cases e
theorem D2(s:Qr B K H X Z)(d:Sh (ow B X Z) K H X vs xs)(w:WS K E B H X Z (PQ B K Q) (tI F n xs Z)):gp K n F vs H Q E:=by
 unfold tI at w;by_cases hn:xs.length=n
 .rw[av hn]at w
  refine⟨d.length.trans hn,?_⟩;cases q:aC sB xs with
  |none=>rw[q]at w;exact w.elim
  |some ds=>
   rw[q]at w;dsimp only at w;have j:=Az q;refine⟨ow B X Z,[],[],ds.map .fz,En s.owd,?_,?_⟩
   .rw[j]at d;exact oa _ _ ((DZ d).ev (Ev.sub λb z=>z.elim id λ⟨i,c,q,_⟩=>by simp at q))
   .cases qF:F (ds.map .fz) []with
    |bad=>rw[qF]at w;exact w.elim
    |ok x U=>rw[qF]at w;exact λY T e g v a=>Cp s w e g a
    |er x U=>
     rw[qF]at w;intro c dx Y T e g k;have f:=λb o h=>e.kp b o h λ⟨i,c,q,_⟩=>by simp at q
     exact w c dx X T (RK.same f) (s.grow f) (Zk.sub (λb z=>.inl z) k)
 .rw[ax hn]at w;exact w.elim
theorem tX(ha:Cw K E ta fa):eF K E (rT (gp K n F) [] E0 ta) (ui F n fa):=by intro B σ H X Z ρ Q s sl w;refine ha B σ H X Z ρ _ s sl (w.bind.imp λxs S Z1 H1 e b a vs d=>?_);rw[Qh];exact D2 b d (WS.e0 a)
def Nc(F:lB):FN:=λds=>match F (ds.map .fz) []with
 |.ok (.fz d) _=>.ok (.fz d)
 |.ok (.rf i) Z=>(match sh Z (.rf i)with
  |some (.list ds)=>.ok (.ow ds)
  |_=>.bad)
 |.ok (.tp _) _=>.bad
 |.er x _=>.er x
 |.bad=>.bad
theorem Mb(h:mK K n (Nc F) vs H Q E):gp K n F vs H Q E:=by
 obtain⟨u,B,ds,A,G,w⟩:=h;refine⟨u,B,[],[],ds.map .fz,En A,oa _ _ (G.ev (Ev.sub λb z=>z.elim id λ⟨i,c,q,_⟩=>by simp at q)),?_⟩;unfold Nc at w;cases qF:F (ds.map .fz) []with
 |bad=>rw[qF]at w;exact w.elim
 |er x U=>rw[qF]at w;intro c dx Y T e g k;exact w c dx T (λb o h=>e.kp b o h λ⟨i,c,q,_⟩=>by simp at q) (Zk.sub (λb z=>.inl z) k)
 |ok x U=>
  rw[qF]at w;intro Y T e g v j;have f:=λb o h=>e.kp b o h λ⟨i,c,q,_⟩=>by simp at q
  cases x with
  |fz d=>exact w v T f (DV.ev (Ev.sub λb z=>.inl z) j)
  |tp l=>exact w.elim
  |rf i=>
   dsimp only at w;cases qs:sh U (.rf i)with
   |none=>rw[qs]at w;exact w.elim
   |some d=>
    rw[qs]at w;cases d with
    |list I=>obtain⟨a,p,ha,C,y,t⟩:=l9 g qs;obtain⟨xs,r,_⟩:=vE qs;obtain⟨J,m,rfl⟩:=j;rw[ha]at m;cases m;refine w a p T f ((e.lv a ⟨i,_,ha,r,by intro z;cases z⟩).elim (λ⟨i,c,q,_⟩=>by simp at q) id) C (y.ev (Ev.sub λb z=>z.elim (λz=>.inl z) λz=>by rw[z];exact t))
    |_=>exact w.elim
end
def cE(P:Qc)(w:Qt)(K:Po)(mg:Str->bg Pq)(base:Heap)(a:xl)(k:Nat)(C m:Str)(ps:bb Str)(sp:Sp):Prop:=
 ∃Ca f fd,Qj K P8 C=Bn (Bn (.ref Ca))/\Ys K Ca/\Meth K Ca m f/\FnOk P w K mg base a k f fd ps sp/\Binds K fd ps []
def Bo(P:Qc)(w:Qt)(K:Po)(mg:Str->bg Pq)(base:Heap)(a:xl)(k:Nat)(C:Str)(ps:bb Str)(sp:Sp):Prop:=
 ∃Ca f fd,Qj K P8 C=Bn (Bn (.ref Ca))/\mg C=Bn (.ref Ca)/\Mk K Ca f/\FnOk P w K mg base a k f fd ps sp/\Binds K fd ps []
def zu(K:Po)(C m:Str)(sp:Sp)(E:XK)(b:TE)(t:TA):TE:=λa H Q=>∃Ca,Qj K P8 C=Bn (Bn (.ref Ca))/\An Ca m sp [] E b t a H Q
def EW(K:Po)(C:Str)(sp:Sp)(E:XK)(t:TA):TE:=λa H Q=>∃Ca,Qj K P8 C=Bn (Bn (.ref Ca))/\Gb Ca sp [] E t a H Q
section
variable{X:Cx}{T:xl}{E:XK}{k j:Nat}{C m:Str}{ps:bb Str}{sp:Sp}{o e:QK}{U:bb QK}{S:TE}{t:TA}{Y Z p:Pos}
theorem Nd(M:cE X.prog X.w X.K X.mg X.base T k C m ps sp)(hx:i4 T X E)(l:Sg j X.A)(n:PE X o S)(ha:PA X (e::U) t)(b:k<=j:=by decide)
  (d9:Qp (e::U) X.env=(Py,eval e X.env)::Qp U X.env:=by rfl) (z:(backTo Z (Qp U X.env)).any (·.1)=Py:=by rfl)
  (i:eval (.Call (.Attribute o m Y) (e::U) [] Z) X.env=(do
   let ov<-eval o X.env
   standAt Y.atName
   let(f,first)<-holding [ov] (getMethod ov m pl)
   callWith Z f first (backTo Z (Qp (e::U) X.env)) (backToKw Z (keywordEach [] X.env))):=by rfl):PE X (.Call (.Attribute o m Y) (e::U) [] Z) (zu X.K C m sp E S t):=by
 obtain⟨G,f,B,y,v,u,r,q⟩:=M;intro a s g H Q I ⟨F,d,h⟩;rw[y]at d;cases d;exact Ip n v u r (l.mono b) q .nil hx ha d9 z i a s g H Q I h
theorem FU(M:cE X.prog X.w X.K X.mg X.base T k C m ps sp)(hx:i4 T X E)(l:Sg j X.A)(n:PE X o S)(b:k<=j:=by decide)
  (i:eval (.Call (.Attribute o m Y) [] [] Z) X.env=(do
   let ov<-eval o X.env
   standAt Y.atName
   let(f,first)<-holding [ov] (getMethod ov m pl)
   callWith Z f first (backTo Z (Qp [] X.env)) (backToKw Z (keywordEach [] X.env))):=by rfl):PE X (.Call (.Attribute o m Y) [] [] Z) (zu X.K C m sp E S ox):=by
 obtain⟨F,f,z,y,v,u,r,q⟩:=M;intro a s g H Q I ⟨B,d,h⟩;rw[y]at d;cases d;exact Fx n v u r (l.mono b) q .nil hx i a s g H Q I h
theorem Nj(M:Bo X.prog X.w X.K X.mg X.base T k C ps sp)(hx:i4 T X E)(i:Sg j X.A)(ha:PA X (e::U) t)(b:k+1<=j:=by decide)(l:Gl X C:=by rfl)
  (z:(C==("__debug__":Str))=Py:=by decide) (n:Qp (e::U) X.env=(Py,eval e X.env)::Qp U X.env:=by rfl) (B:(backTo Z (Qp U X.env)).any (·.1)=Py:=by rfl):
  PE X (.Call (.Name C p) (e::U) [] Z) (EW X.K C sp E t):=by
 obtain⟨J,f,F,y,v,u,r,q⟩:=M;intro a s g H Q I ⟨G,d,h⟩;rw[y]at d;cases d;exact HW u r (i.mono b) l v q .nil hx ha z n B a s g H Q I h
end
section
variable{K:Po}{E:XK}{C m:Str}{F:lB}{n:Nat}{to:TE}{Y:TA}{fo:eK}{fa:xy}{L:bb Str}
theorem AY(a:jj K C L)(d:eF K E to fo)(ha:Cw K E Y fa):eF K E (zu K C m (gp K n F) E0 to Y) (aY C m F n fo fa):=by obtain⟨e,a,_⟩:=a;exact λB b H α Z ρ Q s sl w=>⟨e,a,Cz a d ha B b H α Z ρ Q s sl w⟩
theorem G1(a:jj K C L)(ha:Cw K E Y fa):eF K E (EW K C (gp K n F) E0 Y) (uC C F n fa):=by obtain⟨d,a,_⟩:=a;exact λB b H α Z ρ Q s sl w=>⟨d,a,Er a ha B b H α Z ρ Q s sl w⟩
end
section
variable{ρ ρ1 ρ2:bv}{Z Z1 Z2 X Z4:aZ}{x y z:SV}{i n:Nat}{d dx Y:D}{ds:bb D}{b:Bool}
theorem bC(h:ρ[i]?=Bn (Bn x)):az i ρ Z=.ok x Z:=by unfold az;rw[h]
theorem ah(h:f (cB ρ)=.ok (.fz d,ρ')):ag f ρ Z=.ok (.fz d) Z:=by unfold ag;rw[h]
theorem dY(h:f (cB ρ)=.ok (.ow ds,ρ')):ag f ρ Z=.ok (.rf Z.length) (Z++[.lst (ds.map .fz)]):=by unfold ag;rw[h];rfl
theorem bU(h:f (cB ρ)=.ok (b,ρ')):bT f ρ Z=.ok b Z:=by unfold bT;rw[h]
theorem na(h:f (cB ρ)=.ok (ds,ρ')):ng f ρ Z=.ok ds Z:=by unfold ng;rw[h]
theorem qZ(g:e ρ Z=.ok (.rf i) Z1)(h:Z1[i]?=Bn (.obj C fs))(a:fs.lookup f=Bn x):b4 C f e ρ Z=.ok x Z1:=by unfold b4;rw[g,dP];dsimp only;rw[h];dsimp only;rw[av rfl,a];rfl
theorem cR(ha:fa ρ Z=.ok x Z1)(e:fb ρ Z1=.ok y Z2)(a:sL f x y Z2=.ok z X):kg f fa fb ρ Z=.ok z X:=by unfold kg;rw[ha,dP,e,dP,a]
theorem dJ(h:f dx Y=Bn (.fz d)):sL f (.fz dx) (.fz Y) Z=.ok (.fz d) Z:=by unfold sL;show((RS.QL Z (f dx Y)).bind λrv Z1=>lR Z1 rv)=_;rw[h];rfl
theorem iV(hx:sh Z x=Bn dx)(a:sh Z y=Bn Y)(h:f dx Y=Bn (.fz d)):sL f x y Z=.ok (.fz d) Z:=by unfold sL;rw[hx,a];show((RS.QL Z (f dx Y)).bind λrv Z1=>lR Z1 rv)=_;rw[h];rfl
theorem z8(a:sh Z x=Pn\/sh Z y=Pn)(hx:jw 6 Z x=Bn dx)(g:jw 6 Z y=Bn Y)(h:f dx Y=Bn (.fz d))(hd:z9 d=Pr):sL f x y Z=.ok (.fz d) Z:=by
 have e:((RS.QL Z (jw 6 Z x)).bind λdx Z1=>(RS.QL Z1 (jw 6 Z1 y)).bind λY Z2=>(RS.QL Z2 (f dx Y)).bind λrv X=>nI X rv)=.ok (.fz d) Z:=by rw[hx];show((RS.QL Z (jw 6 Z y)).bind λY Z2=>(RS.QL Z2 (f dx Y)).bind λrv X=>nI X rv)=_;rw[g];show((RS.QL Z (f dx Y)).bind λrv X=>nI X rv)=_;rw[h];show(if z9 d=Pr then RS.ok (SV.fz d) Z else RS.bad)=_;rw[av hd]
 unfold sL;rcases a with a|a
 .rw[a];exact e
 .rw[a];cases sh Z x<;>exact e
theorem nk:∀ds:bb D,aC sB (ds.map .fz)=Bn ds
 |[]=>rfl
 |d::r=>by rw[PY];unfold aC;rw[nk r];rfl
theorem eS(h:Z[i]?=Bn (.lst (ds.map .fz))):sh Z (.rf i)=Bn (.list ds):=by unfold sh;dsimp only;rw[h];dsimp only;rw[nk];rfl
theorem aV(h:fa ρ Z=.ok (.fz (.bool b)) Z1):bM fa ρ Z=.ok b Z1:=by unfold bM;rw[h];rfl
theorem cX(h:fa ρ Z=.ok Pr Z1)(k:fb ρ Z1=r):jS fa fb ρ Z=r:=by unfold jS;rw[h,dP,av rfl,k]
theorem cF(h:fa ρ Z=.ok Py Z1):jS fa fb ρ Z=.ok Py Z1:=by unfold jS;rw[h,dP,ax P7]
theorem r9(h:fa ρ Z=.ok Pr Z1):zc fa fb ρ Z=.ok Pr Z1:=by unfold zc;rw[h,dP,av rfl]
theorem fW(h:fa ρ Z=.ok Py Z1)(k:fb ρ Z1=r):zc fa fb ρ Z=r:=by unfold zc;rw[h,dP,ax P7,k]
theorem mY(h:fa ρ Z=.ok b Z1):sV fa ρ Z=.ok (!b) Z1:=by unfold sV;rw[h];rfl
theorem tO(h:bM fa ρ Z=.ok Pr Z1)(k:fb ρ Z1=r):yH fa fb ρ Z=r:=by unfold yH;rw[h,dP,av rfl,k]
theorem Ce(h:bM fa ρ Z=.ok Py Z1):yH fa fb ρ Z=.ok (.fz (.bool Py)) Z1:=by unfold yH;rw[h,dP,ax P7]
theorem Ik(h:c ρ Z=.ok Pr Z1)(k:fa ρ Z1=r):KQ c fa fb ρ Z=r:=by unfold KQ;rw[h,dP,av rfl,k]
theorem Hq(h:c ρ Z=.ok Py Z1)(k:fb ρ Z1=r):KQ c fa fb ρ Z=r:=by unfold KQ;rw[h,dP,ax P7,k]
theorem aQ:bi ρ Z=.ok [] Z:=rfl
theorem aw(ha:fa ρ Z=.ok x Z1)(a:fr ρ Z1=.ok xs Z2):au fa fr ρ Z=.ok (x::xs) Z2:=by unfold au;rw[ha,dP,a,dP]
theorem uF(ha:fa ρ Z=.ok (ds.map .fz) Z1)(a:ds.length<=1000):mq fa ρ Z=.ok (.fz (.tuple ds)) Z1:=by unfold mq;rw[ha,dP,Pp,av a];unfold NV;rw[nk];rfl
theorem Dm(ha:fa ρ Z=.ok xs Z1)(a:xs.length<=1000)(h1:aC sB xs=Pn)(e:aC Oa xs=Bn l):mq fa ρ Z=.ok (.tp l) Z1:=by unfold mq;rw[ha,dP,av a];unfold NV;rw[h1];dsimp only;rw[e];rfl
theorem M0(ha:fa ρ Z=.ok xs Z1)(a:aC (sh Z1) xs=Bn ds)(h:f ds=Bn (.fz d)):J1 f fa ρ Z=.ok (.fz d) Z1:=by unfold J1;rw[ha,dP];unfold II;rw[a];show((RS.QL Z1 (f ds)).bind λrv Z1=>lR Z1 rv)=_;rw[h];rfl
theorem zF(ha:fa ρ Z=.ok (ds.map .fz) Z1)(hn:ds.length=n)(a:F ds=.ok (.fz d)):jf F n fa ρ Z=.ok (.fz d) Z1:=by unfold jf;rw[ha,dP];unfold xN;rw[Pp,av hn,nk];dsimp only;rw[a];rfl
theorem vk(ha:fa ρ Z=.ok (ds.map .fz) Z1)(hn:ds.length=n)(a:F ds=.ok (.ow es)):jf F n fa ρ Z=.ok (.rf Z1.length) (Z1++[.lst (es.map .fz)]):=by unfold jf;rw[ha,dP];unfold xN;rw[Pp,av hn,nk];dsimp only;rw[a];rfl
theorem EU:mP (RS.ok a Z)=.ok a Z:=rfl
theorem IZ(e:fo ρ Z=.ok (.rf i) Z1)(f:Z1[i]?=Bn (.obj C fs))(hm:fs.lookup m=Pn)(ha:fa ρ Z1=.ok xs Z2)(hn:(SV.rf i::xs).length=n)(g:F (.rf i::xs) Z2=.ok x X):aY C m F n fo fa ρ Z=.ok x X:=by
 have a:tV Z1 C m (.rf i)=Pr:=by unfold tV;dsimp only;rw[f];dsimp only;rw[hm,aP rfl];rfl
 unfold aY;rw[e,dP,av a,ha,dP,av hn,g];rfl
theorem Kf(ha:fa ρ Z=.ok xs Z1)(hn:(SV.rf Z1.length::xs).length=n)(a:F (.rf Z1.length::xs) (Z1++[.obj C []])=.ok (.fz .none) Z2):uC C F n fa ρ Z=.ok (.rf Z1.length) Z2:=by unfold uC;rw[ha,dP];unfold A4;rw[av hn,a,dP,av (show Gs (.fz .none)=Pr from rfl)];rfl
theorem dS(ha:fa ρ Z=.ok (.fz dx) Z1)(a:fb ρ Z1=.ok (.fz Y) Z2)(h:bc dx Y=Bn (.fz d)):kx fa fb ρ Z=.ok (.fz d) Z2:=by unfold kx;rw[ha,dP,a,dP];exact dJ h
theorem ou(a:fo ρ Z=.ok (.rf i) Z1)(h1:Z1[i]?=Bn (.lst xs))(f:fe ρ Z1=.ok x Z2)(g:Z2[i]?=Bn (.lst ys))(e:ys.length<1000000):pz fo fe ρ Z=.ok (.fz .none) (Z2.set i (.lst (ys++[x]))):=by
 have j:fR Z1 (.rf i)=Bn (i,xs):=by unfold fR;dsimp only;rw[h1]
 have h:fR Z2 (.rf i)=Bn (i,ys):=by unfold fR;dsimp only;rw[g]
 unfold pz;rw[a,dP,j];show((fe ρ Z1).bind _)=_;rw[f,dP,h];show(if ys.length<1000000 then _ else _)=_;rw[av e]
theorem lY(h:Z[i]?=Bn (.Vo Qk)):iy Z (.rf i)=Bn (i,Qk):=by unfold iy;dsimp only;rw[h]
theorem zw(a:fk ρ Z=.ok x Z1)(hd:fd ρ Z1=.ok (.rf i) Z2)(h1:sW x=Bn k)(e:Z2[i]?=Bn (.Vo Qk)):yr neg fk fd ρ Z=.ok (.fz (.bool ((jR Qk k).isSome !=neg))) Z2:=by unfold yr;rw[a,dP,hd,dP,h1];show((RS.QL Z2 (iy Z2 (.rf i))).bind _)=_;rw[lY e];rfl
theorem IA(hd:fd ρ Z=.ok (.rf i) Z1)(a:fk ρ Z1=.ok x Z2)(h1:sW x=Bn k)(f:Z2[i]?=Bn (.Vo Qk))(e:jR Qk k=Bn y):tP fd fk ρ Z=.ok y Z2:=by unfold tP;rw[hd,dP,a,dP,h1];show((RS.QL Z2 (iy Z2 (.rf i))).bind _)=_;rw[lY f];show RS.QL Z2 (jR Qk k)=_;rw[e];rfl
theorem HP(a:fv ρ Z=.ok y Z1)(hd:fd ρ Z1=.ok (.rf i) Z2)(f:fk ρ Z2=.ok x X)(h1:sW x=Bn k)(g:X[i]?=Bn (.Vo Qk))(e:Qk.length<1000000):yf fd fk fv ρ Z=.ok (.nx ρ) (X.set i (.Vo (ka Qk k y))):=by unfold yf;rw[a,dP,hd,dP,f,dP,h1];show((RS.QL X (iy X (.rf i))).bind _)=_;rw[lY g];show(if Qk.length<1000000 then _ else _)=_;rw[av e]
theorem G3(hd:fd ρ Z=.ok (.rf i) Z1)(g:Z1[i]?=Bn (.Vo aeO))(a:fk ρ Z1=.ok x Z2)(h1:sW x=Bn k)(f:Z2[i]?=Bn (.Vo Qk))(e:jR Qk k=Bn y):xC fd fk ρ Z=.ok y (Z2.set i (.Vo (l6 Qk k))):=by unfold xC;rw[hd,dP,lY g];show((fk ρ Z1).bind _)=_;rw[a,dP,h1];show((RS.QL Z2 (iy Z2 (.rf i))).bind _)=_;rw[lY f];show((RS.QL Z2 (jR Qk k)).bind _)=_;rw[e];rfl
theorem GS(hd:fd ρ Z=.ok (.rf i) Z1)(h:Z1[i]?=Bn (.Vo Qk)):Bp fd ρ Z=.ok (.rf Z1.length) (Z1++[.lst (Qk.map (·.2))]):=by unfold Bp;rw[hd,dP,lY h];rfl
theorem GL(hd:fd ρ Z=.ok (.rf i) Z1)(h:Z1[i]?=Bn (.Vo Qk))(e:aC zm (Qk.map (·.1))=Bn ns)(a:ns.length<64):ur fd ρ Z=.ok (.rf Z1.length) (Z1++[.lst ((dr ns).map λi=>SV.fz (.int i))]):=by unfold ur;rw[hd,dP,lY h];show((RS.QL Z1 (aC zm (Qk.map (·.1)))).bind _)=_;rw[e];show(if ns.length<64 then _ else _)=_;rw[av a]
theorem Io(a:fe ρ Z=.ok x Z1)(h:wq x=Bn ps):xT fe ρ Z=.ok (.rf Z1.length) (Z1++[.Vo (mz [] ps)]):=by unfold xT;rw[a,dP,h];rfl
variable{fl:ZM}{r:RS ZM}
theorem dR(h:f ρ Z=.ok (.nx ρ1) Z1)(k:g ρ1 Z1=r):aW f g ρ Z=r:=by unfold aW;rw[h,dP];exact k
theorem oC(h:f ρ Z=.ok (.rt x) Z1):aW f g ρ Z=.ok (.rt x) Z1:=by unfold aW;rw[h];rfl
theorem fO(h:c ρ Z=.ok Pr Z1)(k:f ρ Z1=r):cL c f g ρ Z=r:=by unfold cL;rw[h,dP,av rfl,k]
theorem cO(h:c ρ Z=.ok Py Z1)(k:g ρ Z1=r):cL c f g ρ Z=r:=by unfold cL;rw[h,dP,ax P7,k]
theorem jI(h:f ρ Z=.ok x Z1):je f ρ Z=.ok (.rt x) Z1:=by unfold je;rw[h];rfl
theorem eJ(h:f ρ Z=.ok x Z1):bZ f ρ Z=.ok (.nx ρ) Z1:=by unfold bZ;rw[h];rfl
theorem uG(h:f ρ Z=.ok x Z1)(e:ρ.set i (Bn x)=ρ1):fF f (iS i) ρ Z=.ok (.nx ρ1) Z1:=by subst e;unfold fF;rw[h];rfl
theorem cK:dE ρ Z=.ok (.nx ρ) Z:=rfl
theorem zb(h:fe ρ Z=.ok x Z1)(a:fo ρ Z1=.ok (.rf i) Z2)(j:Z2[i]?=Bn (.obj C fs))(g:fs.length<100):iu C f fo fe ρ Z=.ok (.nx ρ) (Z2.set i (.obj C (e9 f x fs))):=by
 have e:FZ Z2 C (.rf i)=Bn (i,fs):=by unfold FZ;dsimp only;rw[j];dsimp only;rw[av rfl]
 unfold iu;rw[h,dP,a,dP,e];show(if fs.length<100 then _ else _)=_;rw[av g]
theorem qE(h:f ρ Z=.ok x Z1)(k:frz 4 Z1 x=Bn (d,Z2)):sY f ρ Z=.ok (.fz d) Z2:=by unfold sY;rw[h,dP];unfold Lq;rw[k]
theorem mn(e:xs.map Bn++PK (N - xs.length) Pn=ρ)(h:g ρ Z=.ok (.rt x) Z1):fH N g xs Z=.ok x Z1:=by subst e;unfold fH;rw[h];rfl
theorem lg(e:xs.map Bn++PK (N - xs.length) Pn=ρ)(h:g ρ Z=.ok (.nx ρ1) Z1):fH N g xs Z=.ok (.fz .none) Z1:=by subst e;unfold fH;rw[h];rfl
end
section
variable{ρ ρ1 ρ2:bv}{Z Z1 Z2 Z3 Z4:aZ}{x y z:SV}{i n:Nat}{d dx dy:D}{ds:bb D}{b:Bool}
theorem oN(e:α->D)(f:α->SV)(Z:aZ)(I:bv->Prop):∀(xs:bb α) (ρ:bv) (a:bb SV),I ρ->a.length+xs.length<=1000000->(∀x∈xs,∀ρ,I ρ->∃ρ',gt (.fz (e x)) ρ Z=.ok ρ' Z/\ft ρ' Z=.ok Pr Z/\fe ρ' Z=.ok (f x) Z/\I ρ')->eC gt ft fe (xs.map e) ρ Z a=.ok (a++xs.map f) Z
 |[],ρ,a,_,_,_=>by show RS.ok a Z=_;rw[Uz,Qh]
 |x::r,ρ,a,h0,hl,hs=>by obtain⟨ρ',m,l,j,h⟩:=hs x PH ρ h0;rw[PN]at hl;show((gt (.fz (e x)) ρ Z).bind _)=_;rw[m,dP,l,dP,av rfl,j,dP,av (by ext),oN e f Z I r ρ' _ h (by rw[PJ,Ta];ext) λy g=>hs y (PD _ g),QS];rfl
theorem Bi(hi:fi ρ Z=.ok ds Z1)(a:eC gt ft fe ds (pq n fj ρ) Z1 []=.ok xs Z2):sF n fj fi gt ft fe ρ Z=.ok (.rf Z2.length) (Z2++[.lst xs]):=by unfold sF;rw[hi,dP,a,EU,dP]
theorem vR(m:Nat):∀(ds:bb D),pM (frz m) Z (ds.map .fz)=Bn (ds,Z)
 |[]=>rfl
 |d::r=>by rw[PY];unfold pM;rw[show frz m Z (.fz d)=Bn (d,Z) by cases m<;>rfl];dsimp only;rw[vR m r]
theorem qv(h:Z[i]?=Bn (.lst (ds.map .fz))):frz 4 Z (.rf i)=Bn (.list ds,Z.set i .dead):=by unfold frz;rw[h];dsimp only;rw[vR]
theorem Fo(h:fe ρ Z=.ok (.rf i) Z1)(a:Z1[i]?=Bn (.lst (ds.map .fz))):nK fe ρ Z=.ok ds (Z1.set i .dead):=by unfold nK;rw[h,dP,qv a];rfl
def OJ(N C:bv->aZ->Prop)(T:SV->aZ->Prop):RS ZM->Prop
 |.ok (.nx ρ) Z=>N ρ Z
 |.ok (.ct ρ) Z=>C ρ Z
 |.ok (.rt v) Z=>T v Z
 |_=>False
structure TK(r:RS ZM)(N C:bv->aZ->Prop)(T:SV->aZ->Prop):Prop where
 out:OJ N C T r
variable{f g:gS}{fe:eK}{N C:bv->aZ->Prop}{T:SV->aZ->Prop}
theorem TK.eq(e:r=r')(h:TK r' N C T):TK r N C T:=by rw[e];exact h
theorem rK(h:TK (f ρ Z) (λr o=>TK (g r o) N C T) C T):TK (aW f g ρ Z) N C T:=by
 refine⟨?_⟩;have h:=h.out;unfold aW;cases q:f ρ Z with
 |bad=>rw[q]at h;exact h.elim
 |er x o=>rw[q]at h;exact h.elim
 |ok a o=>
  rw[q]at h;cases a with
  |nx r=>exact(show TK (g r o) N C T from h).out
  |ct r=>exact h
  |rt v=>exact h
  |bk r=>exact h.elim
theorem xR(h:c ρ Z=.ok b Z1)(a:b=Pr->TK (f ρ Z1) N C T)(e:b=Py->TK (g ρ Z1) N C T):TK (cL c f g ρ Z) N C T:=by
 unfold cL;rw[h,dP];cases b with
 |true=>exact a rfl
 |false=>exact e rfl
theorem rN(e:c ρ Z=.ok Pr Z1)(a:TK (f ρ Z1) N C T):TK (cL c f g ρ Z) N C T:=xR e (λ_=>a) λh=>by cases h
theorem ez(e:c ρ Z=.ok Py Z1)(a:TK (g ρ Z1) N C T):TK (cL c f g ρ Z) N C T:=xR e (λh=>by cases h) λ_=>a
theorem Kj(e:fe ρ Z=.ok x Z1)(a:gt x ρ Z1=.ok ρ1 Z2)(h:N ρ1 Z2):TK (fF fe gt ρ Z) N C T:=by refine⟨?_⟩;unfold fF;rw[e,dP,a,dP];exact h
theorem nH(a:f ρ Z=.ok (.nx ρ1) Z1)(h:N ρ1 Z1):TK (f ρ Z) N C T:=⟨by rw[a];exact h⟩
theorem NA(a:f ρ Z=.ok (.rt x) Z1)(h:T x Z1):TK (f ρ Z) N C T:=⟨by rw[a];exact h⟩
theorem iR(a:fe ρ Z=.ok x Z1)(h:N ρ Z1):TK (bZ fe ρ Z) N C T:=nH (eJ a) h
theorem KZ(a:fe ρ Z=.ok x Z1)(h:T x Z1):TK (je fe ρ Z) N C T:=NA (jI a) h
theorem Iw(h:T (.fz .none) Z):TK (uf ρ Z) N C T:=⟨h⟩
theorem lx(h:N ρ Z):TK (dE ρ Z) N C T:=⟨h⟩
theorem jy{gt:Da}(e:fe ρ Z=.ok x Z1)(a:gt x ρ Z1=.ok ρ1 Z2)(h:TK (g ρ1 Z2) N C T):TK (aW (fF fe gt) g ρ Z) N C T:=rK (Kj e a h)
theorem BF(a:f ρ Z=.ok (.nx ρ1) Z1)(h:TK (g ρ1 Z1) N C T):TK (aW f g ρ Z) N C T:=rK (nH a h)
theorem lf(a:fe ρ Z=.ok x Z1)(h:TK (g ρ Z1) N C T):TK (aW (bZ fe) g ρ Z) N C T:=rK (iR a h)
theorem xE{h a:gS}(m:c ρ Z=.ok b Z1)(j:b=Pr->TK (aW h g ρ Z1) N C T)(l:b=Py->TK (aW a g ρ Z1) N C T):TK (aW (cL c h a) g ρ Z) N C T:=by
 have e:aW (cL c h a) g ρ Z=if b=Pr then aW h g ρ Z1 else aW a g ρ Z1:=by unfold aW cL;rw[m,dP];cases b<;>rfl
 refine .eq e ?_;cases b with
 |true=>exact j rfl
 |false=>exact l rfl
theorem uJ{a l:gS}(j:c ρ Z=.ok Pr Z1)(e:TK (aW a g ρ Z1) N C T):TK (aW (cL c a l) g ρ Z) N C T:=xE j (λ_=>e) λh=>by cases h
theorem rQ{l a:gS}(j:c ρ Z=.ok Py Z1)(e:TK (aW a g ρ Z1) N C T):TK (aW (cL c l a) g ρ Z) N C T:=xE j (λh=>by cases h) λ_=>e
theorem uX(h:T (.fz .none) Z):TK (aW uf g ρ Z) N C T:=rK (Iw h)
theorem mJ(h:TK (g ρ Z) N C T):TK (aW dE g ρ Z) N C T:=rK (lx h)
theorem KS{a e:gS}(h:TK (aW a (aW e g) ρ Z) N C T):TK (aW (aW a e) g ρ Z) N C T:=by
 refine .eq ?_ h;unfold aW;cases a ρ Z with
 |bad=>rfl
 |er x o=>rfl
 |ok j o=>cases j<;>rfl
theorem Kz(a:xs.map Bn++PK (n - xs.length) Pn=ρ)(h:TK (g ρ Z) (λ_ Z'=>T (.fz .none) Z') (λ_ _=>False) T):∃x Z',fH n g xs Z=.ok x Z'/\T x Z':=by
 have h:=h.out;unfold fH;rw[a];cases q:g ρ Z with
 |bad=>rw[q]at h;exact h.elim
 |er x o=>rw[q]at h;exact h.elim
 |ok e o=>
  rw[q]at h;cases e with
  |nx r=>exact⟨_,_,rfl,h⟩
  |ct r=>exact h.elim
  |rt v=>exact⟨_,_,rfl,h⟩
  |bk r=>exact h.elim
theorem iY{W:aZ->Prop}(a:xs.map Bn++PK (n - xs.length) Pn=ρ)(h:TK (g ρ Z) (λ_ Z'=>SV.fz .none=v/\W Z') (λ_ _=>False) (λr Z'=>r=v/\W Z')):∃Z',fH n g xs Z=.ok v Z'/\W Z':=by obtain⟨x,Z',l,j,e⟩:=Kz (T:=λr Z'=>r=v/\W Z') a h;exact⟨Z',by rw[l,j],e⟩
end
end L10
namespace L10
open PySem PyProof.Rows L2 L3
section
variable{B O O':b8}{K:Po}{E:XK}{H H' H1 H2:Hp}{α α' α1 α2:bb Pz}{Z Z' Z1 Z2:aZ}{σ:L2.St}{ρ:bv}{v:V}
theorem Ma{fa fb:eK}{y z:SV}{i:Nat}{n:Int}{xs:bb SV}(ha:fa ρ Z=.ok (.rf i) Z1)(d:fb ρ Z1=.ok y Z2)(hn:CC y=Bn n)(a:Z2[i]?=Bn (.lst xs))(b:lO xs n=Bn z):kx fa fb ρ Z=.ok z Z2:=by unfold kx;rw[ha,dP,d,dP];unfold Ho;simp only[a,hn];show RS.QL Z2 (lO xs n)=_;rw[b];rfl
end
end L10
namespace L10
open PySem PyProof.Rows L2 L3
section
variable{O Y:b8}{K:Po}{H Z:Hp}{a b:Pz}{xs:bb V}{X:Heap->Prop}
def N4(a:Pz)(O:b8)(H:Hp)(Y:b8)(Z:Hp):Prop:=∀b o,b≠a->H b=Bn o->¬O b->Z b=Bn o/\¬Y b
theorem VT.ZA(hx:H a=Bn (.ext X))(h:VT O K H b xs)(e:N4 a O H Y Z):VT Y K Z b xs:=by
 obtain⟨h,k⟩:=h;by_cases z:O b
 .exact⟨TN.same (kY Z) (k z),λ_=>k z⟩
 .rcases h with(h|⟨o,h⟩)|h
  .obtain⟨f,d⟩:=e b _ (λy=>by rw[y,hx]at h;cases h) h z;exact⟨.inl (.inl f),λy=>a5 y d⟩
  .obtain⟨f,d⟩:=e b _ (λy=>by rw[y,hx]at h;cases h) h z;exact⟨.inl (.inr ⟨o,f⟩),λy=>a5 y d⟩
  .exact⟨.inr h,λ_=>.inr h⟩
theorem UQ.ZA(hx:H a=Bn (.ext X))(h:UQ O K H b xs)(e:N4 a O H Y Z):UQ Y K Z b xs:=by
 obtain⟨h,k⟩:=h;by_cases z:O b
 .exact⟨(kY Z).tup (k z),λ_=>k z⟩
 .rcases h with(h|⟨o,h⟩)|h
  .obtain⟨f,d⟩:=e b _ (λy=>by rw[y,hx]at h;cases h) h z;exact⟨.inl (.inl f),λy=>a5 y d⟩
  .obtain⟨f,d⟩:=e b _ (λy=>by rw[y,hx]at h;cases h) h z;exact⟨.inl (.inr ⟨o,f⟩),λy=>a5 y d⟩
  .exact⟨.inr h,λ_=>.inr h⟩
mutual
theorem DV.ZA(hx:H a=Bn (.ext X))(e:N4 a O H Y Z):∀{v:V} {d:D},L3.DV O K H v d->L3.DV Y K Z v d
 |_,_,.Sz=>.Sz
 |_,_,.bl b=>.bl b
 |_,_,.int i=>.int i
 |_,_,.str x=>.str x
 |_,_,.tup h hs=>.tup (UQ.ZA hx h e) (Rk.ZA hx e hs)
 |_,_,.lst h hs=>.lst (VT.ZA hx h e) (Rk.ZA hx e hs)
theorem Rk.ZA(hx:H a=Bn (.ext X))(e:N4 a O H Y Z):∀{vs:bb V} {ds:bb D},L3.Rk O K H vs ds->L3.Rk Y K Z vs ds
 |_,_,.nil=>.nil
 |_,_,.cons h hs=>.cons (DV.ZA hx e h) (Rk.ZA hx e hs)
end
end
end L10
namespace L3
open PySem PySem.Spec PyProof.Rows L2
def Nl:bb V->Hp->VK->Prop:=λxs H Q=>∃i:Int,xs=[.int i]/\Q (.int (if i<0 then -i else i)) H
theorem Cm{X:Cx}:Sm X (.builtin "abs") Nl:=by intro a s e H xs f Q I r h;obtain⟨i,rfl,q⟩:=h;obtain⟨u,rfl,d⟩:=ir r;obtain⟨t,rfl⟩:=(show∃t,u=Pq.int i t from d);exact call_abs_int λu b=>⟨.int _,H,I.tok b,⟨_,rfl⟩,q⟩
def zI:bb D->bg RV
 |[.int i]=>Bn (.fz (.int (if i<0 then -i else i)))
 |_=>Pn
theorem Me{K:Po}:BO K Nl zI:=by
 intro O H xs ds rv Q n a e q;unfold zI at e;split at e
 .cases e
  cases a with
  |cons d b=>cases b;cases d;exact⟨_,rfl,q.at (.int _)⟩
 .cases e
theorem MN:QY "abs"=Bn (.builtin "abs"):=boot_abs
end L3
namespace L3
open PySem L2
structure NI(K:Po)(f:Pz)(n:Str)(t:Sr):Prop where
 a:Qj K P8 n=Bn (Bn (.ref f))
 F:∃fd,S9 K n n t f fd
structure MI(K:Po)(C f:Pz)(m q:Str)(t:Sr):Prop where
 a:QN K (.ref C) m=Bn (Bn (.ref f))
 i:Vi K (.ref f)=Pr
 F:∃fd,S9 K m q t f fd
structure CI(K:Po)(C:Pz)(n:Str)(fs:bb Str):Prop where
 a:Qj K P8 n=Bn (Bn (.ref C))
 pg:S1 K C Str.empty=Pr
 hd:TU K C=Pr
 po:Vj K C=Pr
 sa:QN K (.ref C) "__setattr__"=Bn (Bn (.builtin "object.__setattr__"))
 mm:VP K C=Pr
 kc:RX K (.ref C)=Pr
 fl:∀x∈fs,US K C x
def BA(n q:Str)(t:Sr)(ps:bb Str):Prop:=∀(kV b d:Pq) (e:bg Pz) (f ct:Pq) (a:bb Pq),a.length=ps.length->bindArgs (Ss n q (lh t) (fq t) (aU t) .none kV b d e f ct) ⟨a,[]⟩=pure (ps.zip a)
section
variable{P:Qc}{w:Qt}{K:Po}{mg:Str->bg Pq}{base h:Heap}{f C:Pz}{n m q:Str}{t:Sr}{ps fs:bb Str}{Z k:Nat}{sp sp':Sp}
theorem CI.cls(c:CI K C n fs):Ys K C:=⟨c.pg,c.hd,c.po,c.sa⟩
theorem CI.cf(c:CI K C n fs):L10.jj K n fs:=⟨C,c.a,c.cls,c.fl⟩
theorem NI.cal(i:NI K f n t)(X:K.In h)(G:h.Ns P8 mg)(b:BA n n t ps)(ok:∀fd,S9 K n n t f fd->FnOk P w K mg base dL Z f fd ps sp):wW P w K mg base Z n ps sp:=
 let⟨fd,z⟩:=i.F;⟨f,fd,ok fd z,z.binds b,z.kp,S6 X G i.a⟩
theorem NI.law(i:NI K f "law" t)(X:K.In h)(G:h.Ns P8 mg)(b:mg "law"=Bn (.ref fa))(j:BA "law" "law" t [x])(ok:∀base fd,S9 K "law" "law" t f fd->FnOk P w K mg base dL Z f fd [x] sp):∃fd:Q6,(∀(s:Px) (v:Pq),VG s fd ⟨[v],[]⟩ [(x,v)])/\∀base:Heap,K.In base->base.Ns P8 mg->FnOk P w K mg base dL Z fa fd [x] sp:=by have e:=b.symm.trans (S6 X G i.a);cases e;obtain⟨fd,z⟩:=i.F;obtain⟨r,p,kV,d,g,l,o,ct,y,rfl,u,A⟩:=z.ex;exact⟨_,λs v=>.of_eq (j kV d g l o ct [v] rfl),λbase _ _=>ok base _ z⟩
theorem JN(a:Sg k A):A.units+65<cLine:=by have:=a.un;ext
theorem CQ(p:SO K E u g)(h:Wm X b u):∃t,Wm X b t/\SO K E t g:=⟨_,h,p⟩
theorem GB(p:L10.t8 K E u g)(h:Wm X b u):∃t,Wm X b t/\L10.t8 K E t g:=⟨_,h,p⟩
theorem lI{x a:Str}{st:Sr}{e:Q6}{N:bb Str}{n m:Nat}{g:FS}{i:FN}(F:S9 K x a st f e)(S:TX N ps (aU st))(hn:ps.length=n)(hm:N.length=m)(j:i=fC m g)
  (l:∀(b:Pq) (A:Ql) (outer:bb Env) (s:Px) (H:Hp) (E:XK),N.Nodup->Sg k (A.deeper (QJ a (aU st) s.heap.objs.size f b))->(A.deeper (QJ a (aU st) s.heap.objs.size f b)).units+64<cLine->(A.deeper (QJ a (aU st) s.heap.objs.size f b)).units+1<cLine->(A.deeper (QJ a (aU st) s.heap.objs.size f b)).units+65<cLine->
   ∃t,Wm (rY dL P w K mg base N a (aU st) f b A outer s H E).Zn (fq st) t/\SO K E t g):FnOk P w K mg base dL (k+1) f e ps (mK K n i):=
 Pa F S hn hm j λb A outer s H E d=>l b A outer s H E S.nd d d.units (Jh d) (JN d)
theorem jO{n m:Nat}(F:S9 K x qual st f fd)(S:TX N ps (aU st))(hn:ps.length=n)(hm:N.length=m)(d:FF=L10.fH m g)
  (e:∀(a:Pq) (A:Ql) (outer:bb Env) (s:Px) (H:Hp) (E:XK),N.Nodup->Sg k (A.deeper (QJ qual (aU st) s.heap.objs.size f a))->(A.deeper (QJ qual (aU st) s.heap.objs.size f a)).units+64<cLine->(A.deeper (QJ qual (aU st) s.heap.objs.size f a)).units+1<cLine->(A.deeper (QJ qual (aU st) s.heap.objs.size f a)).units+65<cLine->
   ∃t,Wm (rY dL P w K mg base N qual (aU st) f a A outer s H E).Zn (fq st) t/\L10.t8 K E t g):FnOk P w K mg base dL (k+1) f fd ps (L10.gp K n FF):=
 L10.Pg F S hn hm d λa A outer s H E b=>e a A outer s H E S.nd b b.units (Jh b) (JN b)
theorem HG{W:Pz}{a:Array Pq}{e:Nat}{ss:Array (bg Pq)}{xs:bb V}{ds:bb D}(l:K.lookup W=Bn ⟨.type "tuple",Pn,.seq a e,ss⟩)(d:a.size<=PZ)(b:Vals xs a.toList)(hd:∀O H,Rk O K H xs ds):∀O H,DV O K H (.ref W) (.tuple ds):=λO H=>
 .tup (xs:=xs) ⟨.inr ⟨_,_,_,l,⟨rfl,rfl⟩,rfl,d,b⟩,λ_=>.inr ⟨_,_,_,l,⟨rfl,rfl⟩,rfl,d,b⟩⟩ (hd O H)
end
end L3
namespace LD
open PySem PyProof.Rows L2 L3
mutual
def Mz:Pw->Pw->bg Bool
 |.int i,.int j=>Bn (decide (i<j))
 |.str x,.str y=>Bn (decide (x.cps.toList<y.cps.toList))
 |.tuple xs,.tuple ys=>MS xs ys
 |_,_=>Pn
def MS:bb Pw->bb Pw->bg Bool
 |[],[]=>Bn Py
 |[],_::_=>Bn Pr
 |_::_,[]=>Bn Py
 |x::xs,y::ys=>if Pw.eqv x y=Pr then MS xs ys else Mz x y
end
end LD
namespace LD
open PySem PyProof.Rows
structure VE(es:bb VF)(Qk:bb (Unit×Pq)):Prop where
 vals:es.map (·.val)=Qk.map (·.2)
end LD
namespace L3
open PySem PyProof.Rows L2
structure aem(K:Po)(x qual:Str)(st:Sr)(f:Pz)(fd:Q6)(T:Pz)(Qw:Array Pq):Prop where
 ex:∃(oc:Pq) (od:bg Pz) (kV doc pm:Pq) (an:bg Pz) (R0 ct:Pq) (YX:Array (bg Pq)),
  fd=Ss x qual (lh st) (fq st) (aU st) (.ref T) kV doc pm an R0 ct/\K.lookup f=Bn ⟨oc,od,.func fd,YX⟩/\UE K R0 qual=Pr
 kp:RX K (.ref f)=Pr
 tp:∃o n,K.lookup T=Bn o/\o.data=.seq Qw n
end L3
namespace L3
open PySem L2
section
variable{P:Qc}{w:Qt}{K:Po}{mg:Str->bg Pq}{base h:Heap}{f C:Pz}{n m q:Str}{t:Sr}{ps fs:bb Str}{Z k:Nat}{sp sp':Sp}{Y:xl}
theorem MI.abM(i:MI K C f m q t)(c:CI K C n fs)(b:BA m q t ps)(ok:∀fd,S9 K m q t f fd->FnOk P w K mg base Y Z f fd ps sp):L10.cE P w K mg base Y Z n m ps sp:=
 let⟨fd,z⟩:=i.F;⟨C,f,fd,c.a,c.cls,⟨i.a,i.i,z.kp⟩,ok fd z,z.binds b⟩
theorem MI.aeh(i:MI K C f "__init__" q t)(c:CI K C n fs)(X:K.In h)(G:h.Ns P8 mg)(b:BA "__init__" q t ps)(ok:∀fd,S9 K "__init__" q t f fd->FnOk P w K mg base Y Z f fd ps sp):L10.Bo P w K mg base Y Z n ps sp:=
 let⟨fd,z⟩:=i.F;⟨C,f,fd,c.a,S6 X G c.a,⟨c.mm,i.a,i.i,c.kc⟩,ok fd z,z.binds b⟩
end
end L3
namespace L10
open PySem L2 L3
def Oo(T:A->aZ->Prop)(X:Xc->Prop):RS A->Prop
 |.ok a Z=>T a Z
 |.er x _=>X x
 |.bad=>False
structure Out{A:Type}(r:RS A)(T:A->aZ->Prop)(X:Xc->Prop):Prop where
 out:Oo T X r
section
variable{A B:Type}{r r':RS A}{T T':A->aZ->Prop}{U:B->aZ->Prop}{X:Xc->Prop}{Z:aZ}
theorem Out.eq(e:r=r')(h:Out r' T X):Out r T X:=by rw[e];exact h
theorem Out.imp(h:Out r T X)(k:∀a Z,T a Z->T' a Z):Out r T' X:=by
 refine⟨?_⟩;have h:=h.out;cases r with
 |bad=>exact h
 |er x o=>exact h
 |ok a o=>exact k a o h
theorem Out.bind(h:Out r (λa o=>Out (f a o) U X) X):Out (r.bind f) U X:=by
 refine⟨?_⟩;have h:=h.out;cases r with
 |bad=>exact h
 |er x o=>exact h
 |ok a o=>exact(show Out (f a o) U X from h).out
theorem Out.all(h:Out r T λ_=>False):∃a o,r=.ok a o/\T a o:=by
 have h:=h.out;cases r with
 |bad=>exact h.elim
 |er x o=>exact h.elim
 |ok a o=>exact⟨a,o,rfl,h⟩
end
section
variable{ρ ρ1 Y:bv}{Z Z1 Z2 Z3:aZ}{x y z:SV}{i n:Nat}{d:D}{ds:bb D}{b:Bool}{f g:gS}{fe:eK}{N:bv->aZ->Prop}{T:SV->aZ->Prop}{X:Xc->Prop}
def O9(N:bv->aZ->Prop)(T:SV->aZ->Prop):ZM->aZ->Prop
 |.nx ρ,Z=>N ρ Z
 |.rt v,Z=>T v Z
 |_,_=>False
abbrev wF(r:RS ZM)(N:bv->aZ->Prop)(T:SV->aZ->Prop)(X:Xc->Prop):Prop:=Out r (O9 N T) X
theorem uW(h:wF (f ρ Z) (λr o=>wF (g r o) N T X) T X):wF (aW f g ρ Z) N T X:=by
 refine Out.bind (h.imp λa o k=>?_);cases a with
 |nx r=>exact k
 |rt v=>exact⟨k⟩
 |ct r=>exact k.elim
 |bk r=>exact k.elim
theorem pp(a:f ρ Z=.ok (.nx ρ1) Z1)(h:wF (g ρ1 Z1) N T X):wF (aW f g ρ Z) N T X:=uW (.eq a ⟨h⟩)
theorem rp(a:f ρ Z=.ok (.nx ρ1) Z1)(h:N ρ1 Z1):wF (f ρ Z) N T X:=.eq a ⟨h⟩
theorem iw(e:fe ρ Z=.ok x Z1)(a:gt x ρ Z1=.ok ρ1 Z2)(h:wF (g ρ1 Z2) N T X):wF (aW (fF fe gt) g ρ Z) N T X:=pp (by unfold fF;rw[e,dP,a,dP]) h
theorem zB{j a:gS}(e:c ρ Z=.ok Py Z1)(h:wF (aW a g ρ Z1) N T X):wF (aW (cL c j a) g ρ Z) N T X:=by refine .eq ?_ h;unfold aW cL;rw[e,dP,ax P7]
theorem yO(a:fe ρ Z=.ok x Z1)(h:T x Z1):wF (je fe ρ Z) N T X:=.eq (jI a) ⟨h⟩
theorem zt(a:xs.map Bn++PK (n - xs.length) Pn=ρ)(h:wF (g ρ Z) (λ_ Z'=>T (.fz .none) Z') T X):Out (fH n g xs Z) T X:=by
 unfold fH;rw[a];refine Out.bind (h.imp λe o k=>?_);cases e with
 |nx r=>exact⟨k⟩
 |rt v=>exact⟨k⟩
 |ct r=>exact k.elim
 |bk r=>exact k.elim
theorem Am{b:gS}(I:Nat->bv->aZ->Prop):∀(ds:bb D) (k:Nat) (ρ:bv) (Z:aZ),I k ρ Z->(∀i d ρ Z,ds[i]?=Bn d->I (k+i) ρ Z->∃ρ1 Z1,gt (.fz d) ρ Z=.ok ρ1 Z1/\wF (b ρ1 Z1) (I (k+i+1)) T X)->wF (kK gt b ds ρ Z) (I (k+ds.length)) T X
 |[],k,ρ,Z,h0,_=>⟨h0⟩
 |d::r,k,ρ,Z,h0,hs=>by
  obtain⟨ρ1,Z1,w,u⟩:=hs 0 d ρ Z rfl h0;have l:∀a p,I (k+1) a p->wF (kK gt b r a p) (I (k+(r.length+1))) T X:=λa p h=>by
   have e:k+(r.length+1)=k+1+r.length:=by ext
   rw[e];refine Am I r (k+1) a p h λi A j q hi t=>?_;have e:k+1+i=k+(i+1):=by ext
   rw[e]at t⊢;exact hs (i+1) A j q (by simpa using hi) t
  refine .eq (show kK gt b (d::r) ρ Z=(b ρ1 Z1).bind λm Z2=>match m with
   |.nx Y=>kK gt b r Y Z2
   |.ct Y=>kK gt b r Y Z2
   |.bk Y=>.ok (.nx Y) Z2
   |.rt x=>.ok (.rt x) Z2 from ?_) (Out.bind (u.imp λm o k=>?_))
  .show((gt (.fz d) ρ Z).bind _)=_
   rw[w,dP]
   all_goals (cases b ρ1 Z1 with
    |bad=>rfl
    |er x o=>rfl
    |ok m o=>cases m<;>rfl)
  .cases m with
   |nx r=>exact l _ _ k
   |rt v=>exact⟨k⟩
   |ct r=>exact k.elim
   |bk r=>exact k.elim
theorem zg{b:gS}(I:Nat->bv->aZ->Prop)(hi:fi ρ Z=.ok ds Z1)(h:I 0 ρ Z1)(a:∀i d ρ Z,ds[i]?=Bn d->I i ρ Z->∃ρ1 Z1,gt (.fz d) ρ Z=.ok ρ1 Z1/\wF (b ρ1 Z1) (I (i+1)) T X)(e:∀ρ' Z',I ds.length ρ' Z'->N ρ' Z'):wF (uZ fi gt b ρ Z) N T X:=by
 have:=Am I ds 0 ρ Z1 h (by simpa using a);rw[Xz]at this;refine .eq ?_ (this.imp λj o k=>?_)
 .unfold uZ;rw[hi,dP]
 .cases j with
  |nx r=>exact e _ _ k
  |rt v=>exact k
  |ct r=>exact k.elim
  |bk r=>exact k.elim
end
end L10
namespace L3
open PySem PyProof.Rows L2
section
variable{P:Qc}{w:Qt}{K:Po}{mg:Str->bg Pq}{base h:Heap}{f T:Pz}{n:Str}{t:Sr}{ps:bb Str}{lv:Nat}{sp:Sp}{CX:xl}{Qw:Array Pq}
structure DI(K:Po)(f T:Pz)(n:Str)(t:Sr)(Qw:Array Pq):Prop where
 a:Qj K P8 n=Bn (Bn (.ref f))
 F:∃fd,aem K n n t f fd T Qw
end
structure Tp(P:Qc)(w:Qt)(K:Po)(mg:Str->bg Pq)(base h:Heap):Prop where
 X:K.In h
 G:h.Ns P8 mg
section
variable{P:Qc}{w:Qt}{K:Po}{mg:Str->bg Pq}{base h:Heap}{f C T:Pz}{n m q:Str}{t:Sr}{ps fs:bb Str}{Z:Nat}{sp:Sp}{Y:xl}{Qw:Array Pq}
theorem NI.c(i:NI K f n t)(W:Tp P w K mg base h)(ok:∀fd,S9 K n n t f fd->FnOk P w K mg base dL Z f fd ps sp)(a:BA n n t ps:=by fail "ba"):wW P w K mg base Z n ps sp:=i.cal W.X W.G a ok
theorem MI.mt(i:MI K C f m q t)(c:CI K C n fs)(W:Tp P w K mg base h)(ok:∀fd,S9 K m q t f fd->FnOk P w K mg base Y Z f fd ps sp)(a:BA m q t ps:=by fail "ba"):L10.cE P w K mg base Y Z n m ps sp:=i.abM c a ok
theorem MI.k(i:MI K C f "__init__" q t)(c:CI K C n fs)(W:Tp P w K mg base h)(ok:∀fd,S9 K "__init__" q t f fd->FnOk P w K mg base Y Z f fd ps sp)(a:BA "__init__" q t ps:=by fail "ba"):L10.Bo P w K mg base Y Z n ps sp:=i.aeh c W.X W.G a ok
end
end L3
namespace LD
open PySem PyProof.Rows L2 L3 L10
def Wz(Z:aZ):SV->bg (bb SV)
 |.rf i=>match Z[i]? with
  |some (.lst xs)=>Bn xs
  |_=>Pn
 |_=>Pn
section
variable{K:Po}{E:XK}{B:b8}{H:Hp}{Y:bb Pz}{Z:aZ}{v:V}
theorem aae{x:SV}{xs:bb SV}(s:Qr B K H Y Z)(b:SU (ow B Y Z) K H Y v x)(h:Wz Z x=Bn xs):∃a vs,v=.ref a/\H a=Bn (.lst vs)/\Sh (ow B Y Z) K H Y vs xs:=by
 cases x with
 |fz d=>cases h
 |tp l=>cases h
 |rf j=>
  obtain⟨a,ha,rfl⟩:=b;unfold Wz at h;dsimp only at h;cases q:Z[j]? with
  |none=>rw[q]at h;cases h
  |some c=>
   rw[q]at h;cases c with
   |lst g=>cases h;obtain⟨ws,f,e⟩:=s.Ww j a _ ha q;exact⟨a,ws,rfl,f,e⟩
   |_=>cases h
end
end LD
namespace L10
open PySem PyProof.Rows L2 L3
def Ij(F:FN)(n:Nat)(fa:xy):eK:=λρ Z=>(fa ρ Z).bind λxs a=>match aC (jw 6 a) xs with
 |some ds=>if ds.length=n then(match F ds with
  |.ok rv=>nI a rv
  |_=>.bad)else .bad
 |none=>.bad
theorem xn{K:Po}{E:XK}{F:FN}{n:Nat}{fa:xy}(ha:Cw K E ta fa):eF K E (rT (mK K n F) [] E0 ta) (Ij F n fa):=by
 intro B i H α Z ρ Q s sl w;refine ha B i H α Z ρ _ s sl (w.bind.imp λxs b g h l d a vs j=>?_);rw[Qh];cases q1:aC (jw 6 g) xs with
 |none=>rw[q1]at a;exact a.elim
 |some ds=>
  rw[q1]at a;have f:Rk W8 K h vs ds:=jA (cM (R:=SU (ow B b g) K h b) (λv x y r e=>jV d 6 r e) j q1);dsimp only at a;by_cases hn:ds.length=n
  .rw[av hn]at a
   refine⟨f.length.trans hn,W8,ds,λ_ z=>z.elim,f,?_⟩;cases q:F ds with
   |bad=>rw[q]at a;exact a.elim
   |er x=>rw[q]at a;exact a.elim
   |ok rv=>rw[q]at a;exact AW d a
  .rw[ax hn]at a;exact a.elim
theorem HN{F:FN}{n:Nat}{fa:xy}{ρ:bv}{Z Z1:aZ}{xs:bb SV}{ds:bb D}{d:D}(ha:fa ρ Z=.ok xs Z1)(hd:aC (jw 6 Z1) xs=Bn ds)(hn:ds.length=n)(b:F ds=.ok (.fz d))(a:z9 d=Pr):Ij F n fa ρ Z=.ok (.fz d) Z1:=by unfold Ij;rw[ha,dP,hd];dsimp only;rw[av hn,b];exact av a
end L10
namespace L10
open PySem PySem.Spec PyProof.Rows L2 L3
def Yk:V->V->Bool
 |.int _,.int _=>Pr
 |.str _,.str _=>Pr
 |_,_=>Py
def C1:V->V->Bool
 |.int a,.int b=>a==b
 |.str a,.str b=>a.cps.toList==b.cps.toList
 |_,_=>Py
def eV(u:Pq):Pq->Bool
 |.int a _=>(match u with|.int b _=>a==b|_=>Py)
 |.str a _=>(match u with|.str b _=>a.cps.toList==b.cps.toList|_=>Py)
 |_=>Py
theorem DY{z y:V}{w u:Pq}(hz:RelV z w)(d:RelV y u)(h:Yk z y=Pr):eV u w=C1 z y/\MeetsSeq.EqGives w u (C1 z y):=by
 cases z with
 |int a=>
  cases y with
  |int b=>obtain⟨t,rfl⟩:=hz;obtain⟨e,rfl⟩:=d;exact⟨rfl,MeetsSeq.EqGives.int _ _ _ _⟩
  |_=>cases h
 |str a=>
  cases y with
  |str b=>obtain⟨t,rfl⟩:=hz;obtain⟨e,rfl⟩:=d;exact⟨rfl,SeqRoads2.EqGives.str _ _ _ _⟩
  |_=>cases h
 |_=>cases h
def MK:V->bb V->Hp->VK->Prop:=λx vs H Q=>∃(l:Pz) (xs:bb V) (y:V) (j:Nat),x=.ref l/\vs=[y]/\H l=Bn (.lst xs)/\(∀z∈xs,Yk z y=Pr)/\(∃z,xs[j]?=Bn z/\C1 z y=Pr)/\(∀m z,m<j->xs[m]?=Bn z->C1 z y=Py)/\Q .Sz (bS H l (.lst (xs.eraseIdx j)))
theorem uh{X:Cx}:O0 X "list.remove" MK:=by
 intro B s M H x vs v O Q I G rv h;obtain⟨l,xs,y,j,rfl,rfl,E,K,⟨N,b,p⟩,o,q⟩:=h;cases G;obtain⟨u,rfl,J⟩:=rv.one;obtain⟨z,a,n,r,P,e⟩:=I.aal E;have len:a.length=xs.length:=r.length.symm;have A:∀(m:Nat) (hm:m<a.length),∃z,xs[m]?=Bn z/\eV u a[m]=C1 z y/\MeetsSeq.EqGives a[m] u (C1 z y):=λm hm=>by have i:xs[m]?=Bn (xs[m]'(by ext)):=PM (by ext);obtain⟨w,f,L⟩:=r.get i;rw[PM hm]at f;cases P4 f;exact⟨_,i,DY L J (K _ (Qs i))⟩
 have C:j<a.length:=by rw[len];exact(Pu.mp b).1
 refine Ul T4 ⟨_,e,rfl⟩ PySem.F.entry_list_remove (PySem.F.args_list_remove_2 _ _)
  (MeetsSeq.list_remove l a.toArray n u (eV u) (λw f=>?_) j (by rw[PX];exact C) ?_ (λm hm lt=>?_) (by rw[PX];ext)) ⟨e,?_⟩
 .obtain⟨m,hm,rfl⟩:=X5.mp (by simpa using f:w∈a);obtain⟨z,_,d,t⟩:=A m hm;rw[d];exact t
 .obtain⟨z,g,d,t⟩:=A j C;rw[b]at g;cases g;rw[X7,d];exact p
 .rw[PX]at hm;obtain⟨z,g,d,t⟩:=A m hm;rw[X7,d];exact o m z lt g
 .refine⟨.Sz,_,I.acg E e ?_ (r.eraseIdx j) ?_,rfl,q⟩
  .show a.toArray.eraseIdxIfInBounds j=(a.eraseIdx j).toArray;rw[List.eraseIdxIfInBounds_toArray]
  .have:=uy xs j;ext
def Gr:D->D->Bool
 |.int _,.int _=>Pr
 |.str _,.str _=>Pr
 |_,_=>Py
def Jn:D->D->Bool
 |.int a,.int b=>a==b
 |.str a,.str b=>a.cps.toList==b.cps.toList
 |_,_=>Py
def tf(y:D):bb D->bg Nat
 |[]=>Pn
 |d::r=>if Jn d y=Pr then Bn 0 else(tf y r).map (·+1)
theorem Bc{y:D}:∀{ds:bb D} {j:Nat},tf y ds=Bn j->(∃d,ds[j]?=Bn d/\Jn d y=Pr)/\∀m d,m<j->ds[m]?=Bn d->Jn d y=Py
 |[],_,h=>by cases h
 |d::r,j,h=>by
  unfold tf at h;split at h
  .rename_i e;cases h;exact⟨⟨d,rfl,e⟩,λm d hm=>by ext⟩
  .rename_i e
   cases q:tf y r with
   |none=>rw[q]at h;cases h
   |some i=>
    rw[q]at h;cases h;obtain⟨f,b⟩:=Bc q;refine⟨f,λm x hm a=>?_⟩;cases m with
    |zero=>cases P4 a;exact VI.mpr e
    |succ m=>exact b m x (by have hm:m+1<i+1:=hm;ext) a
theorem Hn{O:b8}{K:Po}{H:Hp}{v u:V}{d y:D}(b:L3.DV O K H v d)(a:L3.DV O K H u y)(h:Gr d y=Pr):Yk v u=Pr/\C1 v u=Jn d y:=by
 cases b with
 |int i=>cases a with
  |int j=>exact⟨rfl,rfl⟩
  |_=>cases h
 |str i=>cases a with
  |str j=>exact⟨rfl,rfl⟩
  |_=>cases h
 |_=>cases h
def Dt(fo fe:eK):eK:=λρ Z=>(fo ρ Z).bind λo a=>(RS.QL a (fR a o)).bind λ_ a=>(fe ρ a).bind λx b=>(RS.QL b (fR b o)).bind λp e=>match aC sB p.2,x with
 |some ds,.fz y=>if(ds.all λd=>Gr d y)=Pr then(match tf y ds with
  |some j=>.ok (.fz .none) (e.set p.1 (.lst (p.2.eraseIdx j)))
  |none=>.bad)else .bad
 |_,_=>.bad
theorem yc{α a:Type}{R:α->a->Prop}:∀{vs:bb α} {xs:bb a} (i:Nat),Paired R vs xs->Paired R (vs.eraseIdx i) (xs.eraseIdx i)
 |_,_,_,.nil=>.nil
 |_,_,0,.cons _ t=>t
 |_,_,i+1,.cons r t=>.cons r (yc i t)
theorem DH{α a:Type}{R:α->a->Prop}:∀{vs:bb α} {xs:bb a} {i:Nat} {v:α},Paired R vs xs->vs[i]?=Bn v->∃x,xs[i]?=Bn x/\R v x
 |_,_,_,_,.nil,h=>by cases h
 |_,_,0,_,.cons r t,h=>by cases P4 h;exact⟨_,rfl,r⟩
 |_,_,i+1,_,.cons r t,h=>DH t (i:=i) h
theorem Aa{K:Po}{E:XK}{to P:TE}{fo fe:eK}(ho:eF K E to fo)(he:eF K E P fe):eF K E (N9 K "list" MK to (kU P ox)) (Dt fo fe):=by
 intro B O H α Z ρ Q s sl w;refine ho B O H α Z ρ _ s sl (w.bind.imp λo C Z1 H1 e1 T F v U=>?_);obtain⟨⟨i0,xs0⟩,q0,F⟩:=WS.QL F;obtain⟨_,a0,G,_,rfl,g0,_⟩:=pW T U q0;refine⟨.inl ⟨rfl,G,T6.of g0⟩,?_⟩;refine he B O H1 C Z1 ρ _ T (sl.SJ e1) (F.bind.imp λx f t A e2 S b u hu=>?_);obtain⟨⟨i,xs⟩,q,b⟩:=WS.QL b;obtain⟨I,a,vs,ha,ea,g1,X⟩:=pW S (U.SJ e2) q;cases ea;dsimp only at b;cases q1:aC sB xs with
 |none=>rw[q1]at b;exact b.elim
 |some ds=>
  rw[q1]at b;cases x with
  |rf _=>exact b.elim
  |tp _=>exact b.elim
  |fz y=>
   dsimp only at b;by_cases L:(ds.all λd=>Gr d y)=Pr
   .rw[av L]at b
    cases qj:tf y ds with
    |none=>rw[qj]at b;exact b.elim
    |some j=>
     rw[qj]at b;dsimp only at b;have Y:Paired (L3.DV (ow B f t) K A) vs ds:=cM (R:=SU (ow B f t) K A f) (λv x d r e=>by
      cases x with
      |fz d'=>cases e;exact r
      |rf _=>cases e
      |tp _=>cases e) X q1
     obtain⟨⟨d0,p,M⟩,J⟩:=Bc qj;have n:∀(m:Nat) (z:V),vs[m]?=Bn z->∃d,ds[m]?=Bn d/\Yk z u=Pr/\C1 z u=Jn d y:=λm z g=>by obtain⟨d,l,h2⟩:=DH Y g;exact⟨d,l,Hn h2 hu (Sa.mp L d (Qs l))⟩
     have ev:Ev (ow B f t) A (ow B f t) (bS A a0 (.lst (vs.eraseIdx j))):=qI ha I (by nofun);refine⟨a0,vs,u,j,rfl,rfl,g1,λz g=>?_,?_,λm z hm g=>?_,?_⟩
     .obtain⟨m,hm⟩:=Rf.mp g;obtain⟨_,_,h,_⟩:=n m z hm;exact h
     .have jl:=(Pu.mp p).1;have g:vs[j]?=Bn (vs[j]'(by rw[Y.length];exact jl)):=PM _;obtain⟨d,l,_,N⟩:=n j _ g;rw[p]at l;cases l;exact⟨_,g,N.trans M⟩
     .obtain⟨d,l,_,N⟩:=n m z g;rw[N];exact J m d hm l
     .exact b f _ (RK.put ha I (by nofun) (by nofun)) (S.put ha I (by nofun) (by nofun) ⟨_,aJ,yc j (Paired.Ub X λ_ _ r=>r.ev ev λ_ _ h=>h)⟩) _ .Sz
   .rw[ax L]at b;exact b.elim
theorem Gi{α b:Type}(f:α->b):∀(l:bb α) (j:Nat),(l.map f).eraseIdx j=(l.eraseIdx j).map f
 |[],_=>rfl
 |_::_,0=>rfl
 |a::l,j+1=>di (f a::·) (Gi f l j)
theorem sg:∀ds:bb D,aC sB (ds.map .fz)=Bn ds
 |[]=>rfl
 |d::r=>by unfold List.map aC;rw[show sB (.fz d)=Bn d from rfl,sg r]
theorem Gd{fo fe:eK}{ρ:bv}{Z Z1 Z2:aZ}{i j:Nat}{xs:bb SV}{ds:bb D}{y:D}(a:fo ρ Z=.ok (.rf i) Z1)(h1:Z1[i]?=Bn (.lst xs))(f:fe ρ Z1=.ok (.fz y) Z2)(g:Z2[i]?=Bn (.lst (ds.map .fz)))(b:∀d∈ds,Gr d y=Pr)(e:tf y ds=Bn j):Dt fo fe ρ Z=.ok (.fz .none) (Z2.set i (.lst ((ds.eraseIdx j).map .fz))):=by
 unfold Dt;rw[a,dP,show fR Z1 (.rf i)=Bn (i,xs) by unfold fR;dsimp only;rw[h1]];show(fe ρ Z1).bind _=_;rw[f,dP,show fR Z2 (.rf i)=Bn (i,ds.map .fz) by unfold fR;dsimp only;rw[g]];show(match aC sB (ds.map SV.fz),SV.fz y with
  |some ZV,SV.fz y=>if(ZV.all λd=>Gr d y)=Pr then(match tf y ZV with
   |some j=>RS.ok (SV.fz .none) (Z2.set i (.lst ((ds.map SV.fz).eraseIdx j)))
   |none=>.bad)else .bad
  |_,_=>.bad)=_
 rw[sg];dsimp only;rw[av (Sa.mpr b),e];dsimp only;rw[Gi]
end L10
namespace L10
open PySem PyProof.Rows L2 L3
abbrev Nf:=bv->aZ->RS (bg Int)
def Bg:Nf:=λ_ Z=>.ok Pn Z
def AZ(fa:eK):Nf:=λρ Z=>(fa ρ Z).bind λx a=>match x with
 |.fz (.int i)=>.ok (Bn i) a
 |_=>.bad
section
variable{K:Po}{E:XK}
def N0(K:Po)(E:XK)(t:TO)(f:Nf):Prop:=∀(B:b8) (a:L2.St) (H:Hp) (α:bb Pz) (Z:aZ) (ρ:bv) (Q:bg Int->Hp->Prop),Qr B K H α Z->SR (ow B α Z) K H α a ρ->WS K E B H α Z (λi b e d=>Q i d) (f ρ Z)->t a H Q
theorem xG:N0 K E Au Bg:=λB a H α Z ρ Q s sl w=>w α H RK.refl s
theorem xU{f:TE}{fa:eK}(ha:eF K E f fa):N0 K E (Dy f) (AZ fa):=by
 intro B h H α Z ρ Q s sl w;refine ha B h H α Z ρ _ s sl (w.bind.imp λx a l g m j b v e=>?_);cases x with
 |rf _=>exact b.elim
 |tp _=>exact b.elim
 |fz d=>
  cases d with
  |int i=>have e:L3.DV (ow B a l) K g v (.int i):=e;cases e;exact⟨i,rfl,b a g RK.refl j⟩
  |_=>exact b.elim
end
end L10
namespace PySem
namespace SetTable
def GA(xs:Array Nat):Prop:=xs.toList.Pairwise (·<·)
theorem rO(xs:Array Nat)(j:Nat)(h:GA xs):∀(n lo hi:Nat),lo<=hi->hi<=xs.size->hi - lo<=n->(∀(i v:Nat),xs[i]?=Bn v->i<lo->v<j)->(∀(i v:Nat),xs[i]?=Bn v->hi<=i->j<=v)->∃k,below.go xs j n lo hi=k/\k<=xs.size/\(∀(i v:Nat),xs[i]?=Bn v->i<k->v<j)/\(∀(i v:Nat),xs[i]?=Bn v->k<=i->j<=v)
 |0,lo,hi,h1,h2,h3,h4,h5=>⟨lo,rfl,by ext,h4,λi v e b=>h5 i v e (by ext)⟩
 |n+1,lo,hi,h1,h2,h3,h4,h5=>by
  unfold below.go;by_cases q:lo<hi
  .rw[av q]
   have g:(lo+hi)/2<xs.size:=by ext
   have a:xs[(lo+hi)/2]?=Bn xs[(lo+hi)/2]:=by rw[QB g]
   have mono:∀(i k v w:Nat),xs[i]?=Bn v->xs[k]?=Bn w->i<k->v<w:=λi k v w f d p=>by rw[<-QD]at f d;obtain⟨m,rfl⟩:=Pu.mp f;obtain⟨l,rfl⟩:=Pu.mp d;exact T5.mp h i k m l p
   have r:xs.getD ((lo+hi)/2) j=xs[(lo+hi)/2]:=by rw[Tw,a];rfl
   dsimp only;rw[r];split
   .rename_i c
    refine rO xs j h n _ hi (by ext) h2 (by ext) (λi v e o=>?_) h5;by_cases z:i=(lo+hi)/2
    .subst z;rw[a]at e;cases e;exact c
    .have:=mono i _ v _ e a (by ext);ext
   .rename_i c
    refine rO xs j h n lo _ (by ext) (by ext) (by ext) h4 λi v e o=>?_;by_cases z:i=(lo+hi)/2
    .subst z;rw[a]at e;cases e;ext
    .have:=mono _ i _ v a e (by ext);ext
  .rw[ax q];exact⟨lo,rfl,by ext,h4,λi v e b=>h5 i v e (by ext)⟩
theorem x9{xs:Array Nat}(h:GA xs)(j:Nat):below xs j<=xs.size/\(∀(i v:Nat),xs[i]?=Bn v->i<below xs j->v<j)/\(∀(i v:Nat),xs[i]?=Bn v->below xs j<=i->j<=v):=by obtain⟨k,b,a⟩:=rO xs j h xs.size 0 xs.size (Qu _) (PF _) (by ext) (λi v _ hi=>a5 hi (ZG _)) (λi v e hi=>by rw[Ux hi]at e;cases e);unfold below;rw[b];exact a
theorem Jc{xs:Array Nat}(h:GA xs){j:Nat}(hn:xs[below xs j]?≠Bn j):GA (insertAt xs (below xs j) j):=by
 obtain⟨q,o,f⟩:=x9 h j;unfold GA;rw[toList_insertAt];have p:∀x∈xs.toList.take (below xs j),x<j:=λx a=>by obtain⟨i,hi⟩:=Rf.mp a;have n:=(Pu.mp hi).1;rw[QH]at n;rw[W0 (by ext),QD]at hi;exact o i x hi (by ext)
 have g:∀x∈xs.toList.drop (below xs j),j<x:=λx a=>by
  obtain⟨i,hi⟩:=Rf.mp a;rw[List.getElem?_drop,QD]at hi;have:=f _ x hi (by ext);by_cases z:i=0
  .subst z;have:x≠j:=λe=>hn (hi.trans (di Bn e));ext
  .have le:below xs j<xs.size:=by
    have:=(Wh.mp hi).1;ext
   have e0:xs[below xs j]?=Bn xs[below xs j]:=QB le;have:=f _ _ e0 (PF _);rw[<-QD]at e0 hi;obtain⟨m,t⟩:=Pu.mp e0;obtain⟨l,r⟩:=Pu.mp hi;have:=T5.mp h _ _ m l (by ext);ext
 have b:=h;unfold GA at b;rw[<-Tc (below xs j) xs.toList,U1]at b;rw[U1];exact⟨b.1,QZ.mpr ⟨g,b.2.1⟩,λx a y d=>by
  have:=p x a;rcases P1.mp d with rfl|d
  .exact this
  .have:=g y d;ext⟩
theorem Cj(n:Nat):GA (Array.range n):=by unfold GA;rw[Array.toList_range];exact RA
theorem qQ{t:SetTable}(hd:t.dummies= #[])(f:Nat->Int)(h:Int):∀(n:Nat) (p:Probe) (j:Nat) (d:bg Nat),p.dummy=Pn->probe.go t f h n p=Bn (.empty j d)->d=Pn/\t.place[below t.place j]?≠Bn j
 |0,_,_,_,_,e=>by unfold probe.go at e;cases e
 |n+1,p,j,d,hp,e=>by
  unfold probe.go at e;have b:(t.advance p).dummy=Pn:=by unfold advance;split<;>exact hp
  have a:has t.dummies p.j=Py:=by rw[hd];rfl
  cases q:t.slot p.j with
  |empty=>
   rw[q]at e;dsimp only at e;injection e with e
   injection e with e1 e2
   subst e1;refine⟨e2.symm.trans hp,λz=>?_⟩;unfold slot at q;dsimp only at q;rw[z]at q;simp at q
  |dummy=>unfold slot at q;dsimp only at q;rw[a]at q;split at q<;>cases q
  |live i=>
   rw[q]at e;dsimp only at e;split at e
   .cases e
   .exact qQ hd f h n _ j d b e
structure TI(b:Bool)(t:SetTable):Prop where
 led:t.led=b
 dm:t.dummies= #[]
 ris:GA t.place
theorem TI.standIn(h:TI b t)(n:Nat):TI b (t.standIn n):=⟨h.led,rfl,Cj n⟩
theorem TI.plain(h:TI b t):TI b {t with plain:=Py}:=⟨h.led,h.dm,h.ris⟩
theorem TI.fresh(b:Bool):TI b (.fresh 0 0 b):=⟨rfl,rfl,R9⟩
theorem TI.layNew(h:TI b t)(f:Array (Int×Pq))(k:Int)(x:Pq):TI b (layNew t f k x).2.1:=by
 unfold PySem.layNew;split
 .rename_i a wd e
  unfold freeSlot at e;split at e
  .rename_i j d q
   obtain⟨rfl,z⟩:=qQ h.dm _ _ _ _ _ _ rfl q;cases e;dsimp only;have T:TI b (t.put j).1:=⟨h.led,by unfold put;dsimp only;rw[h.dm];rfl,Jc h.ris z⟩;unfold orStandIn;split
   .exact T
   .exact T.standIn _
  .cases e
 .exact h.standIn _
theorem TI.acx(h:TI b t)(f:Array (Int×Pq))(w:Nat):TI b (relayAll t f w).2.1:=by
 unfold relayAll;split
 .rename_i m g e
  dsimp only;split
  .unfold relaid laid at e
   cases q:layClean (sizeAbove w - 1) (f.map (·.1))with
   |none=>rw[q]at e;cases e
   |some ow=>
    rw[q]at e;cases e;refine⟨h.led,rfl,?_⟩;show List.Pairwise (·<·) (List.toArray _).toList;rw[List.toList_toArray,TV];have:∀l:bb Nat,l.Pairwise (·<·)->(l.filterMap λj=>((ow.getD j Pn).map (j,·)).map (·.1)).Pairwise (·<·):=λl i=>by
     refine(Xg).mpr (i.imp λ{a b} ab x hx y hy=>?_);have d:∀{a x:Nat},((ow.getD a Pn).map (a,·)).map (·.1)=Bn x->x=a:=λ{a x} h=>by
      cases z:ow.getD a Pn with
      |none=>rw[z]at h;cases h
      |some v=>rw[z]at h;cases h;rfl
     rw[d hx,d hy];exact ab
    exact this _ RA
  .exact h.standIn _
 .exact h.standIn _
end SetTable
end PySem
namespace PySem
open SetTable
section
variable{prog:Qc}{w:Qt}{K:Type}[DecidableEq K]{knd:KeyKind prog w K}{A:Ql}{E:Pq->Px->Prop}{s:Px}{b:Bool}{a:Pz}{Z:Array (Int×Pq)}
structure UZ(knd:KeyKind prog w K)(b:Bool)(h:Heap)(a:Pz)(Z:Array (Int×Pq)):Prop where
 x:∃o ep t,h.get? a=Bn o/\o.ExactSet/\o.data=.set Z ep t/\t.fits Z.size=Pr/\TI b t
 el:aaX knd Z.toList
 sz:Z.size<scanBound
theorem UZ.at{d h1:Heap}(h:UZ knd b d a Z)(e:∀o,d.get? a=Bn o->h1.get? a=Bn o):UZ knd b h1 a Z:=by obtain⟨⟨o,j,t,h1,i⟩,g,f⟩:=h;exact⟨⟨o,j,t,e o h1,i⟩,g,f⟩
theorem UZ.put{e:Heap}{o:Obj}{f:Nat}{t:SetTable}{d:Array (Int×Pq)}{t':SetTable}(j:e.get? a=Bn o)(h:o.ExactSet)(hd:o.data=.set Z f t)(n:aaX knd d.toList)(m:d.size<scanBound)(l:t'.fits d.size=Pr)(i:TI b t'):
  (e.update a (Obj.putSet d t')).get? a=Bn {o with data:=.set d (f+1) t'}/\UZ knd b (e.update a (Obj.putSet d t')) a d:=by
 have g:(e.update a (Obj.putSet d t')).get? a=Bn {o with data:=.set d (f+1) t'}:=
  (b5 (Obj.putSet d t') j (by rw[putSet_of d t' hd];rfl)).trans (di Bn (putSet_of d t' hd))
 exact⟨g,⟨_,f+1,t',g,h,rfl,l,i⟩,n,m⟩
theorem FQ{g:Bool->Sem Unit}(v:∀(c:Bool) (n:Px) (Q:Unit->Px->Prop),Q () n->wpAny (model prog w) A (g c) Q E n){o:Obj}{B:Nat}{t e:SetTable}{d:Array (Int×Pq)}(q:s.heap.get? a=Bn o)(i:o.ExactSet)(hd:o.data=.set Z B t)(u:aaX knd d.toList)(j:d.size<scanBound)(y:e.fits d.size=Pr)(l:TI b e){wd:Bool}{R:bg Bool->Px->Prop}
  (h:∀h' Uk,Heap.SameBut a s.heap h'->UZ knd b h' a Uk->QW Uk.toList d.toList->R (Bn Pr) {s with heap:=h'}):
  wpAny (model prog w) A (do
   storeSet a d e
   if(!wd&&e.tooFull)=Pr then do
    g (relayAll e d (SetTable.grown d.size)).2.2
    storeSet a (relayAll e d (SetTable.grown d.size)).1 (relayAll e d (SetTable.grown d.size)).2.1
    pure (Bn Pr)
   else pure (Bn Pr)) R E s:=by
 refine Ld (aaY q hd ?_ (Wi j));obtain⟨r,F⟩:=UZ.put (knd:=knd) q i hd u j y l;have m:=Heap.SameBut.update s.heap a (Obj.putSet d e);split
 .have p:=relayAll_perm e d (SetTable.grown d.size)
  have f:=relayAll_fits e d (SetTable.grown d.size);have T:=l.acx d (SetTable.grown d.size);generalize relayAll e d (SetTable.grown d.size)=L at p f T⊢;obtain⟨xp,G,H⟩:=L;have z:xp.size=d.size:=by rw[<-Qf,p.length_eq,Qf]
  refine Ld (v _ _ _ (Ld (aaY r rfl ?_ (Wi (by rw[z];exact j)))));obtain⟨_,C⟩:=UZ.put (knd:=knd) r i rfl (u.perm p) (by rw[z];exact j) f T;exact Pt (h _ xp (m.trans (Heap.SameBut.update _ a _)) C p)
 .exact Pt (h _ d m F .rfl)
theorem Ny{x:Pq}{k:K}(P:knd.is k x=Pr)(d:x.scannable=Pr)(O:UZ knd b s.heap a Z)(agh:Z.size+1<scanBound){Q:Bool->Px->Prop}
  (h:∀r h' Uk,Heap.SameBut a s.heap h'->UZ knd b h' a Uk->(if Z.toList.any (λe=>knd.is k e.2)=Pr then Uk=Z else QW Uk.toList (Z.toList++[(knd.hash k,x)]))->Q r {s with heap:=h'}):
  wpAny (model prog w) A (setAddHashed a x (knd.hash k)) Q E s:=by
 obtain⟨⟨o,ep,t,C,u,F,N,R⟩,H,Y⟩:=id O;unfold setAddHashed setAddHashedIn;refine Q1 (Ld (Sv C F N ?_));dsimp only;rw[byScan_of d Y H,av rfl];unfold setAddByScan;refine Ld (Ld (Sj (Ld (wpAny_setScan_of P C F N H ?_))));cases hr:List.findIdx? (λe=>knd.is k e.2) Z.toList with
 |some j=>obtain⟨U,G,_⟩:=List.findIdx?_eq_some_iff_getElem.mp hr;dsimp only;exact Pt (Pt (h _ s.heap Z (Heap.SameBut.refl _ _) O (by rw[av (RD.mpr ⟨_,VW U,G⟩)])))
 |none=>
  have S:¬Z.toList.any (λe=>knd.is k e.2)=Pr:=λz=>by obtain⟨e,X,M⟩:=RD.mp z;rw[List.findIdx?_eq_none_iff.mp hr e X]at M;cases M
  have p:=layNew_perm t Z (knd.hash k) x;have f:=layNew_fits t Z (knd.hash k) x;have T:=R.layNew Z (knd.hash k) x;dsimp only;generalize layNew t Z (knd.hash k) x=L at p f T⊢;obtain⟨I,t1,wd,gv⟩:=L;dsimp only at p f T⊢;rw[Yy]at p;have y:aaX knd I.toList:=(H.push P d).perm p;have J:I.size<scanBound:=by have:=p.length_eq;rw[Qf,PJ,Qf,Ta]at this;ext
  have gw:∀(c:Bool) (i:Px) (B:Unit->Px->Prop),B () i->wpAny (model prog w) A (match c with|true=>rule "set.scan.the-table-gave-way"|false=>pure ()) B E i:=λc i B q=>by
   cases c
   .exact Pt q
   .exact Sj q
  have v:∀h' Uk,Heap.SameBut a s.heap h'->UZ knd b h' a Uk->QW Uk.toList I.toList->∀r,Q r {s with heap:=h'}:=λh' Uk n m l r=>h r h' Uk n m (by rw[ax S];exact l.trans p);refine Ld (gw _ _ _ ?_);split
  .refine Ld ?_;rw[hashByValue_scannable 8 d];refine Pt (FQ (g:=_) (by intro c i B q;cases c<;>first|exact Pt q|exact Sj q) C u F y J (by split;exact f;exact SetTable.fits_plain_off f) (by split;exact T;exact T.plain) λh' Uk n m l=>Pt (v h' Uk n m l _))
  .refine Ld (Pt ?_);simp only[↓reduceIte];exact FQ (g:=_) (by intro c i B q;cases c<;>first|exact Pt q|exact Sj q) C u F y J f T λh' Uk n m l=>Pt (v h' Uk n m l _)
end
end PySem
namespace L10
open PySem PyProof.Rows
def yA(l:bb Pq):bb Pq:=l.foldl (λa v=>if a.any (eV v)=Pr then a else a++[v]) []
theorem xk(l:bb Pq)(v:Pq):yA (l++[v])=if(yA l).any (eV v)=Pr then yA l else yA l++[v]:=by unfold yA;rw[YI];rfl
theorem BB:∀l:bb Pq,(yA l.reverse).length<=l.length
 |[]=>PF _
 |v::r=>by
  rw[List.reverse_cons,xk];have:=BB r;split
  .rw[PN];ext
  .rw[PJ,PN,PN,QA];ext
theorem Kd(l:bb Pq):(yA l).length<=l.length:=by have:=BB l.reverse;rwa [List.reverse_reverse,List.length_reverse]at this
section
variable{prog:Qc}{w:Qt}{K:Type}[DecidableEq K]{knd:KeyKind prog w K}{A:Ql}{R:WC->Px->Prop}{I:Pz}{fp Z:bb Pz}{G:Array Vq->Array Vq->Prop}{n:Nat}{P:Nat->Pq->Prop}{St:Nat->Px->Prop}{b:Bool}
theorem M6(W:WalksS prog w A.in1 I fp Z G n P St)(S:Pz)(p:S∉fp)(vs:bb Pq)(hn:vs.length=n)(hP:∀i v,P i v->vs[i]?=Bn v)(hk:∀v∈vs,v.scannable=Pr/\∃k,knd.is k v=Pr)(YD:∀k u v,knd.is k v=Pr->knd.is k u=eV v u)(hb:n+1<scanBound):
  ∀(m i:Nat) (s:Px) (a:Array (Int×Pq)),n - i=m->i<=n->St i s->UZ knd b s.heap S a->QW (a.toList.map (·.2)) (yA (vs.take i))->
   (∀s' Uk,Moved (S::Z) G s s'->UZ knd b s'.heap S Uk->QW (Uk.toList.map (·.2)) (yA vs)->R (.ok (.ret .none)) s')->
   codeAny (model prog w) A (.builtin "set.update.loop" ⟨[.ref S,.ref I],[]⟩) R s:=by
 have l:S∉Z:=λh=>p (W.sub _ h);have up:∀b∈Z,b∈S::Z:=λ_ h=>PD _ h;intro m
 induction m with
 |zero=>
  intro i s a hm hi d9 H d J;obtain rfl:i=n:=by ext
  refine Q2 Ui ?_;rw[Ql.under_plainId Sf _];show wpAny _ A.in1 (pyNext (.ref I)>>=_) _ _ s;refine Ld (W.done s _ _ d9 λs' g=>?_);rw[<-hn,Sw]at d;exact Pt (J s' a (g.mono up) (H.at λo e=>g.heap S _ l e) d)
 |succ m U=>
  intro i s a hm hi d9 H d J;refine Q2 Ui ?_;rw[Ql.under_plainId Sf _];show wpAny _ A.in1 (pyNext (.ref I)>>=_) _ _ s;refine Ld (W.item i s _ _ (by ext) d9 λv s' Y L g=>?_);have j:=hP i v Y;obtain⟨T,k,B⟩:=hk v (Qs j);have Yl:=H.at (h1:=s'.heap) λo e=>g.heap S _ l e;have sz:a.size<=i:=by have h1:=d.length_eq;have h2:=Kd (vs.take i);rw[Pp,Qf]at h1;rw[QH]at h2;ext
  show wpAny _ A.in1 (holding [v] (setAdd S v)>>=_) _ _ s';refine Ld (Q1 ?_);unfold setAdd;refine Q1 (Ld (knd.pyHash B ?_));refine Ny (s:={s' with toks:=s'.toks+1}) B T Yl (by ext) λr h' Uk Q X E=>?_;have an:a.toList.any (λe=>knd.is k e.2)=(yA (vs.take i)).any (eV v):=by rw[<-d.any_eq,List.any_map];refine di (λf=>a.toList.any f) (funext λe=>?_);exact YD k e.2 v B
  have C:QW (Uk.toList.map (·.2)) (yA (vs.take (i+1))):=by
   rw[SY,j];show QW _ (yA (vs.take i++[v]));rw[xk,<-an];split at E
   .rename_i q;rw[av q,E];exact d
   .rename_i q;rw[ax q];have:=E.map (·.2);rw[Qb]at this;exact this.trans (d.append_right _)
  refine Pt ⟨Rb Sf _,U (i+1) _ Uk (by ext) (by ext) (W.frame _ s' _ _ L (Rp _) λc F o e=>?_) X C λt N M O y=>?_⟩
  .rw[Q.2 c λz=>p (by rw[<-z];exact F)];exact e
  .refine J t N (Moved.trans W.gtrans ((g.mono up).then_heap (Rp _) λc o F e=>?_) M) O y;rw[Q.2 c λz=>F (by rw[z];exact PH)];exact e
end
end L10
namespace PySem
open SetTable
theorem ce:Slot "set_iterator" "__next__" "set_iterator.__next__":=
 .of (owner:= "set_iterator") (n:= "__next__") (by rw[Vc,Tt];kernel_rfl) (by left) (by left) (by left)
  (by first|exact .inl (by left)|exact .inr (by left)) (by rw[Vt];kernel_rfl)
theorem gy:entryFor table "set_iterator.__next__"=Bn Qe.«set_iterator.__next__»:=abB (by kernel_rfl)
theorem hZ(a:Pq):argsOk "set_iterator.__next__" ⟨[a],[]⟩:=by unfold argsOk;kernel_rfl
theorem qY:entryFor table "set.__iter__"=Bn Qe.«frozenset.__iter__»:=
 entryFor_alias (id':= "frozenset.__iter__") (by kernel_rfl) rfl (by left) (by kernel_rfl)
def Uy(h:Heap)(I a:Pz)(f:Pq)(i n b:Nat):Prop:=∃o,h.get? I=Bn o/\o.cls=.type "set_iterator"/\o.data=.fields #[f,.int i 0,.ref a,.int n 0,.int b 0]
section
variable{prog:Qc}{w:Qt}{A:Ql}{E:Pq->Px->Prop}{s:Px}{I a:Pz}{o:Obj}{Z:Array (Int×Pq)}{Y i:Nat}{t:SetTable}
theorem Ee{slot nx:Nat}{x:Pq}{Q:bg Pq->Px->Prop}(f:Uy s.heap I a (.int slot 0) i Z.size Y)(p:s.heap.get? a=Bn o)(hd:o.data=.set Z Y t)(q:t.fits Z.size=Pr)
  (e:∀{A:Ql} {E:Pq->Px->Prop} {Q:bg (Pq×Nat)->Px->Prop},Q (Bn (x,nx)) s->wpAny (model prog w) A (setNext a slot i Y) Q E s)
  (r:∀h',Uy h' I a (.int nx 0) (i+1) Z.size Y->Heap.SameBut I s.heap h'->Q (Bn x) {s with heap:=h'}):wpAny (model prog w) A (pyNext (.ref I)) Q E s:=by
 obtain⟨n,d,g,b⟩:=id f;have h:s.TypeIs (.ref I) "set_iterator":=⟨n,d,g⟩;unfold pyNext;refine Ld (TH (QG (name:=Str.ofString "__next__") h ce (QC ce h gy ?_ (hZ _))));unfold Qe.«set_iterator.__next__» slotArgs;simp only[Tf,Tj,Ri,↓reduceIte,bind_assoc,QA,bne_self_eq_false];refine Ld (Pt ?_);refine Ld (Vw d b ?_);show wpAny _ _ (setEntries a>>=_) _ _ s;refine Ld (SN p hd q ?_);rw[ax (by simp)];show wpAny _ _ (setNext a slot i Y>>=_) _ _ s;refine Ld (e ?_);show wpAny _ _ (setField (.ref I) 0 (rawInt nx)>>=_) _ _ s;refine Ld (Se d b (by simp) ?_);have j:=b5 (Obj.mapFields (·.setIfInBounds 0 (rawInt nx))) d (cv (cn b _));have m:=cn b (·.setIfInBounds 0 (rawInt nx));refine Ld (Se j m (by simp) ?_);have l:=cn m (·.setIfInBounds 1 (rawInt ((i:Int)+1)));have u:=b5 (Obj.mapFields (·.setIfInBounds 1 (rawInt ((i:Int)+1)))) j (cv l);refine Pt ⟨_,rfl,Pt (r _ ⟨_,u,(Obj.cls_mapFields ..).trans ((Obj.cls_mapFields ..).trans g),l.trans (by simp[rawInt])⟩ ((Heap.SameBut.update ..).trans (Heap.SameBut.update ..)))⟩
theorem AI{Q:bg Pq->Px->Prop}(d:A.handled=Pn)(f:∀h',(∀b o,s.heap.get? b=Bn o->h'.get? b=Bn o)->Q Pn {s with heap:=h'}):
  wpAny (model prog w) A.in1 (newExc (.type "StopIteration") []>>=λe=>raiseNew e) (λfin s'=>∃v,fin=Fin.done (Flow.ret v)/\wpAny (model prog w) A (pure (Bn v)) Q E s') (λe s'=>wpAny (model prog w) A (isInstance e (.type "StopIteration")>>=λc=>if c=Pr then pure Pn else throw e) Q E s') s:=by
 refine Ld ?_;simp only[newExc,newTuple];refine Ld (QE ?_ (by size_fits));refine Ld (m:=firstArgMember _ _) (UB (a:=Pq.none) (by first|rfl|(simp only[firstArgMember];rfl)) ?_);refine QE ?_ (by size_fits);simp only[raiseNew];refine Ld (afg ?_);rw[show A.in1.handled=Pn from d];refine Ld (Pt (wpAny_throw ?_));refine Ld (UY (T:= "StopIteration") (b:=Pr) ⟨_,b0 _ rfl,rfl⟩ adu ?_);exact Pt (f _ λb o e=>br _ (br _ e))
theorem sO{slot:Nat}{Q:bg Pq->Px->Prop}(n:A.handled=Pn)(f:Uy s.heap I a (.int slot 0) i Z.size Y)(m:s.heap.get? a=Bn o)(hd:o.data=.set Z Y t)(p:t.fits Z.size=Pr)
  (d:∀{A:Ql} {E:Pq->Px->Prop} {Q:bg (Pq×Nat)->Px->Prop},Q Pn s->wpAny (model prog w) A (setNext a slot i Y) Q E s)
  (u:∀h',(∀b o,b≠I->s.heap.get? b=Bn o->h'.get? b=Bn o)->Q Pn {s with heap:=h'}):wpAny (model prog w) A (pyNext (.ref I)) Q E s:=by
 obtain⟨l,g,q,j⟩:=id f;have h:s.TypeIs (.ref I) "set_iterator":=⟨l,g,q⟩;unfold pyNext;refine Ld (TH (QG (name:=Str.ofString "__next__") h ce (QC ce h gy ?_ (hZ _))));unfold Qe.«set_iterator.__next__» slotArgs;simp only[Tf,Tj,Ri,↓reduceIte,bind_assoc,QA,bne_self_eq_false];refine Ld (Pt ?_);refine Ld (Vw g j ?_);show wpAny _ _ (setEntries a>>=_) _ _ s;refine Ld (SN m hd p ?_);rw[ax (by simp)];show wpAny _ _ (setNext a slot i Y>>=_) _ _ s;refine Ld (d ?_);show wpAny _ _ (setField (.ref I) 2 .none>>=_) _ _ s;refine Ld (Se g j (by simp) ?_);exact AI n λh' k=>u h' λb o r e=>k b o ((b3 _ _ (da r)).trans e)
theorem Kl{tp:Pz}{ps:Array Pq}{k:Nat}{q:Tok}{x:Pq}{hx:Int}{Q:bg Pq->Px->Prop}(f:Uy s.heap I a (.ref tp) i Z.size Y)(j:s.heap.get? a=Bn o)(hd:o.data=.set Z Y t)(l:t.fits Z.size=Pr)
  (d:s.heap.IsTuple tp ps) (u:ps[i]?=Bn (.int (k:Nat) q)) (B:Z[k]?=Bn (hx,x))
  (y:∀h',Uy h' I a (.ref tp) (i+1) Z.size Y->Heap.SameBut I s.heap h'->Q (Bn x) {s with heap:=h'}):wpAny (model prog w) A (pyNext (.ref I)) Q E s:=by
 obtain⟨r,b,m,h⟩:=id f;obtain⟨C,e,v,F,g⟩:=d;have n:s.TypeIs (.ref I) "set_iterator":=⟨r,b,m⟩;unfold pyNext;refine Ld (TH (QG (name:=Str.ofString "__next__") n ce (QC ce n gy ?_ (hZ _))));unfold Qe.«set_iterator.__next__» slotArgs;simp only[Tf,Tj,Ri,↓reduceIte,bind_assoc,QA,bne_self_eq_false];refine Ld (Pt ?_);refine Ld (Vw b h ?_);show wpAny _ _ (setEntries a>>=_) _ _ s;refine Ld (SN j hd l ?_);rw[ax (by simp)];show wpAny _ _ (seqItems? (.ref tp)>>=_) _ _ s;refine Ld ?_;unfold seqItems?;refine Ld (U9 e ?_);rw[g];refine Pt ?_;dsimp only;rw[show((i:Int).toNat)=i from rfl,u];show wpAny _ _ (setNextDrawn a k Y>>=_) _ _ s;refine Ld ?_;unfold setNextDrawn;refine Ld (Sv j hd l ?_);dsimp only;rw[ax (by simp),B];refine Pt ?_;refine Ld (Se b h (by simp) ?_);have p:=cn h (·.setIfInBounds 1 (rawInt ((i:Int)+1)));have z:=b5 (Obj.mapFields (·.setIfInBounds 1 (rawInt ((i:Int)+1)))) b (cv p);refine Pt ⟨_,rfl,Pt (y _ ⟨_,z,(Obj.cls_mapFields ..).trans m,p.trans (by simp[rawInt])⟩ (Heap.SameBut.update ..))⟩
theorem zJ{tp:Pz}{ps:Array Pq}{Q:bg Pq->Px->Prop}(v:A.handled=Pn)(h:Uy s.heap I a (.ref tp) i Z.size Y)(r:s.heap.get? a=Bn o)(hd:o.data=.set Z Y t)(y:t.fits Z.size=Pr)
  (f:s.heap.IsTuple tp ps) (u:ps[i]?=Pn)
  (C:∀h',(∀b o,b≠I->s.heap.get? b=Bn o->h'.get? b=Bn o)->Q Pn {s with heap:=h'}):wpAny (model prog w) A (pyNext (.ref I)) Q E s:=by
 obtain⟨q,d,B,l⟩:=id h;obtain⟨G,g,z,H,j⟩:=f;have n:s.TypeIs (.ref I) "set_iterator":=⟨q,d,B⟩;unfold pyNext;refine Ld (TH (QG (name:=Str.ofString "__next__") n ce (QC ce n gy ?_ (hZ _))));unfold Qe.«set_iterator.__next__» slotArgs;simp only[Tf,Tj,Ri,↓reduceIte,bind_assoc,QA,bne_self_eq_false];refine Ld (Pt ?_);refine Ld (Vw d l ?_);show wpAny _ _ (setEntries a>>=_) _ _ s;refine Ld (SN r hd y ?_);rw[ax (by simp)];show wpAny _ _ (seqItems? (.ref tp)>>=_) _ _ s;refine Ld ?_;unfold seqItems?;refine Ld (U9 g ?_);rw[j];refine Pt ?_;dsimp only;rw[show((i:Int).toNat)=i from rfl,u];show wpAny _ _ (setField (.ref I) 0 (rawInt 0)>>=_) _ _ s;refine Ld (Se d l (by simp) ?_);have p:=cn l (·.setIfInBounds 0 (rawInt 0));have F:=b5 (Obj.mapFields (·.setIfInBounds 0 (rawInt 0))) d (cv p);refine Ld (Se F p (by simp) ?_);exact AI v λh' k=>C h' λb o m e=>k b o ((b3 _ _ (da m)).trans ((b3 _ _ (da m)).trans e))
end
theorem rR{α:Type}{l:bb α}{i:Nat}(h:i<l.length):QW (l[i]::l.eraseIdx i) l:=by
 rw[List.eraseIdx_eq_take_drop_succ];have e:l.take i++l[i]::l.drop (i+1)=l:=by rw[<-RL h,Tc]
 exact(List.perm_middle.symm).trans (.of_eq e)
def oB(w:Qt):Bool:=w.params.followText "set-order"
section
variable{prog:Qc}{w:Qt}{A:Ql}{E:Pq->Px->Prop}{s:Px}
theorem yW{a:Source}{n:Nat}{Q:Nat->Px->Prop}(h:n≠0)(b:∀i d,i<n->Q i {s with drawn:=d}):wpAny (model prog w) A (choose a n) Q E s:=λe p _=>by show Sem.wp _ _ (.choose a n .pure) _ _ _ _;rw[Sem.wp_choose];refine⟨h,?_⟩;rw[Sem.wp_pure];exact b _ _ (adv _ (Nat.pos_of_ne_zero h))
theorem w9{α:Type}:∀(n:Nat) (xs:bb α) (s:Px) {Q:bb α->Px->Prop},xs.length=n->(∀ys d,QW ys xs->Q ys {s with drawn:=d})->wpAny (model prog w) A (drawOrder n xs) Q E s
 |0,xs,s,Q,hl,h=>by obtain rfl:=Xh.mp hl;unfold drawOrder;exact Pt (h [] s.drawn .rfl)
 |n+1,[],s,Q,hl,h=>nomatch hl
 |n+1,x::r,s,Q,hl,h=>by unfold drawOrder;refine Ld (yW (by rw[hl];ext) λi d hi=>?_);have e:(x::r)[i]?=Bn (x::r)[i]:=PM hi;rw[e];refine Ld (w9 n _ _ (by rw[Wt hi,hl];rfl) λys b a=>Pt (h _ b ((a.cons _).trans ?_)));exact rR hi
end
theorem ut{α:Type}(next:Nat->Nat):∀(n k:Nat) (l:bb α) (out:Array α),l.length=n->QW (pickOrder.go next n k l out).toList (out.toList++l)
 |0,k,l,out,hl=>by obtain rfl:=Xh.mp hl;rw[Qh];exact .rfl
 |n+1,k,l,out,hl=>by
  have hi:next k % l.length<l.length:=adv _ (by ext)
  unfold pickOrder.go;rw[PM hi];dsimp only;refine(ut next n (k+1) _ _ (by rw[Wt hi,hl];rfl)).trans ?_;rw[Yy,QS];exact agx _ (rR hi)
theorem mW:Slot "set_iterator" "__iter__" "set_iterator.__iter__":=
 .of (owner:= "set_iterator") (n:= "__iter__") (by rw[Vc,Tt];kernel_rfl) (by left) (by left) (by left)
  (by first|exact .inl (by left)|exact .inr (by left)) (by rw[Vt];kernel_rfl)
theorem tm:entryFor table "set_iterator.__iter__"=Bn Qe.«dict_keyiterator.__iter__»:=
 entryFor_alias (id':= "dict_keyiterator.__iter__") (by kernel_rfl) (by first|rfl|left|(unfold String.splitOn;simp+decide [String.splitOnAux])) (by left) (by kernel_rfl)
theorem u6(a:Pq):argsOk "set_iterator.__iter__" ⟨[a],[]⟩:=by unfold argsOk;kernel_rfl
section
variable{prog:Qc}{w:Qt}{A:Ql}{E:Pq->Px->Prop}{s:Px}{I a:Pz}{o:Obj}{Z:Array (Int×Pq)}{Y i:Nat}{t:SetTable}
theorem Uy.at{h h':Heap}{f:Pq}{n:Nat}(x:Uy h I a f i n Y)(e:∀o,h.get? I=Bn o->h'.get? I=Bn o):Uy h' I a f i n Y:=let⟨o,ho,r⟩:=x;⟨o,e _ ho,r⟩
theorem r8(d:bb Pq)(ex:bb Pz)(M:Nat->Pq->Heap->Prop)(L:a≠I)(hx:I∉ex){n:Nat}
  (y:∀i f h h',M i f h->(∀b∈ex,∀o,h.get? b=Bn o->h'.get? b=Bn o)->M i f h')
  (G:∀(i:Nat) f x (s:Px) (E:Pq->Px->Prop) (Q:bg Pq->Px->Prop),d[i]?=Bn x->Uy s.heap I a f i n Y->s.heap.get? a=Bn o->M i f s.heap->(∀h' f',Uy h' I a f' (i+1) n Y->Heap.SameBut I s.heap h'->M (i+1) f' s.heap->Q (Bn x) {s with heap:=h'})->wpAny (model prog w) A (pyNext (.ref I)) Q E s)
  (K:∀f (s:Px) (E:Pq->Px->Prop) (Q:bg Pq->Px->Prop),Uy s.heap I a f d.length n Y->s.heap.get? a=Bn o->M d.length f s.heap->(∀h',(∀b o,b≠I->s.heap.get? b=Bn o->h'.get? b=Bn o)->Q Pn {s with heap:=h'})->wpAny (model prog w) A (pyNext (.ref I)) Q E s):
  Walks prog w A I (I::a::ex) [I] d.length (λi v=>d[i]?=Bn v) (λi h=>∃f,Uy h I a f i n Y/\h.get? a=Bn o/\M i f h) where
 sub:=λb g=>by rw[PL.mp g];exact PH
 frame:=λi h h' ⟨f,p,j,m⟩ r=>⟨f,p.at λo e=>r I PH o e,r a (PD _ PH) o j,y i f h h' m λb g o e=>r b (PD _ (PD _ g)) o e⟩
 item:=λi s Q E hi ⟨f,p,j,m⟩ l=>by
  have e:=PM hi;refine G i f _ s E Q e p j m λh' f' F q C=>l _ h' s.toks e ⟨f',F,?_,y _ _ _ _ C λb g o e=>?_⟩ λb o g e=>?_
  .rw[q.2 a L];exact j
  .rw[q.2 b λz=>hx (z▸g)];exact e
  .rw[q.2 b λz=>g (by rw[z];exact PH)];exact e
 done:=λs Q E ⟨f,p,j,m⟩ l=>K f s E Q p j m λh' k=>l h' s.toks λb o g e=>k b o (λz=>g (by rw[z];exact PH)) e
 self:=λi s Q E ⟨f,⟨B,J,H,N⟩,_⟩ l=>by have u:s.TypeIs (.ref I) "set_iterator":=⟨B,J,H⟩;refine aaZ u mW (QC mW u tm ?_ (u6 _));show wpAny _ _ (ret (.ref I)) _ _ s;exact Pt ⟨_,rfl,"set_iterator",_,u,ce.lookup,l⟩
theorem tH(b:s.heap.get? a=Bn o)(hd:o.data=.set Z Y t)(d:t.fits Z.size=Pr)(f:oB w=Pr){slot:Nat}{Q:bg (Pq×Nat)->Px->Prop}(h:Q (((pickOrder (w.params.setOrder a Y) Z)[i]?).map λe=>(e.2,slot)) s):wpAny (model prog w) A (setNext a slot i Y) Q E s:=by unfold setNext;refine Ld (Sv b hd d ?_);dsimp only;unfold setsByText;refine Ld (Ld (SI (Pt ?_)));show wpAny _ _ (if oB w=Pr then _ else _) _ _ _;rw[av f,ax (by simp)];refine Ld ?_;unfold setWalk;refine Ld (Sv b hd d ?_);dsimp only;unfold setsByText;refine Ld (Ld (SI (Pt ?_)));show wpAny _ _ (if oB w=Pr then _ else _) _ _ _;rw[av f];refine Ld (SI (Pt ?_));exact Pt h
theorem rV(d:s.heap.get? a=Bn o)(hd:o.data=.set Z Y t)(f:t.fits Z.size=Pr)(g:oB w=Py)(e:t.led=Pr)(b:(!t.plain&&decide (Z.size>1))=Py){slot:Nat}{Q:bg (Pq×Nat)->Px->Prop}(h:Q (match Z[below t.place slot]?,t.place[below t.place slot]? with|some (_,x),Bn j=>Bn (x,j+1)|_,_=>Pn) s):wpAny (model prog w) A (setNext a slot i Y) Q E s:=by
 unfold setNext;refine Ld (Sv d hd f ?_);dsimp only;unfold setsByText;refine Ld (Ld (SI (Pt ?_)));show wpAny _ _ (if oB w=Pr then _ else _) _ _ _;rw[ax (by rw[g];exact P7)];refine S0 (λz=>a5 (b.symm.trans z) P7) λ_=>?_;refine Ld ?_;refine S0 (λz=>?_) λ_=>Pt ?_
 .rw[e]at z;cases z
 .exact Pt h
theorem E7(b:s.heap.get? a=Bn o)(g:o.ExactSet)(hd:o.data=.set Z Y t)(e:t.fits Z.size=Pr){Q:Pq->Px->Prop}
  (h1:(oB w=Py->(!t.plain&&decide (Z.size>1))=Py)->Q (.ref s.heap.objs.size) {s with heap:=s.heap.push {cls:=.type "set_iterator",data:=.fields #[.int 0 0,.int 0 0,.ref a,.int Z.size 0,.int Y 0]}})
  (l:∀ks d,QW ks (P0 Z.size)->Q (.ref (s.heap.objs.size+1)) {s with drawn:=d,heap:=(s.heap.push {cls:=.type "tuple",data:=.seq (ks.map λi:Nat=>rawInt i).toArray}).push {cls:=.type "set_iterator",data:=.fields #[.ref s.heap.objs.size,.int 0 0,.ref a,.int Z.size 0,.int Y 0]}}) (hz:Z.size<=PZ):
  wpAny (model prog w) A (pyIter (.ref a)) Q E s:=by
 have j:s.TypeIs (.ref a) "set":=⟨o,b,g.1⟩;refine aaZ j F.slot_set_iter (QC F.slot_set_iter j qY ?_ (F.args_set_iter_1 _));unfold Qe.«frozenset.__iter__» Qe.Frozenset.slot0 slotArgs;simp only[Tf,Tj,Ri,↓reduceIte,bind_assoc,QA,bne_self_eq_false];unfold Qe.Frozenset.addrOf Qe.Frozenset.sizeOf;refine Ld (Pt ?_)
 try dsimp only
 refine Ld (Pt ?_);simp only[bind_assoc];refine Ld (SN b hd e ?_);refine Ld (Pt ?_);refine Ld ?_;unfold setDrawn;refine Ld (Sv b hd e ?_);dsimp only;unfold setsByText;refine Ld (Ld (SI (Pt (Pt ?_))));show wpAny _ _ (if(!oB w&&(!t.plain&&decide (Z.size>1)))=Pr then _ else _) _ _ _;refine S0 (λ_=>?_) λz=>?_
 .refine Ld (w9 _ _ _ Qi λks d h=>?_);refine Ld (adt ?_ (by rw[Pp,h.length_eq,Qi];exact hz));have f:((s.heap.push {cls:=.type "tuple",data:=.seq (ks.map λi:Nat=>rawInt i).toArray}).get? a)=Bn o:=br _ b;refine Ld (aa0 f hd e ?_);unfold newFields;refine Ld (QE (Pt ⟨_,rfl,"set_iterator",_,⟨_,b0 _ rfl,rfl⟩,ce.lookup,?_⟩));have:=l ks d h;rw[b7];exact this
 .refine Ld (Pt ?_);refine Ld (aa0 b hd e ?_);unfold newFields;refine Ld (QE (Pt ⟨_,rfl,"set_iterator",_,⟨_,b0 _ rfl,rfl⟩,ce.lookup,?_⟩));exact h1 λq=>by rw[q,ZH,Uh]at z;exact VI.mpr z
end
section
variable{prog:Qc}{w:Qt}{A:Ql}{E:Pq->Px->Prop}{s:Px}{I a:Pz}{o:Obj}{Z:Array (Int×Pq)}{Y i:Nat}{t:SetTable}
theorem Fk(d:s.TypeIs (.ref a) "set"){Q:Bool->Px->Prop}(h:Q Py s):wpAny (model prog w) A (Qe.List.listLengthHint (.ref a)) Q E s:=by
 unfold Qe.List.listLengthHint;refine Ld (acB d PySem.F.slot_set_len.lookup ?_);generalize hid:("set.__len__":String)=id0
 wp_delta
 rw[show splitId id0=Bn ("set","__len__")from by subst hid;left];subst hid;refine Ld (UY (T:= "set") (b:=Pr) d (by rw[Vt];kernel_rfl) ?_);refine S0 (λz=>a5 z (by decide)) (λ_=>?_);refine S0 (λ_=>?_) (λz=>a5 (by left) z);refine Ld (Ti d ?_);exact Pt h
theorem Co(ne:a≠I)(u:A.handled=Pn)(hd:o.data=.set Z Y t)(g:t.fits Z.size=Pr)(n:oB w=Pr):
  Walks prog w A I (I::a::[]) [I] ((pickOrder (w.params.setOrder a Y) Z).toList.map (·.2)).length (λi v=>((pickOrder (w.params.setOrder a Y) Z).toList.map (·.2))[i]?=Bn v) (λi h=>∃f,Uy h I a f i Z.size Y/\h.get? a=Bn o/\f=.int 0 0):=
 r8 _ [] (λ_ f _=>f=.int 0 0) ne (λh=>nomatch h) (λ_ _ _ _ h _=>h) (λi f x s E Q b m d l j=>by
  subst l;refine Ee (slot:=0) (nx:=0) (x:=x) m d hd g (λ{A E Q} q=>tH d hd g n ?_) λy r p=>j y _ r p rfl;rw[PU,QD]at b;cases z:(pickOrder (w.params.setOrder a Y) Z)[i]? with
  |none=>rw[z]at b;cases b
  |some e=>rw[z]at b;cases b;exact q) (λf s E Q m d l j=>by
  subst l;refine sO (slot:=0) u m d hd g (λ{A E Q} q=>tH d hd g n ?_) j;rw[Ux (by rw[Pp,Qf];exact PF _)];exact q)
def sR(t:SetTable):Nat->Nat
 |0=>0
 |i+1=>t.place.getD i 0+1
theorem x4(h:GA t.place)(hi:i<=t.place.size):below t.place (sR t i)=i:=by
 obtain⟨p,d,f⟩:=x9 h (sR t i);generalize below t.place (sR t i)=k at p d f;have mono:∀(j k v w:Nat),t.place[j]?=Bn v->t.place[k]?=Bn w->j<k->v<w:=λj k v w g b n=>by rw[<-QD]at g b;obtain⟨m,rfl⟩:=Pu.mp g;obtain⟨l,rfl⟩:=Pu.mp b;exact T5.mp h j k m l n
 match i,hi with
 |0,hi=>
  rcases Nat.eq_zero_or_pos k with z|z
  .exact z
  .have e:=QB (show 0<t.place.size by ext);exact a5 (d 0 _ e z) (ZG _)
 |i+1,hi=>
  have e:=QB (show i<t.place.size by ext);have sl:sR t (i+1)=t.place[i]+1:=by show t.place.getD i 0+1=_;rw[Tw,e];rfl
  rw[sl]at d f;rcases Nat.lt_trichotomy k (i+1)with z|z|z
  .have:=f i _ e (by ext);ext
  .exact z
  .have b:=QB (show i+1<t.place.size by ext);have r:=d (i+1) _ b z;have q:=mono i (i+1) _ _ e b (by ext);ext
theorem Be(b:t.fits Z.size=Pr):t.place.size=Z.size:=by unfold SetTable.fits at b;simp only[P2,beq_iff_eq]at b;exact b.1
theorem zy(ne:a≠I)(C:A.handled=Pn)(hd:o.data=.set Z Y t)(b:t.fits Z.size=Pr)(r:oB w=Py)(l:TI Pr t)(g:(!t.plain&&decide (Z.size>1))=Py):
  Walks prog w A I (I::a::[]) [I] (Z.toList.map (·.2)).length (λi v=>(Z.toList.map (·.2))[i]?=Bn v) (λi h=>∃f,Uy h I a f i Z.size Y/\h.get? a=Bn o/\f=.int (sR t i) 0):=
 r8 _ [] (λi f _=>f=.int (sR t i) 0) ne (λh=>nomatch h) (λ_ _ _ _ h _=>h) (λi f x s E Q d p j n m=>by
  subst n;have sz:=Be b;rw[PU,QD]at d;cases z:Z[i]? with
  |none=>rw[z]at d;cases d
  |some e=>
   rw[z]at d;cases d;have G:=(Wh.mp z).1;have u:=QB (show i<t.place.size by ext);refine Ee (slot:=sR t i) (nx:=sR t (i+1)) (x:=e.2) p j hd b (λ{A E Q} q=>rV j hd b r l.led g ?_) λF B y=>m F _ B y rfl;rw[x4 l.ris (by ext),z,u];have:sR t (i+1)=t.place[i]+1:=by show t.place.getD i 0+1=_;rw[Tw,u];rfl
   rw[this]at q;exact q) (λf s E Q p j n m=>by
  subst n;have sz:=Be b;refine sO (slot:=sR t (Z.toList.map (·.2)).length) C p j hd b (λ{A E Q} q=>rV j hd b r l.led g ?_) m;rw[Pp,Qf,x4 l.ris (by ext),Ux (PF _)];exact q)
theorem zx{ks:bb Nat}{tp:Pz}(ne:a≠I)(r:I≠tp)(H:A.handled=Pn)(hd:o.data=.set Z Y t)(p:t.fits Z.size=Pr)(F:QW ks (P0 Z.size)):
  Walks prog w A I (I::a::[tp]) [I] (ks.filterMap λk=>(Z[k]?).map (·.2)).length (λi v=>(ks.filterMap λk=>(Z[k]?).map (·.2))[i]?=Bn v) (λi h=>∃f,Uy h I a f i Z.size Y/\h.get? a=Bn o/\f=.ref tp/\h.IsTuple tp (ks.map λi:Nat=>rawInt i).toArray):=by
 have n:∀k∈ks,k<Z.size:=λk G=>Rn.mp (F.mem_iff.mp G);have q:ks.filterMap (λk=>(Z[k]?).map (·.2))=ks.map λk=>((Z[k]?).map (·.2)).getD .none:=by
  have:∀l:bb Nat,(∀k∈l,k<Z.size)->l.filterMap (λk=>(Z[k]?).map (·.2))=l.map λk=>((Z[k]?).map (·.2)).getD .none:=λl=>by
   induction l with
   |nil=>exact λ_=>rfl
   |cons k l C=>intro h;rw[Tu,QB (h k PH),PY,C λx hx=>h x (PD _ hx),QB (h k PH)];rfl
  exact this ks n
 refine r8 _ [tp] (λi f h=>f=.ref tp/\h.IsTuple tp (ks.map λi:Nat=>rawInt i).toArray) ne (λh=>r (PL.mp h)) (λ_ _ _ _ h k=>⟨h.1,h.2.at λo e=>k tp PH o e⟩) (λi f x s E Q hx m j g d=>?_) (λf s E Q m j g d=>?_)
 .obtain⟨rfl,b⟩:=g
  rw[q,PU]at hx;cases z:ks[i]? with
  |none=>rw[z]at hx;cases hx
  |some k=>rw[z]at hx;have u:=n k (Qs z);have e:=QB u;have hx:Bn (((Z[k]?).map (·.2)).getD .none)=Bn x:=hx;rw[e]at hx;cases hx;exact Kl (ps:=(ks.map λi:Nat=>rawInt i).toArray) (k:=k) (hx:=Z[k].1) (x:=Z[k].2) m j hd p b (by rw[UU,PU,z];rfl) e λJ B y=>d J _ B y ⟨rfl,b⟩
 .obtain⟨rfl,b⟩:=g;exact zJ (ps:=(ks.map λi:Nat=>rawInt i).toArray) H m j hd p b (by rw[q,Pp,UU,UW (by rw[Pp];exact PF _)]) d
theorem Cy{Q:Pq->Px->Prop}(p:A.handled=Pn)(j:s.heap.get? a=Bn o)(r:o.ExactSet)(hd:o.data=.set Z Y t)(m:t.fits Z.size=Pr)(y:TI (!oB w) t)(hz:Z.size<=PZ)
  (h:∀(I:Pz) (h':Heap) (d:Xw) (fp:bb Pz) (g:bb Pq) (St:Nat->Heap->Prop),s.heap.objs.size<=I->(∀b∈fp,b=a\/s.heap.objs.size<=b)->Walks prog w A I fp [I] g.length (λi v=>g[i]?=Bn v) St->St 0 h'->(∀b o,s.heap.get? b=Bn o->h'.get? b=Bn o)->QW g (Z.toList.map (·.2))->Q (.ref I) {s with heap:=h',drawn:=d}):
  wpAny (model prog w) A (pyIter (.ref a)) Q E s:=by
 have u:=bP j;refine E7 j r hd m (λq=>?_) (λn d z=>?_) hz
 .have B:∀b∈s.heap.objs.size::a::[],b=a\/s.heap.objs.size<=b:=λb f=>by
   rcases P1.mp f with rfl|f
   .exact .inr (PF _)
   .exact .inl (PL.mp f)
  have l:Uy (s.heap.push {cls:=.type "set_iterator",data:=.fields #[.int 0 0,.int 0 0,.ref a,.int Z.size 0,.int Y 0]}) s.heap.objs.size a (.int 0 0) 0 Z.size Y:=⟨_,b0 _ rfl,rfl,rfl⟩;cases f:oB w with
  |true=>refine h s.heap.objs.size _ s.drawn _ _ _ (PF _) B (Co (P5 u) p hd m f) ⟨_,l,br _ j,rfl⟩ (λb o e=>br _ e) ?_;have:=ut (w.params.setOrder a Y) Z.size 0 Z.toList #[] Qf;exact this.map _
  |false=>rw[f]at y;exact h s.heap.objs.size _ s.drawn _ _ _ (PF _) B (zy (P5 u) p hd m f y (q f)) ⟨_,l,br _ j,rfl⟩ (λb o e=>br _ e) .rfl
 .have l:Uy ((s.heap.push {cls:=.type "tuple",data:=.seq (n.map λi:Nat=>rawInt i).toArray}).push {cls:=.type "set_iterator",data:=.fields #[.ref s.heap.objs.size,.int 0 0,.ref a,.int Z.size 0,.int Y 0]}) (s.heap.objs.size+1) a (.ref s.heap.objs.size) 0 Z.size Y:=by
   have this:((s.heap.push {cls:=.type "tuple",data:=.seq (n.map λi:Nat=>rawInt i).toArray}).push {cls:=.type "set_iterator",data:=.fields #[.ref s.heap.objs.size,.int 0 0,.ref a,.int Z.size 0,.int Y 0]}).get? (s.heap.push {cls:=.type "tuple",data:=.seq (n.map λi:Nat=>rawInt i).toArray}).objs.size=Bn {cls:=.type "set_iterator",data:=.fields #[.ref s.heap.objs.size,.int 0 0,.ref a,.int Z.size 0,.int Y 0]}:=b0 _ rfl;rw[b7]at this;exact⟨_,this,rfl,rfl⟩
  refine h (s.heap.objs.size+1) _ d ((s.heap.objs.size+1)::a::[s.heap.objs.size]) _ _ (Rp _) (λb f=>?_) (zx (tp:=s.heap.objs.size) (P5 (RT u)) (Zf _) p hd m z) ⟨_,l,br _ (br _ j),rfl,⟨_,br _ (b0 _ rfl),rfl,_,rfl⟩⟩ (λb o e=>br _ (br _ e)) ?_
  .rcases P1.mp f with rfl|f
   .exact .inr (Rp _)
   .rcases P1.mp f with rfl|f
    .exact .inl rfl
    .rw[PL.mp f];exact .inr (PF _)
  .refine(z.filterMap λk=>(Z[k]?).map (·.2)).trans (.of_eq ?_);rw[<-filterMap_getElem?_range Z,TV]
theorem o0{Q:bb Pq->Px->Prop}(hh:A.handled=Pn)(R:s.heap.get? a=Bn o)(m:o.ExactSet)(hd:o.data=.set Z Y t)(hf:t.fits Z.size=Pr)(T:TI (!oB w) t)(hz:Z.size<scanBound)
  (hQ:∀h' d tk acc,(∀b o,s.heap.get? b=Bn o->h'.get? b=Bn o)->QW acc (Z.toList.map (·.2))->Q acc {s with heap:=h',drawn:=d,toks:=tk}):wpAny (model prog w) A (collect (.ref a)) Q E s:=by
 have u:=Wi hz;have S:=bP R;unfold collect;refine Ld (XA (Q2 F.entry_proto_collect ?_));rw[Ql.under_plainId F.plain_proto_collect _];show wpAny _ A.in1 (newList []>>=λl=>again (.builtin "list.__iadd__" ⟨[l,.ref a],[]⟩)) _ _ s;refine Ld (QE ?_);refine Pt ⟨Rb F.plain_list_iadd _,Q2 F.entry_list_iadd ?_⟩;rw[Ql.under_plainId F.plain_list_iadd _];show wpAny _ A.in1 (Qe.List.listExtendWith (.ref s.heap.objs.size) (.ref a) (.ref s.heap.objs.size)) _ _ _;have K:(s.heap.push {cls:=.type "list",data:=.seq ([]:bb Pq).toArray}).get? s.heap.objs.size=Bn {cls:=.type "list",data:=.seq ([]:bb Pq).toArray}:=b0 _ rfl;have h:(s.heap.push {cls:=.type "list",data:=.seq ([]:bb Pq).toArray}).get? a=Bn o:=br _ R;unfold Qe.List.listExtendWith;have hT:Px.TypeIs {s with heap:=s.heap.push {cls:=.type "list",data:=.seq ([]:bb Pq).toArray}} (.ref a) "set":=⟨o,h,m.1⟩;refine Ld (Ti hT ?_);have n:Qe.List.listSameRef (.ref s.heap.objs.size) (.ref a)=Py:=by simp[Qe.List.listSameRef,Q0 S]
 rw[ax (by rw[n];decide)];refine Ld (Cy (show A.in1.handled=Pn from hh) h m hd hf T u λI h' d fp f St O N W st H P=>?_);rw[b7]at O N;have y:s.heap.objs.size∉fp:=λz=>by
  rcases N _ z with q|q
  .exact a5 q (Q0 S)
  .exact Nat.not_succ_le_self _ q
 have hSI:s.heap.objs.size≠I:=by ext
 have U:f.length<=PZ:=by rw[P.length_eq,Pp,Qf];exact u
 have p:∀(n:Heap) (c:Nat),(∀b o,b≠s.heap.objs.size->h'.get? b=Bn o->n.get? b=Bn o)->n.get? s.heap.objs.size=Bn {cls:=.type "list",data:=.seq #[] c}->codeAny (model prog w) A (.builtin "list.extend.loop" ⟨[.ref s.heap.objs.size,.ref I,.ref s.heap.objs.size],[]⟩) (λr G=>match r with
   |.ok (.ret v)=>wpAny (model prog w) A (match v with|.ref a=>(do match(<-load a).data with|.seq xs _=>pure xs.toList|_=>unsupported "internal:collect")|_=>unsupported "internal:collect") Q E G
   |.ok _=>False
   |.error e=>E e G) {s with heap:=n,drawn:=d}:=λn c M g=>by
  refine codeAny_extend_loopS W.toS U s.heap.objs.size y (.ref s.heap.objs.size) f.length 0 _ #[] c rfl (Qu _) (W.frame 0 _ _ st λb C o e=>M b o (λz=>y (z▸C)) e) g (aab.nil _) λG acc c' hm Yl L=>?_;rw[Moved.eq_with hm];show wpAny _ A (load s.heap.objs.size>>=_) _ _ _;refine Ld (U9 Yl ?_);refine Pt (hQ _ _ _ _ (λb o e=>?_) ?_)
  .have bl:=bP e
   refine hm.heap b o (λz=>?_) (M b o (P5 bl) (H b o (br _ e)));rcases P1.mp z with q|q
   .exact a5 q (P5 bl)
   .exact a5 (PL.mp q) (P5 (Sx bl O))
  .have:acc.toList=f:=by
    refine VJ λj=>?_;by_cases X:j<f.length
    .have e:=QB (show j<acc.size by rw[L.1];exact X);rw[QD,e,L.2 j _ e]
    .rw[UW (l:=acc.toList) (by rw[Qf,L.1];ext),UW (l:=f) (by ext)]
   rw[this];exact P
 have Zi:Px.TypeIs {s with heap:=h',drawn:=d} (.ref a) "set":=⟨o,H a o h,m.1⟩;have g:=H _ _ K;refine Ld (Q1 (Fk Zi ?_));refine S0 (λ_=>?_) (λ_=>Pt ⟨Rb F.plain_extend_loop _,p _ _ (λb o _ e=>e) g⟩);refine Ld (Sj ?_);refine Ld ?_;show wpAny _ _ (updateSeq s.heap.objs.size (·.push .none)>>=λ_=>updateSeq s.heap.objs.size (·.pop)) _ _ _;refine Ld (T3 g rfl ?_);have B:=b5 (Obj.mapSeq (·.push Pq.none)) g rfl;refine T3 (hz:=by seq_fits) B rfl ?_;have J:=b5 (Obj.mapSeq (·.pop)) B rfl;exact Pt ⟨Rb F.plain_extend_loop _,p _ _ (λb o C e=>(b3 _ _ (da C)).trans ((b3 _ _ (da C)).trans e)) J⟩
end
end PySem
namespace L10
open PySem PySem.SetTable PySem.Spec PyProof.Rows L2 L3
section
variable{prog:Qc}{w:Qt}{A:Ql}{E:Pq->Px->Prop}{s:Px}
theorem FV(a:Pq){Q₁:Pq->Px->Prop}(h:Q₁ (.ref s.heap.objs.size) {s with heap:=s.heap.push (lM (!oB w))}):codeAny (model prog w) A (.call (.builtin "set.__new__") ⟨[.type "set",a],[]⟩) (wants Q₁ E) s:=by
 refine acE ?_;show wpAny _ A.in1 (do checkBuiltinCall "set.__new__" ⟨[.type "set",a],[]⟩;again (.builtin "set.__new__" ⟨[.type "set",a],[]⟩)) _ _ s;refine Ld (UB (PySem.F.newCall_set_1 a) (Pt ⟨Rb W3 _,Q2 PySem.F.entry_set_new ?_⟩));rw[Ql.under_plainId W3 _];unfold Qe.«set.__new__» Qe.Frozenset.newClass;have b:=sub_set_self;obtain⟨i,g,d,e,f⟩:=s;dsimp only
 wp_walk
 refine SI (Pt ?_);dsimp only;simp only[newObj];refine Ld (wpAny_alloc (Pt ?_));exact Pt h
variable{K:Type}[DecidableEq K]{knd:KeyKind prog w K}
theorem GD{d:Heap}{a:Pz}{b:Bool}(h:d.get? a=Bn (lM b)):UZ knd b d a #[]:=⟨⟨_,0,_,h,⟨rfl,rfl,rfl⟩,rfl,rfl,TI.fresh b⟩,λe f=>(by cases f),by decide⟩
theorem tM{l:Pz}{a:Array Pq}{Q:Pq->Px->Prop}(Z:A.handled=Pn)(t:s.heap.IsList l a)(Y:∀v∈a.toList,v.scannable=Pr/\∃k,knd.is k v=Pr)(YD:∀k u v,knd.is k v=Pr->knd.is k u=eV v u)(hb:a.size+1<scanBound)
  (h:∀h' tk es,UZ knd (!oB w) h' s.heap.objs.size es->QW (es.toList.map (·.2)) (yA a.toList)->(∀b o,s.heap.get? b=Bn o->h'.get? b=Bn o)->Q (.ref s.heap.objs.size) {s with heap:=h',toks:=tk}):wpAny (model prog w) A (call (.type "set") [.ref l]) Q E s:=by
 obtain⟨c,tl,ahK⟩:=Rc.mro;have af9:=Rc.made;have aco:=Rc.sub;refine Xx (acE ?_);show wpAny _ _ (callAny (.type "set") _) _ _ _;refine Pt ⟨Yg.quiet_builtin _ (by left),Q2 PySem.F.entry_type_call ?_⟩;rw[Ql.under_plain (weight_type_call_type "set" [.ref l] []) rfl];have h1:=Rc.notType;have h2:=Rc.canCreate;have hct:=PySem.F.typeCall_set_1 (.ref l)
 repeat (any_goals (first|assumption|wp_step))
 refine T8 (FV (.ref l) (E:=E) (Q₁:=λobj J=>obj=.ref s.heap.objs.size/\J={s with heap:=s.heap.push (lM (!oB w))}) ⟨rfl,rfl⟩) λr J n=>?_
 match r,n with
 |.error e,n=>exact n
 |.ok (.ret obj),⟨e1,e2⟩=>
  subst e1 e2;have L:(s.heap.push (lM (!oB w))).get? s.heap.objs.size=Bn (lM (!oB w)):=b0 _ rfl;have hT:Px.TypeIs {s with heap:=s.heap.push (lM (!oB w))} (.ref s.heap.objs.size) "set":=⟨_,L,rfl⟩;have U:=Rc.init.lookup;have hbi:=Rc.init.bind (.ref s.heap.objs.size)
  repeat (any_goals (first|assumption|wp_step))
  refine T8 (Vu (R:=wants (λr O=>r=.none/\∃h' tk es,O={s with heap:=h',toks:=tk}/\UZ knd (!oB w) h' s.heap.objs.size es/\QW (es.toList.map (·.2)) (yA a.toList)/\∀b o,s.heap.get? b=Bn o->h'.get? b=Bn o) E) Rc.init.plain PySem.F.entry_set_init (check_set_init_1 hT ?_)) λf I d=>?_
  .have M:(s.heap.push (lM (!oB w))).IsList l a:=t.push _
   have N:l<s.heap.objs.size:=by obtain⟨_,e,_⟩:=t;exact bP e
   obtain⟨⟨agE,G,afq,H⟩,q,j,S,g⟩:=id t;simp only at j g;subst j g;have aif:(s.heap.push (lM (!oB w))).get? l=Bn {cls:=.type "list",dict:=G,data:=.seq a S,slots:=H}:=br _ q;have agX:=PySem.F.sub_list_set;have ahZ:=PySem.F.sub_list_frozenset;have Vg:(Pq.type "list"==Pq.type "dict")=Py:=by decide
   unfold Qe.«set.__init__» noKeywords Qe.Frozenset.updateFrom;generalize hPI:pyIter=PI
   wp_walk
   subst hPI;refine SS M ?_;refine Ld (XA ?_);have y:A.in1.in1.in1.handled=Pn:=by simp[Z]
   have C:l≠(s.heap.push (lM (!oB w))).objs.size:=by rw[b7];exact P5 (RT N)
   have B:s.heap.objs.size∉[(s.heap.push (lM (!oB w))).objs.size,l]:=λz=>by
    rw[b7]at z;rcases P1.mp z with z|z
    .exact P5 (Tg _) z
    .exact Q0 N (PL.mp z)
   refine M6 ((Walks.list y _ l C a).toS) s.heap.objs.size B a.toList (by rw[Qf]) (λi v T=>by rw[QD];exact T) Y YD hb (a.size - 0) 0 _ #[] rfl (Qu _) ⟨⟨_,b0 _ rfl,rfl,rfl⟩,M.push _⟩ (GD (br _ L)) .rfl λP Uk hm X p=>?_;obtain⟨h',g',d',Yj,m⟩:=P;have eg:g'=s.gens:=hm.gens;have ed:d'=s.drawn:=hm.drawn;have eo:m=s.os:=hm.os;subst eg ed eo;show wpAny _ _ _ _ _ _;refine Pt ?_;show wpAny _ _ (ret Pq.none) _ _ _;refine Pt ⟨rfl,h',Yj,Uk,rfl,X,p,λb o e=>?_⟩;have bl:=bP e;refine hm.heap b o (λz=>?_) (br _ (br _ e));rcases P1.mp z with z|z
   .exact P5 bl z
   .rw[b7]at z;exact P5 (RT bl) (PL.mp z)
  .match f,d with
   |.error e,d=>exact d
   |.ok (.ret r),⟨e1,h',tk,es,e2,X,p,kp⟩=>
    subst e1 e2
    repeat (any_goals (first|assumption|wp_step))
    exact h _ _ es X p kp
end
theorem Ab:∀{vs:bb Pq} {a:bb Int},IntsAre vs a->a=vs.map λv=>(match v with|.int n _=>n|_=>0)
 |_,_,.nil=>rfl
 |_,_,.cons n t r=>by rw[PY,<-Ab r]
theorem rU:∀{vs:bb Pq} {a:bb Int},IntsAre vs a->∀v∈vs,∃n t,v=.int n t
 |_,_,.nil,v,h=>nomatch h
 |_,_,.cons n t r,v,h=>by
  rcases P1.mp h with rfl|h
  .exact⟨n,t,rfl⟩
  .exact rU r v h
theorem Bf:∀{vs:bb Pq},(∀v∈vs,∃n t,v=Pq.int n t)->IntsAre vs (vs.map λv=>(match v with|.int n _=>n|_=>0))
 |[],_=>.nil
 |v::r,h=>by obtain⟨n,t,rfl⟩:=h v PH;exact .cons n t (Bf λx a=>h x (PD _ a))
theorem B6{us vs:bb Pq}{a:bb Int}(p:QW us vs)(h:IntsAre vs a):∃ks:bb Int,IntsAre us ks/\ks.Perm a:=
 ⟨_,Bf λv b=>rU h v (p.mem_iff.mp b),by rw[Ab h];exact p.map _⟩
theorem Cc{us vs:bb Pq}{ss:bb Str}(p:QW us vs)(h:StrsAre vs ss):∃ks:bb Str,StrsAre us ks/\ks.Perm ss:=
 ⟨_,strsAre_map us λv a=>h.all v (p.mem_iff.mp a),by rw[<-h.strs];exact p.map _⟩
section
variable{prog:Qc}{w:Qt}{A:Ql}{E:Pq->Px->Prop}{s:Px}
theorem xi{a:Pz}{o:Obj}{j:Array (Int×Pq)}{L:Nat}{t:SetTable}{n:bb Int}{us:bb Pq}{Q:Pq->Px->Prop}(H:A.handled=Pn)(F:s.heap.get? a=Bn o)(r:o.ExactSet)(hd:o.data=.set j L t)(I:t.fits j.size=Pr)(C:TI (!oB w) t)(hz:j.size<scanBound)(y:QW (j.toList.map (·.2)) us)(K:IntsAre us n)(P:us.length<64)
  (h:∀(h1 h':Heap) (d:Xw) (l:Nat) (out:Array Pq) (e:Nat) (g:bb Int),(∀b o,s.heap.get? b=Bn o->h1.get? b=Bn o)->h'.get? h1.objs.size=Bn (seqObj "list" out e)->(∀b o,h1.get? b=Bn o->h'.get? b=Bn o)->IntsAre out.toList g->g.Perm n->g.Pairwise (·<=·)->Q (.ref h1.objs.size) {s with heap:=h',drawn:=d,toks:=l}):
  wpAny (model prog w) A (call (.builtin "sorted") [.ref a]) Q E s:=by
 refine Calls.call_function_entry kind_sorted plain_sorted entry_sorted (args_sorted1 _) (Ld (m:=checkCount "sorted" 1 1 _) (Pt (Ld (o0 (show A.in1.handled=Pn from H) F r hd I C hz λh1 d l f G B=>Ld (VY ?_ (by rw[(B.trans y).length_eq,S5];ext))))));have i:=B.trans y;obtain⟨p,v,q⟩:∃p:bb Int,IntsAre f p/\p.Perm n:=B6 i K;have u:(h1.push (seqObj "list" f.toArray 0)).get? h1.objs.size=Bn (seqObj "list" f.toArray 0):=b0 _ rfl;refine Ld (Q1 (QC slot_list_sort ⟨_,u,rfl⟩ entry_list_sort (list_sort_tree u v (by rw[i.length_eq];exact P) λout g O N M=>⟨_,rfl,Pt ⟨_,rfl,?_⟩⟩) (args_list_sort _)));obtain⟨e,J⟩:=jB (out:=out) u;exact h h1 _ d l out e g G J (λb R z=>iM (P5 (bP z)) (br _ z)) O (N.trans q) M
theorem wZ{a:Pz}{o:Obj}{l:Array (Int×Pq)}{P:Nat}{t:SetTable}{ss:bb Str}{us:bb Pq}{Q:Pq->Px->Prop}(L:A.handled=Pn)(J:s.heap.get? a=Bn o)(r:o.ExactSet)(hd:o.data=.set l P t)(M:t.fits l.size=Pr)(G:TI (!oB w) t)(hz:l.size<scanBound)(C:QW (l.toList.map (·.2)) us)(O:StrsAre us ss)(X:us.length<64)
  (h:∀(h1 h':Heap) (d:Xw) (n:Nat) (out:Array Pq) (e:Nat) (i:bb Str),(∀b o,s.heap.get? b=Bn o->h1.get? b=Bn o)->h'.get? h1.objs.size=Bn (seqObj "list" out e)->(∀b o,h1.get? b=Bn o->h'.get? b=Bn o)->StrsAre out.toList i->i.Perm ss->sortedS i=Pr->Q (.ref h1.objs.size) {s with heap:=h',drawn:=d,toks:=n}):
  wpAny (model prog w) A (call (.builtin "sorted") [.ref a]) Q E s:=by
 refine Calls.call_function_entry kind_sorted plain_sorted entry_sorted (args_sorted1 _) (Ld (m:=checkCount "sorted" 1 1 _) (Pt (Ld (o0 (show A.in1.handled=Pn from L) J r hd M G hz λh1 d n g K F=>Ld (VY ?_ (by rw[(F.trans C).length_eq,S5];ext))))));have j:=F.trans C;obtain⟨p,f,q⟩:∃p:bb Str,StrsAre g p/\p.Perm ss:=Cc j O;have u:(h1.push (seqObj "list" g.toArray 0)).get? h1.objs.size=Bn (seqObj "list" g.toArray 0):=b0 _ rfl;refine Ld (Q1 (QC slot_list_sort ⟨_,u,rfl⟩ entry_list_sort (list_sort_treeK strKind_oneLt u f.keysOf (λy v B e=>keyKind_strs (by rw[<-e];exact f)) (by rw[j.length_eq];exact X) λU I H=>⟨_,rfl,Pt ⟨_,rfl,?_⟩⟩) (args_list_sort _)));obtain⟨i,T,S,R⟩:=sorted_out_str f I H;obtain⟨e,N⟩:=jB (out:=(arrOf U).map (·.2)) u;exact h h1 _ d n _ e i K N (λb Y z=>iM (P5 (bP z)) (br _ z)) T (S.trans q) R
end
def Db(x y:Str):Prop:=x.cps.toList<=y.cps.toList
theorem vZ{x y:Str}:ltCps y.cps.toList x.cps.toList=Py↔Db x y:=by rw[ltCps_eq,decide_eq_false_iff_not];exact Iff.rfl
theorem uu{x y z:Str}(h1:Db x y)(a:Db y z):Db x z:=List.le_trans h1 a
theorem DK{x y:Str}(h1:Db x y)(a:Db y x):x=y:=by have:=List.le_antisymm h1 a;cases x;cases y;congr 1;exact abD this
theorem wS:∀{p:Str} {l:bb Str},risingS p l=Pr->(p::l).Pairwise Db
 |p,[],_=>QX _ _
 |p,x::r,h=>by
  have h:(!ltCps x.cps.toList p.cps.toList&&risingS x r)=Pr:=h;rw[P2,Bool.not_eq_true']at h;have i:=wS h.2;refine QZ.mpr ⟨λy a=>?_,i⟩;rcases P1.mp a with rfl|a
  .exact vZ.mp h.1
  .exact uu (vZ.mp h.1) ((QZ.mp i).1 y a)
theorem yt:∀{l:bb Str},sortedS l=Pr->l.Pairwise Db
 |[],_=>R9
 |_::_,h=>wS h
def CZ(x:Str):bb Str->bb Str
 |[]=>[x]
 |y::r=>if ltCps y.cps.toList x.cps.toList=Pr then y::CZ x r else x::y::r
def dZ:bb Str->bb Str
 |[]=>[]
 |x::r=>CZ x (dZ r)
theorem og(x:Str):∀l,(CZ x l).Perm (x::l)
 |[]=>.rfl
 |y::r=>by
  unfold CZ;split
  .exact((og x r).cons y).trans (.swap _ _ _)
  .exact .rfl
theorem j6:∀l,(dZ l).Perm l
 |[]=>.rfl
 |x::r=>(og x _).trans ((j6 r).cons x)
theorem A1(x:Str):∀l,l.Pairwise Db->(CZ x l).Pairwise Db
 |[],_=>QX _ _
 |y::r,h=>by
  obtain⟨b,d⟩:=QZ.mp h;unfold CZ;split
  .rename_i q
   refine QZ.mpr ⟨λz a=>?_,A1 x r d⟩;rcases P1.mp ((og x r).mem_iff.mp a)with rfl|a
   .rw[ltCps_eq]at q;exact List.le_of_lt (a4 q)
   .exact b z a
  .rename_i q
   have q:=vZ.mp (VI.mpr q);refine QZ.mpr ⟨λz a=>?_,h⟩;rcases P1.mp a with rfl|a
   .exact q
   .exact uu q (b z a)
theorem su:∀l,(dZ l).Pairwise Db
 |[]=>R9
 |x::r=>A1 x _ (su r)
theorem oj{l m:bb Str}(p:l.Perm m)(h:l.Pairwise Db):l=dZ m:=(p.trans (j6 m).symm).eq_of_pairwise (λ_ _ _ _=>DK) h (su m)
theorem DU{l m:bb Str}(p:l.Perm m):dZ l=dZ m:=oj ((j6 l).trans p) (su l)
def NT(ys:bb V):bb V:=ys.foldl (λa y=>if a.any (λz=>C1 z y)=Pr then a else a++[y]) []
def oH(a:bb Int):bb Int:=a.foldl step_dedup []
def nR(ss:bb Str):bb Str:=ss.foldl (λa x=>if a.any (λy=>y.cps.toList==x.cps.toList)=Pr then a else a++[x]) []
theorem any_map{α a:Type}(f:α->a)(p:a->Bool):∀l:bb α,(l.map f).any p=l.any λx=>p (f x)
 |[]=>rfl
 |x::r=>by rw[PY,Rm,Rm,any_map f p r]
theorem wy(b:bb Int):NT (b.map V.int)=(oH b).map V.int:=by
 have:∀(b a:bb Int),(b.map V.int).foldl (λa y=>if a.any (λz=>C1 z y)=Pr then a else a++[y]) (a.map V.int)=(b.foldl step_dedup a).map V.int:=by
  intro b
  induction b with
  |nil=>exact λ_=>rfl
  |cons n r d=>
   intro a;rw[PY,QO,QO,<-d,any_map];congr 1;show(if(a.any λx=>x==n)=Pr then _ else _)=_;unfold step_dedup;split
   .rfl
   .rw[Qb];rfl
 exact this b []
theorem BL(ss:bb Str):NT (ss.map V.str)=(nR ss).map V.str:=by
 have:∀(b a:bb Str),(b.map V.str).foldl (λa y=>if a.any (λz=>C1 z y)=Pr then a else a++[y]) (a.map V.str)=(b.foldl (λa x=>if a.any (λy=>y.cps.toList==x.cps.toList)=Pr then a else a++[x]) a).map V.str:=by
  intro b
  induction b with
  |nil=>exact λ_=>rfl
  |cons n r d=>
   intro a;rw[PY,QO,QO,<-d,any_map];congr 1;show(if(a.any λy=>y.cps.toList==n.cps.toList)=Pr then _ else _)=_;split
   .rfl
   .rw[Qb];rfl
 exact this ss []
theorem wN{y:V}{u:Pq}(a:RelV y u):∀{xs:bb V} {us:bb Pq},Vals xs us->(∀z∈xs,Yk z y=Pr)->us.any (eV u)=xs.any λz=>C1 z y
 |_,_,.nil,_=>rfl
 |_,_,.cons r t,h=>by rw[Rm,Rm,wN a t λz b=>h z (PD _ b),(DY r a (h _ PH)).1]
theorem uj{y:V}{u:Pq}(a:RelV y u):∀{xs:bb V} {us:bb Pq},Vals xs us->Vals (xs++[y]) (us++[u])
 |_,_,.nil=>.cons a .nil
 |_,_,.cons r t=>.cons r (uj a t)
theorem vW{P:V->Prop}(e:∀x y,P x->P y->Yk x y=Pr):∀{ys:bb V} {us:bb Pq} {a:bb V} {d:bb Pq},Vals ys us->Vals a d->(∀y∈ys,P y)->(∀y∈a,P y)->Vals (ys.foldl (λa y=>if a.any (λz=>C1 z y)=Pr then a else a++[y]) a) (us.foldl (λa v=>if a.any (eV v)=Pr then a else a++[v]) d)
 |_,_,_,_,.nil,h,_,_=>h
 |_,_,a,d,.cons r t,h,h1,h2=>by
  rw[QO,QO,wN r h λz f=>e z _ (h2 z f) (h1 _ PH)];split
  .exact vW e t h (λx b=>h1 x (PD _ b)) h2
  .refine vW e t (uj r h) (λx b=>h1 x (PD _ b)) λx b=>?_
   rcases Qm.mp b with b|b
   .exact h2 x b
   .rw[PL.mp b];exact h1 _ PH
def O8(p:Pz)(ys:bb V)(w:Qt)(h:Heap):Prop:=∃(o:Obj) (a:Array (Int×Pq)) (d:Nat) (t:SetTable) (b:bb Pq),h.get? p=Bn o/\o.ExactSet/\o.data=.set a d t/\t.fits a.size=Pr/\TI (!oB w) t/\a.size<scanBound/\QW (a.toList.map (·.2)) b/\Vals ys b
abbrev Mx(p:Pz)(ys:bb V):HO:=.exw (O8 p ys)
theorem KJ{prog:Qc}{w:Qt}{H:Hp}{h:Heap}{p:Pz}{ys:bb V}(x:O8 p ys w h):ObjOk prog w H h p (Mx p ys):=by
 refine⟨x,?_,λj i b e=>?_⟩
 .obtain⟨o,_,_,_,_,g,_⟩:=x;exact⟨o,g⟩
 .obtain⟨o,d,f,t,a,g,r⟩:=b;exact⟨o,d,f,t,a,e o g,r⟩
theorem Inv.drawn{X:Cx}{a:bb (Pz×Obj)}{b:bb (bg V)}{H:Hp}{s:Px}(I:Inv X a b H s)(d:Xw):Inv X a b H {s with drawn:=d}:=⟨I.ok,I.os,I.bare,I.base,I.loc,I.cell,I.free,I.UT,I.pin,I.Ro,I.len⟩
def xw(K:Po):bb V->Hp->VK->Prop:=λxs H Q=>∃(a:Pz) (b:bb V),xs=[.ref a]/\T6 K H a b/\b.length<=1000/\((∃ns:bb Int,b=ns.map V.int)\/∃ss:bb Str,b=ss.map V.str)/\∀p,H p=Pn->Q (.ref p) (bS H p (Mx p (NT b)))
theorem LY(prog:Qc)(w:Qt)(k:Int)(u v:Pq)(h:(intKind prog w).is k v=Pr):(intKind prog w).is k u=eV v u:=by obtain⟨t,rfl⟩:=Pq.isInt_shape h;cases u<;>simp[intKind,Pq.isInt,eV]
theorem Kr(prog:Qc)(w:Qt)(k:Str)(u v:Pq)(h:(Vd prog w).is k v=Pr):(Vd prog w).is k u=eV v u:=by obtain⟨t,rfl⟩:=Pq.isStrOf_shape h;cases u<;>simp[Vd,Pq.isStrOf,eV];rename_i x _;rw[SH,beq_iff_eq,beq_iff_eq];exact⟨di _,λe=>by cases x;cases k;exact di Str.mk e⟩
theorem pR:∀{ss:bb Str} {us:bb Pq},Vals (ss.map V.str) us->StrsAre us ss
 |[],_,r=>by cases r;exact .nil
 |x::ss,_,r=>by
  rw[PY]at r;cases r with
  |cons h t=>obtain⟨a,rfl⟩:=h;exact .cons x a (pR t)
theorem nY:∀{vs:bb Pq} {ss:bb Str},StrsAre vs ss->Vals (ss.map V.str) vs
 |_,_,.nil=>.nil
 |_,_,.cons n t h=>.cons ⟨t,rfl⟩ (nY h)
theorem oQ{X:Cx}(G:X.calm=Pr):Sm X (.type "set") (xw X.K):=by
 intro g s O H xs us Q I r h;obtain⟨a,ys,rfl,S,hn,U,q⟩:=h;obtain⟨u,rfl,R⟩:=ir r;cases R;obtain⟨A,rv,⟨o,n,N,M,e3,L⟩,hz⟩:=I.list S;have T:A.length=ys.length:=rv.length.symm;have J:A.toArray.size+1<scanBound:=by rw[PX,T];unfold scanBound;ext
 have p:∀{e:Heap} {f:Nat} {d:Array (Int×Pq)} {P:V->Prop},(∀x y,P x->P y->Yk x y=Pr)->(∀y∈ys,P y)->(∃o F t,e.get? s.heap.objs.size=Bn o/\o.ExactSet/\o.data=.set d F t/\t.fits d.size=Pr/\TI (!oB X.w) t)->d.size<scanBound->QW (d.toList.map (·.2)) (yA A)->(∀b o,s.heap.get? b=Bn o->e.get? b=Bn o)->_:=λ{e f d P} hP j x sz l i=>(⟨.ref s.heap.objs.size,_,I.laid (t':=f) i (PF _) (KJ (ys:=NT ys) (by obtain⟨o,F,t,g1,g2,g3,Z,Y⟩:=x;exact⟨o,d,F,t,yA A,g1,g2,g3,Z,Y,sz,l,vW hP rv .nil j λ_ h=>nomatch h⟩)),rfl,q _ (I.Ro.fresh (PF _))⟩:∃v H',Inv X g O H' {s with heap:=e,toks:=f}/\RelV v (.ref s.heap.objs.size)/\Q v H');rcases U with⟨ns,rfl⟩|⟨ss,rfl⟩
 .refine tM (knd:=intKind X.prog X.w) (I.ok.hd G) ⟨o,N,M,n,L⟩ (λv B=>?_) (LY _ _) J λe f d z l i=>p (P:=λv=>∃n,v=.int n) (λx y ⟨a,E⟩ ⟨b,C⟩=>by rw[E,C];rfl) (λy j=>by obtain⟨n,_,rfl⟩:=Qo.mp j;exact⟨n,rfl⟩) z.x z.sz l i;obtain⟨m,t,rfl⟩:=rU (iz rv) v B;exact⟨rfl,m,intKind_is _ _ _ _⟩
 .refine tM (knd:=Vd X.prog X.w) (I.ok.hd G) ⟨o,N,M,n,L⟩ (λv B=>?_) (Kr _ _) J λe f d z l i=>p (P:=λv=>∃n,v=.str n) (λx y ⟨a,E⟩ ⟨b,C⟩=>by rw[E,C];rfl) (λy j=>by obtain⟨n,_,rfl⟩:=Qo.mp j;exact⟨n,rfl⟩) z.x z.sz l i;obtain⟨m,t,rfl⟩:=(pR rv).all v B;exact⟨rfl,m,PySem.strKind_is _ _ _ _⟩
def uM:bb V->Hp->VK->Prop:=λxs H Q=>∃(p:Pz) (a:bb V),xs=[.ref p]/\H p=Bn (Mx p a)/\a.length<64/\((∃ns:bb Int,a=ns.map V.int/\∀l,H l=Pn->Q (.ref l) (bS H l (.lst ((dr ns).map V.int))))\/∃ss:bb Str,a=ss.map V.str/\∀l,H l=Pn->Q (.ref l) (bS H l (.lst ((dZ ss).map V.str))))
theorem pd{X:Cx}(G:X.calm=Pr):Sm X (.builtin "sorted") uM:=by
 intro b s E H xs Y Q I r h;obtain⟨p,R,rfl,T,C,g⟩:=h;obtain⟨u,rfl,S⟩:=ir r;cases S;obtain⟨⟨o,Z,ep,t,vs,P,O,N,M,L,K,J,z⟩,_⟩:=(show ObjOk X.prog X.w H s.heap p (Mx p R)from I.Ro p _ T);have F:vs.length<64:=by rw[<-z.length];exact C
 have sl:(64:Nat)<=PZ:=by decide
 rcases g with⟨l,rfl,q⟩|⟨ss,rfl,q⟩
 .refine xi (I.ok.hd G) P O N M L K J (iz z) F λi U d m f e n g y B hi a v=>?_;have A:n=dr l:=gk (a.trans (cN l).symm) v (cw l);subst A;have j:Inv X b E H {s with heap:=i,drawn:=d}:=Inv.drawn (I.kept (t':=s.toks) g) d;refine⟨.ref i.objs.size,_,j.laid (t':=m) (o:=.lst ((dr l).map V.int)) B (PF _) ⟨?_,f.toList,e,ie hi,y⟩,rfl,q _ (j.Ro.fresh (PF _))⟩;rw[Pp,a.length_eq];rw[Pp]at C;ext
 .refine wZ (I.ok.hd G) P O N M L K J (pR z) F λi U d m f e n g y B hi a v=>?_;have A:n=dZ ss:=oj a (yt v);subst A;have j:Inv X b E H {s with heap:=i,drawn:=d}:=Inv.drawn (I.kept (t':=s.toks) g) d;refine⟨.ref i.objs.size,_,j.laid (t':=m) (o:=.lst ((dZ ss).map V.str)) B (PF _) ⟨?_,f.toList,e,nY hi,y⟩,rfl,q _ (j.Ro.fresh (PF _))⟩;rw[Pp,a.length_eq];rw[Pp]at C;ext
def EK:bb V->Hp->VK->Prop:=λxs H Q=>∃(p:Pz) (a:bb V),xs=[.ref p]/\H p=Bn (Mx p a)/\Q (.int a.length) H
theorem Cr{X:Cx}:Sm X (.builtin "len") EK:=by
 intro b s z H xs A Q I r h;obtain⟨p,a,rfl,e,q⟩:=h;obtain⟨u,rfl,d⟩:=ir r;cases d;obtain⟨⟨o,y,C,t,vs,v,n,m,l,B,j,i,g⟩,_⟩:=(show ObjOk X.prog X.w H s.heap p (Mx p a)from I.Ro p _ e);have f:a.length=y.size:=by rw[g.length,<-i.length_eq,Pp,Qf]
 rw[f]at q;exact call_len_set v n m l (by unfold scanBound at j;ext) ⟨.int _,H,I.tok _,⟨_,rfl⟩,q⟩
def Jt(K:Po):bb V->Hp->VK->Prop:=λxs H Q=>∃(p:Pz) (ss:bb Str),xs=[.ref p]/\T6 K H p (ss.map V.str)/\ss.length<64/\∀l,H l=Pn->Q (.ref l) (bS H l (.lst ((dZ ss).map V.str)))
theorem vx{X:Cx}:Sm X (.builtin "sorted") (Jt X.K):=by
 intro b s B H xs C Q I r h;obtain⟨p,ss,rfl,j,G,q⟩:=h;obtain⟨u,rfl,g⟩:=ir r;cases g;obtain⟨f,rv,⟨o,n,y,w,F,v⟩,E⟩:=I.list j;have l:=rv.length;rw[Pp]at l;have sl:(64:Nat)<=PZ:=by decide
 refine sorted_strs (vs:=f) ⟨o,y,w,n,v⟩ (pR rv) (by ext) λa i A d z=>?_;have t:i=dZ ss:=oj d (yt z);subst t;obtain⟨e,m⟩:=sortedAll_at s.heap f a;refine⟨.ref (s.heap.objs.size+1),_,I.laid (t':=s.toks) (o:=.lst ((dZ ss).map V.str)) (λ_ _=>sortedAll_old) (Rp _) ⟨?_,a.toList,e,nY A,m⟩,rfl,q _ (I.Ro.fresh (Rp _))⟩;rw[Pp,d.length_eq];ext
theorem Bq:∀(b a:bb Int),(b.foldl step_dedup a).length<=a.length+b.length
 |[],a=>PF _
 |n::r,a=>by
  have:=Bq r (step_dedup a n);have h:(step_dedup a n).length<=a.length+1:=by
   unfold step_dedup;split
   .omega
   .rw[PJ];exact PF _
  rw[QO,PN];ext
theorem uN:∀(b a:bb Str),(b.foldl (λa x=>if a.any (λy=>y.cps.toList==x.cps.toList)=Pr then a else a++[x]) a).length<=a.length+b.length
 |[],a=>PF _
 |n::r,a=>by
  rw[QO,PN];split
  .have:=uN r a;ext
  .have:=uN r (a++[n]);rw[PJ]at this;have:[n].length=1:=rfl;ext
def jZ:bb D->bg RV
 |[.list ds]=>if ds.length<64 then(match i9 ds with
  |some a=>Bn (.ow ((dr (oH a)).map .int))
  |none=>(match nZ ds with
   |some ss=>Bn (.ow ((dZ (nR ss)).map .str))
   |none=>Pn))else Pn
 |_=>Pn
def k8:bb D->bg RV
 |[.list ds]=>if ds.length<64 then(match i9 ds with
  |some a=>Bn (.fz (.int (oH a).length))
  |none=>Pn)else Pn
 |_=>Pn
def yi:bb D->bg RV
 |[.list ds]=>if ds.length<64 then(match nZ ds with
  |some ss=>Bn (.ow ((dZ ss).map .str))
  |none=>Pn)else Pn
 |_=>Pn
section
variable{K:Po}{E:XK}
theorem xJ{O:b8}{H:Hp}(ss:bb Str):Rk O K H (ss.map V.str) (ss.map .str):=by
 induction ss with
 |nil=>exact .nil
 |cons n r a=>exact .cons (.str n) a
theorem Dv{H:Hp}{p l:Pz}{o:HO}(h:bS H p o l=Pn):H l=Pn:=by
 by_cases e:l=p
 .rw[e,aJ]at h;cases h
 .rwa [a9 e]at h
theorem BP{O:b8}{H:Hp}{Q:VK}{vs:bb V}{ds:bb D}{p l:Pz}{o:HO}(hd:Rk O K H vs ds)(q:Fin O K H Q (.ow ds))(b:H p=Pn)(a:bS H p o l=Pn):Q (.ref l) (bS (bS H p o) l (.lst vs)):=by have s:=(bV b o).trans (bV a (.lst vs));exact q l vs _ s (Dv a) aJ (hd.ev (Ev.add s (Dv a)))
theorem CW:BO K (λxs H Q=>xw K xs H λv H1=>uM [v] H1 Q) jZ:=by
 intro O H xs ds rv Q n b e q;unfold jZ at e;split at e
 .rename_i j
  split at e
  .rename_i o
   cases b with
   |cons g d=>
    cases d;obtain⟨a,m,rfl,g,d⟩:=zC g;have i:=d.length;cases qi:i9 j with
    |some f=>rw[qi]at e;cases e;have:=lr d qi;subst this;rw[Pp]at i;refine⟨a,_,rfl,g.sq,by rw[Pp];ext,.inl ⟨f,rfl⟩,λp b=>⟨p,_,rfl,aJ,?_,.inl ⟨oH f,wy f,λl h=>BP (mF _) q b h⟩⟩⟩;rw[wy,Pp];have:=Bq f [];unfold oH;rw[QA]at this;ext
    |none=>
     rw[qi]at e;dsimp only at e;cases qs:nZ j with
     |none=>rw[qs]at e;cases e
     |some ss=>rw[qs]at e;cases e;have:=u7 d qs;subst this;rw[Pp]at i;refine⟨a,_,rfl,g.sq,by rw[Pp];ext,.inr ⟨ss,rfl⟩,λp b=>⟨p,_,rfl,aJ,?_,.inr ⟨nR ss,BL ss,λl h=>BP (xJ _) q b h⟩⟩⟩;rw[BL,Pp];have:=uN ss [];unfold nR;rw[QA]at this;ext
  .cases e
 .cases e
theorem Hb:BO K (λxs H Q=>xw K xs H λv H1=>EK [v] H1 Q) k8:=by
 intro O H xs ds rv Q n d e q;unfold k8 at e;split at e
 .rename_i i
  split at e
  .rename_i l
   cases d with
   |cons f b=>
    cases b;obtain⟨a,j,rfl,f,b⟩:=zC f;have g:=b.length;cases qi:i9 i with
    |none=>rw[qi]at e;cases e
    |some h=>rw[qi]at e;cases e;have:=lr b qi;subst this;rw[Pp]at g;refine⟨a,_,rfl,f.sq,by rw[Pp];ext,.inl ⟨h,rfl⟩,λp d=>⟨p,_,rfl,aJ,?_⟩⟩;rw[wy,Pp];exact q _ _ (bV d _) (.int _)
  .cases e
 .cases e
theorem G9:BO K (Jt K) yi:=by
 intro O H xs ds rv Q n g e q;unfold yi at e;split at e
 .rename_i i
  split at e
  .rename_i m
   cases g with
   |cons d b=>
    cases b;obtain⟨a,j,rfl,d,b⟩:=zC d;have f:=b.length;cases qs:nZ i with
    |none=>rw[qs]at e;cases e
    |some ss=>rw[qs]at e;cases e;have:=u7 b qs;subst this;rw[Pp]at f;exact⟨a,ss,rfl,d.sq,by ext,λl h=>Fin.new (xJ _) q l h⟩
  .cases e
 .cases e
theorem ue{a:TA}{b:FA}(d:AO K E a b):EO K E (C8 uM (kU (C8 (xw K) a) ox)) (eX jZ b):=by have h:=gj (E:=E) (CW (K:=K)) d;exact h
theorem GY{a:TA}{b:FA}(d:AO K E a b):EO K E (C8 EK (kU (C8 (xw K) a) ox)) (eX k8 b):=by have h:=gj (E:=E) (Hb (K:=K)) d;exact h
end
end L10
namespace L10
open PySem PyProof.Rows L2 L3
def zG(xs:bb SV)(lo hi:bg Int):bb SV:=(xs.drop (HT.sIx xs.length 0 lo)).take (HT.sIx xs.length xs.length hi - HT.sIx xs.length 0 lo)
def E3(fa:eK)(d e:Nf):eK:=λρ Z=>(fa ρ Z).bind λx g=>(d ρ g).bind λl f=>(e ρ f).bind λh b=>(RS.QL b (LD.Wz b x)).bind λxs a=>.ok (.rf a.length) (a++[.lst (zG xs l h)])
section
variable{K:Po}{E:XK}
theorem B2{O:b8}{H:Hp}{α:bb Pz}:∀{n:Nat} {vs:bb V} {xs:bb SV},Sh O K H α vs xs->Sh O K H α (vs.take n) (xs.take n)
 |0,_,_,_=>.nil
 |_+1,_,_,.nil=>.nil
 |_+1,_,_,.cons a t=>.cons a (B2 t)
theorem Bm{O:b8}{H:Hp}{α:bb Pz}:∀{n:Nat} {vs:bb V} {xs:bb SV},Sh O K H α vs xs->Sh O K H α (vs.drop n) (xs.drop n)
 |0,_,_,h=>h
 |_+1,_,_,.nil=>.nil
 |n+1,_,_,.cons a t=>Bm (n:=n) t
theorem KF{O:b8}{H:Hp}{α:bb Pz}{vs:bb V}{xs:bb SV}{lo hi:bg Int}(h:Sh O K H α vs xs):Sh O K H α (xM vs lo hi) (zG xs lo hi):=by unfold zG xM;rw[h.length];exact B2 (Bm h)
theorem Ay{n:TE}{j m:TO}{fa:eK}{r t:Nf}(ha:eF K E n fa)(J:N0 K E j r)(L:N0 K E m t):eF K E (Ow (MP K) n j m) (E3 fa r t):=by intro B b H α Z ρ Q s sl w;refine ha B b H α Z ρ _ s sl (w.bind.imp λx f R T y G C v i=>?_);refine J B b T f R ρ _ G (sl.SJ y) (C.bind.imp λl d P S u F A=>?_);refine L B b S d P ρ _ F ((sl.SJ y).SJ u) (A.bind.imp λh z U X O o g=>?_);have i:=(i.SJ u).SJ O;obtain⟨xs,q,g⟩:=WS.QL g;obtain⟨a,vs,rfl,N,M⟩:=LD.aae o i q;refine .inl (.inl ⟨a,vs,rfl,T6.of N,λp I=>nr o I g λe=>⟨_,aJ,KF (M.SJ e)⟩⟩)
end
end L10
local macro_rules(kind:=«term{_}»)|`({$a})=>`(L3.ae $a L3.ao)|`({$a,$b})=>`(L3.ae $a (L3.ae $b L3.ao))|`({$a,$b,$c})=>`(L3.ae $a (L3.ae $b (L3.ae $c L3.ao)))|`({$a,$b,$c,$d})=>`(L3.ae $a (L3.ae $b (L3.ae $c (L3.ae $d L3.ao))))
local macro_rules|`(~~~$n)=>`(L3.pC (.int $n))
namespace STP
open PySem L2 L3
def lX:FS:=(bp (jv (aA (ay kR (ay bc (aa 0) (~~~2)) (pC .none))) (c9 (ay bc (aa 0) (~~~2))) dw)
 (c9 (eX (L10.EZ 0) {eu 2 [] (jr (ay bc (aa 0) (~~~0))) (gT 2 (xY (gN 0) (xY (gN 1) Hl))) (aA (ay cx (ay bc (aa 1) (~~~0)) (pC (.str "layer")))) (ay bc (aa 1) (~~~1))})))
def dQ:FN:=fC 1 lX
def kA:FS:=(bp (cQ (ay bc (ay bc (ay bc (aa 0) (~~~1)) (aa 1)) (aa 2)) (gN 3))
 (bp (jv (aA (ay cx (ay bc (aa 3) (~~~0)) (pC (.str "below")))) (c9 (ay bc (ay bc (ay bc (aa 0) (~~~1)) (~~~0)) (aa 2))) dw)
 (c9 (aa 3))))
def iQ:FN:=fC 4 kA
def i6:FS:=(c9 (eu 1 [1] (jr (ay bc (aa 0) (~~~2))) (gN 0) (aA (eX FD {eu 1 [0] (jr (aa 1)) (gN 0) fT (ay Aq (aa 0) (ay bc (aa 1) (~~~0)))})) (aa 0)))
def bK:FN:=fC 2 i6
def jx:FS:=(bp (mV (jr (ay bc (aa 0) (~~~2))) (gN 2) (jv (aA (ay cx (eX sX {ay bc (aa 2) (~~~0)}) (eX L9.ia {aa 1}))) (c9 (ay de (dg {bQ {pC (.str "letter"),ay bc (aa 2) (~~~1)}}) (ay dM (dg {pC (.tuple [(.str "none")])}) (ay pJ (eX gm {aa 1}) (~~~1))))) dw))
 (c9 (eu 1 [0] (jr (aa 1)) (gN 0) fT (ay bc (ay bc (ay bc (aa 1) (~~~1)) (~~~0)) (aa 0)))))
def fV:FN:=fC 3 jx
open L10
def kb:gS:=(aW (iu "Hand" "bed" (az 0) (ag (aa 1)))
 (aW (iu "Hand" "acts" (az 0) (xT (ag (ay bc (aa 2) (~~~0)))))
 (aW (iu "Hand" "waiting" (az 0) (ag (ay bc (aa 2) (~~~1))))
 (aW (iu "Hand" "once" (az 0) (ag (ay bc (aa 2) (~~~2))))
 (iu "Hand" "sent" (az 0) (ag (dg ao)))))))
def dU:lB:=fH 3 kb
def lS:gS:=(je (mq (au (J1 ji (au (sF 1 [0] (nK (ur (b4 "Hand" "acts" (az 0)))) (iS 0) rC (mq (au (ag (aa 0)) (au (tP (b4 "Hand" "acts" (az 1)) (ag (aa 0))) bi)))) bi)) (au (b4 "Hand" "waiting" (az 0)) (au (b4 "Hand" "once" (az 0)) bi)))))
def bL:lB:=fH 1 lS
def iO:gS:=(je (yH (kg kR (b4 "Hand" "waiting" (az 0)) (ag (pC .none))) (kg Aq (ag (aa 1)) (kx (b4 "Hand" "waiting" (az 0)) (ag (~~~0))))))
def ci:lB:=fH 2 iO
def kX:gS:=(je (kg Aq (ag (aa 1)) (Bp (b4 "Hand" "acts" (az 0)))))
def bR:lB:=fH 2 kX
def kN:gS:=(aW (cL (jS (bT (aA (ay cx (ay bc (aa 2) (~~~0)) (pC (.str "letter"))))) (sV (bM (aY "Hand" "has_act" bR 2 (az 0) (au (ag (aa 2)) bi))))) (bZ (pz (b4 "Hand" "sent" (az 0)) (ag (bQ {ay bc (aa 2) (~~~1),pC (.str "down")})))) dE)
 (yf (b4 "Hand" "acts" (az 0)) (ag (aa 1)) (ag (aa 2))))
def bz:lB:=fH 3 kN
def oP:gS:=(aW (fF (xC (b4 "Hand" "acts" (az 0)) (ag (aa 1))) (iS 2))
 (cL (jS (bT (aA (ay cx (ay bc (aa 2) (~~~0)) (pC (.str "letter"))))) (sV (bM (aY "Hand" "has_act" bR 2 (az 0) (au (ag (aa 2)) bi))))) (bZ (pz (b4 "Hand" "sent" (az 0)) (ag (bQ {ay bc (aa 2) (~~~1),pC (.str "up")})))) dE))
def jd:lB:=fH 3 oP
def lN:gS:=(aW (fF (kx (b4 "Hand" "waiting" (az 0)) (ag (~~~0))) (iS 1))
 (aW (fF (kx (b4 "Hand" "waiting" (az 0)) (ag (~~~2))) (iS 2))
 (aW (iu "Hand" "waiting" (az 0) (ag (pC .none)))
 (aW (fF (sY (KQ (bT (aA (ay cx (aa 2) (pC (.tuple [(.str "chord")]))))) (jf fV 2 (au (b4 "Hand" "bed" (az 0)) (au (ag (aa 1)) bi))) (ag (dg {bQ {pC (.str "layer"),ay bc (aa 2) (~~~2)}})))) (iS 3))
 (uZ (ng (Ef {aa 1,aa 3})) (JL 2 (lW (iS 4) (lW (iS 5) wP))) (bZ (aY "Hand" "come" bz 3 (az 0) (au (ag (aa 4)) (au (ag (aa 5)) bi)))))))))
def b6:lB:=fH 6 lN
def fK:gS:=(aW (cL (zc (bM (kg vB (b4 "Hand" "waiting" (az 0)) (ag (pC .none)))) (zc (bM (kg n6 (kx (b4 "Hand" "waiting" (az 0)) (ag (~~~2))) (ag (pC (.tuple [(.str "chord")]))))) (bM (kg n6 (jf dQ 1 (au (aY "Hand" "stands" bL 1 (az 0) bi) bi)) (ag (~~~0)))))) (je (ag (pC (.bool Py)))) dE)
 (je (kg n6 (jf bK 2 (au (b4 "Hand" "bed" (az 0)) (au (kg de (kx (b4 "Hand" "waiting" (az 0)) (ag (~~~0))) (ag (bQ {aa 1}))) bi))) (ag (dg ao)))))
def dN:lB:=fH 2 fK
def gR:gS:=(aW (fF (kg de (kx (b4 "Hand" "waiting" (az 0)) (ag (~~~0))) (ag (bQ {aa 1}))) (iS 2))
 (aW (iu "Hand" "waiting" (az 0) (mq (au (ag (aa 2)) (au (kx (b4 "Hand" "waiting" (az 0)) (ag (~~~1))) (au (ag (pC (.tuple [(.str "chord")]))) bi)))))
 (cL (bM (kg cx (sF 1 [] (nK (jf bK 2 (au (b4 "Hand" "bed" (az 0)) (au (ag (aa 2)) bi)))) (iS 0) rC (ag (eX gm {ay bc (aa 0) (~~~0)}))) (ag (dg {eX gm {aa 2}})))) (bZ (aY "Hand" "decide" b6 1 (az 0) bi)) dE)))
def dB:lB:=fH 3 gR
def jP:gS:=(aW (fF (jf dQ 1 (au (aY "Hand" "stands" bL 1 (az 0) bi) bi)) (iS 2))
 (aW (fF (jf iQ 3 (au (b4 "Hand" "bed" (az 0)) (au (ag (aa 2)) (au (ag (aa 1)) bi)))) (iS 3))
 (aW (fF (ag (ay bc (aa 3) (~~~0))) (iS 4))
 (aW (cL (bT (aA (ay mx (aa 4) (bQ {pC (.str "layer"),pC (.str "once")})))) (iu "Hand" "once" (az 0) (ag (pC .none))) dE)
 (cL (bT (aA (ay cx (aa 4) (pC (.str "tap"))))) (iu "Hand" "waiting" (az 0) (ag (bQ {bQ {aa 1},~~~0,aa 3}))) (cL (jS (bT (aA (ay cx (aa 4) (pC (.str "letter"))))) (jS (bT (aA (ay cx (aa 2) (~~~0)))) (bM (kg n6 (jf bK 2 (au (b4 "Hand" "bed" (az 0)) (au (ag (bQ {aa 1})) bi))) (ag (dg ao)))))) (iu "Hand" "waiting" (az 0) (ag (bQ {bQ {aa 1},~~~0,pC (.tuple [(.str "chord")])}))) (cL (bT (aA (ay cx (aa 4) (pC (.str "once"))))) (aW (bZ (aY "Hand" "come" bz 3 (az 0) (au (ag (aa 1)) (au (ag (pC (.tuple [(.str "none")]))) bi))))
 (iu "Hand" "once" (az 0) (ag (ay bc (aa 3) (~~~1))))) (bZ (aY "Hand" "come" bz 3 (az 0) (au (ag (aa 1)) (au (ag (aa 3)) bi)))))))))))
def gc:lB:=fH 5 jP
def jz:gS:=(aW (cL (zc (bM (yr Py (ag (aa 1)) (b4 "Hand" "acts" (az 0)))) (bM (aY "Hand" "is_waiting" ci 2 (az 0) (au (ag (aa 1)) bi)))) uf dE)
 (aW (cL (bM (aY "Hand" "makes_chord" dN 2 (az 0) (au (ag (aa 1)) bi))) (aW (bZ (aY "Hand" "put_to_chord" dB 2 (az 0) (au (ag (aa 1)) bi)))
 uf) dE)
 (aW (cL (bM (kg kR (b4 "Hand" "waiting" (az 0)) (ag (pC .none)))) (bZ (aY "Hand" "decide" b6 1 (az 0) bi)) dE)
 (bZ (aY "Hand" "begin" gc 2 (az 0) (au (ag (aa 1)) bi))))))
def hU:lB:=fH 2 jz
def iZ:gS:=(aW (fF (kx (b4 "Hand" "waiting" (az 0)) (ag (~~~2))) (iS 2))
 (cL (bT (aA (ay cx (aa 2) (pC (.tuple [(.str "chord")]))))) (bZ (aY "Hand" "decide" b6 1 (az 0) bi)) (aW (iu "Hand" "waiting" (az 0) (ag (pC .none)))
 (bZ (aY "Hand" "come" bz 3 (az 0) (au (ag (aa 1)) (au (ag (bQ {pC (.str "letter"),ay bc (aa 2) (~~~1)})) bi)))))))
def gA:lB:=fH 3 iZ
def kQ:gS:=(aW (cL (bM (aY "Hand" "is_waiting" ci 2 (az 0) (au (ag (aa 1)) bi))) (bZ (aY "Hand" "settle" gA 2 (az 0) (au (ag (aa 1)) bi))) dE)
 (cL (bM (yr Py (ag (aa 1)) (b4 "Hand" "acts" (az 0)))) (bZ (aY "Hand" "go" jd 2 (az 0) (au (ag (aa 1)) bi))) dE))
def iJ:lB:=fH 2 kQ
def iB:gS:=(aW (cL (bM (kg vB (b4 "Hand" "waiting" (az 0)) (ag (pC .none)))) uf dE)
 (aW (fF (kg de (kx (b4 "Hand" "waiting" (az 0)) (ag (~~~1))) (ag (~~~1))) (iS 1))
 (aW (iu "Hand" "waiting" (az 0) (mq (au (kx (b4 "Hand" "waiting" (az 0)) (ag (~~~0))) (au (ag (aa 1)) (au (kx (b4 "Hand" "waiting" (az 0)) (ag (~~~2))) bi)))))
 (cL (bM (kg cx (ag (aa 1)) (kx (b4 "Hand" "bed" (az 0)) (ag (~~~3))))) (bZ (aY "Hand" "decide" b6 1 (az 0) bi)) dE))))
def fP:lB:=fH 2 iB
def zP:gS:=(aW (fF (uC "Hand" dU 3 (au (ag (aa 0)) (au (ag (aa 1)) bi))) (iS 3))
 (aW (cL (bT (aA (ay cx (ay bc (aa 2) (~~~0)) (pC (.str "turn"))))) (bZ (aY "Hand" "wait_on" fP 1 (az 3) bi)) (cL (bT (aA (ay cx (ay bc (aa 2) (~~~0)) (pC (.str "down"))))) (bZ (aY "Hand" "press" hU 2 (az 3) (au (ag (ay bc (aa 2) (~~~1))) bi))) (bZ (aY "Hand" "lift" iJ 2 (az 3) (au (ag (ay bc (aa 2) (~~~1))) bi)))))
 (je (mq (au (b4 "Hand" "sent" (az 3)) (au (aY "Hand" "stands" bL 1 (az 3) bi) bi))))))
def kO:lB:=fH 4 zP
end STP
local macro_rules| `(tactic|fail "nm")=> `(tactic|first|((simp only[Yz,YA]);rfl)|rfl)| `(tactic|fail "evf")=> `(tactic|first|with_reducible assumption|change L3.ii _ _|change L3.zO _ _|change L3.vI _ _|change L3.JI _ _|change L3.tU _ _|change L3.abN _ _|change L3.ad2 _ _|change L3.adW _ _|change L3.nu _ _|change L3.vg _ _|change L3.Y3 _ _|change L3.YQ _ _|change L3.ac0 _ _|change L3.ade _ _|change L3.vi _ _|change L3.adk _ _|change L3.adb _ _|change L3.abT _ _|change L3.vM _ _|change L3.ab7 _ _|change L3.abY _ _|change L3.acU _ _|change L3.adS _ _|change L3.iG|change L3.lH|change L3.tz|change L3.aiB|change L3.ahu|change L3.NO|change L3.ig _|change L3.rF _|(with_reducible rfl))| `(tactic|fail "ev")=> `(tactic|first
 |change L3.aG
 |((exists L3.af);rfl)
 |((exists L3.d6);rfl)
 |change L3.aF
 |change L3.ack
 |((exists L3.aE);(·fail "ev");(·fail "ev");(·rfl);(·rfl);(·fail "evf"))
 |((exists L3.afL);(·fail "ev");(·rfl);(·rfl))
 |((exists L3.ai);(·fail "ev");(·fail "ev"))
 |((exists L3.bG);(·fail "ev");(·rfl))
 |((exists L3.cH);(·fail "ev");(·rfl);(·first|fail "evf"|rfl))
 |((exists L3.eR);(·fail "ev");(·rfl);(·rfl);(·with_reducible assumption))
 |((exists L3.fJ);(·fail "ev");(·rfl);(·exact PB rfl))
 |((exists L3.sG);(·fail "ev");(·rfl);(·exact PB rfl))
 |((exists L3.aeJ);(·fail "ev");(·rfl);(·rfl))
 |((exists L3.xc);(·fail "ev");(·rfl))
 |((exists L3.JR);(·fail "ev");(·fail "ev");(·fail "ev");(·rfl);(·first|with_reducible assumption|rfl))
 |((exists L3.GH);(·fail "ev"))
 |((exists L3.ny);(·fail "ev");(·intro _;fail "ev"))
 |((exists L3.Eo);(·fail "ev");(·intro _;fail "ev"))
 |((exists L3.acY);(·fail "ev"))
 |((exists L3.u9);(·fail "ev");(·intro _;fail "ev"))
 |((exists L3.aah);(·fail "ev");(·intro _;fail "ev"))
 |((exists L3.mG);(·fail "ev");(·rfl);(·first|with_reducible assumption|rfl))
 |((exists L3.gz);(·fail "ev");(·rfl);(·rfl))
 |((exists L3.ab8);(·fail "ev");(·rfl);(·rfl))
 |((exists L3.kG);(·rfl);(·fail "ev");(·rfl);(·rfl);(·first|with_reducible assumption|(simp only[QA,PN,L3.dH] at*;ext));(·fail "nm"))
 |((exists L3.ad4);(·rfl);(·fail "ev");(·rfl);(·rfl);(·with_reducible assumption);(·with_reducible assumption);(·with_reducible assumption);(·fail "nm"))
 |((exists L3.rB);(·fail "ev");(·rfl);(·fail "nm"))
 |((exists L3.ve);(·fail "ev"))
 |((exists L3.wu);(·fail "ev");(·rfl)))
local macro_rules| `(tactic|fail "evb")=> `(tactic|first
 |((exists L3.aeQ);(·fail "ev");(·fail "ev");(·rfl);(·rfl);(·fail "evf"))
 |((exists L3.acF);(·fail "ev");(·rfl);(·rfl);(·with_reducible assumption))
 |((exists L3.adA);(·fail "ev");(·rfl);(·first|fail "evf"|rfl))
 |fail "ev")
local macro_rules| `(tactic|fail "ev")=> `(tactic|first
 |with_reducible assumption
 |((exists L3.u9);(·fail "ev");(·intro _;fail "evb"))
 |((exists L3.aah);(·fail "ev");(·intro _;fail "evb"))
 |((exists L3.EN);(·fail "ev");(·fail "ev");(·fail "ev");(·rfl);(·rfl);(·rfl);(·fail "evf");(·intro _;fail "evf"))
 |((exists L3.B3);(·fail "ev");(·rfl);(·rfl);(·rfl)))
local macro_rules| `(tactic|fail "go")=> `(tactic|first
 |((exists L3.bB);(·fail "ev");(·rfl);(·fail "nm");try fail "go")
 |((exists L3.vq);(·fail "ev");try fail "go")
 |((exists L3.ad3);try fail "go")
 |((exists L3.cS);try fail "go")
 |((exists L3.fY);(·fail "ev");(·rfl))
 |((exists L3.gK);(·fail "ev"))
 |((exists L3.aep);(·fail "ev");(·rfl);(·fail "nm"))
 |((exists L3.k6);(·fail "ev"))
 |((exists L3.eh);(·fail "ev");(·rfl))
 |((exists L3.yw);(·fail "ev"))
 |(exists L3.AF))
namespace STP
open PySem L2 L3
def cW(c:Nat):Str:=⟨#[97+c]⟩
inductive Mn where
 |Qa (c:Nat)
 |RY (n:Int)
 |U5 (c:Nat) (n:Int)
 |once (n:Int)
 |none
 |below
 deriving DecidableEq
def mD:Mn->D
 |.Qa c=>.tuple [.str "letter",.str (cW c)]
 |.RY n=>.tuple [.str "layer",.int n]
 |.U5 c n=>.tuple [.str "tap",.str (cW c),.int n]
 |.once n=>.tuple [.str "once",.int n]
 |.none=>.tuple [.str "none"]
 |.below=>.tuple [.str "below"]
def VM(L a:Int):Mn->Prop
 |.Qa c=>c<26
 |.RY n=>1<=n/\n<a
 |.U5 c n=>c<26/\1<=n/\n<a
 |.once n=>1<=n/\n<a
 |.none=>True
 |.below=>L≠0
def Mn.Zt:Mn->Bool
 |.Qa _=>Pr
 |_=>Py
structure Bd where
 n:Int
 ls:bb (bb Mn)
 cs:bb (bb Nat×Nat)
 wt:Int
def cU(l:bb Mn):D:=.tuple (l.map mD)
def cV(c:bb Nat×Nat):D:=.tuple [.tuple (aR c.1),.str (cW c.2)]
def bD(b:Bd):D:=.tuple [.int b.n,.tuple (b.ls.map cU),.tuple (b.cs.map cV),.int b.wt]
def VL(n a:Int)(b:bb (bb Mn)):Prop:=∀(i:Nat) l,b[i]?=Bn l->(l.length:Int)=n/\∀m∈l,VM i a m
def pB(l0:bb Mn)(k:Nat):Bool:=(l0[k]?.map Mn.Zt).getD Py
def VC(l0:bb Mn)(c:bb Nat×Nat):Prop:=2<=c.1.length/\c.1.Pairwise (·<·)/\(∀k∈c.1,pB l0 k=Pr)/\c.2<26
structure VB(b:Bd):Prop where
 n1:1<=b.n
 n5:b.n<=5
 l1:1<=b.ls.length
 l3:b.ls.length<=3
 vl:VL b.n b.ls.length b.ls
 c4:b.cs.length<=4
 vc:∀c∈b.cs,VC (b.ls.headD []) c
 cu:b.cs.Pairwise λa c=>a.1≠c.1
 w1:1<=b.wt
 w4:b.wt<=4
def wn:Mn->Nat
 |.Qa _=>0
 |.RY _=>1
 |.U5 _ _=>2
 |.once _=>3
 |.none=>4
 |.below=>5
def ws:Nat->Str
 |0=> "letter"
 |1=> "layer"
 |2=> "tap"
 |3=> "once"
 |4=> "none"
 |_=> "below"
def wd(m:Mn):Str:=ws (wn m)
theorem uv(m:Mn):wn m<6:=by cases m<;>exact PB rfl
theorem rZ(m:Mn):bc (mD m) (.int 0)=Bn (.fz (.str (wd m))):=by cases m<;>exact iG
theorem Jk(m:Mn):Pw.strOk (wd m)=Pr:=(by left:∀i,i<6->Pw.strOk (ws i)=Pr) _ (uv m)
theorem Ax:∀i,i<6->∀j,j<6->(ws i==ws j)=decide (i=j):=by left
theorem wU(m:Mn)(j:Nat)(a:j<6):cx (.str (wd m)) (.str (ws j))=Bn (.fz (.bool (decide (wn m=j)))):=by rw[NX (Jk m) ((by left:∀i,i<6->Pw.strOk (ws i)=Pr) j a)];unfold wd;rw[Ax _ (uv m) _ a]
def Mn.isB:Mn->Bool
 |.below=>Pr
 |_=>Py
def Mn.Yn:Mn->Bool
 |.RY _=>Pr
 |_=>Py
def Mn.isT:Mn->Bool
 |.U5 _ _=>Pr
 |_=>Py
def Mn.isO:Mn->Bool
 |.once _=>Pr
 |_=>Py
theorem jm(m:Mn):cx (.str (wd m)) (.str "letter")=Bn (.fz (.bool m.Zt)):=(wU m 0 (by decide)).trans (by cases m<;>rfl)
theorem Fh(m:Mn):cx (.str (wd m)) (.str "below")=Bn (.fz (.bool m.isB)):=(wU m 5 (by decide)).trans (by cases m<;>rfl)
theorem DQ(m:Mn):cx (.str (wd m)) (.str "layer")=Bn (.fz (.bool m.Yn)):=(wU m 1 (by decide)).trans (by cases m<;>rfl)
theorem LK(m:Mn):cx (.str (wd m)) (.str "tap")=Bn (.fz (.bool m.isT)):=(wU m 2 (by decide)).trans (by cases m<;>rfl)
theorem G6(m:Mn):cx (.str (wd m)) (.str "once")=Bn (.fz (.bool m.isO)):=(wU m 3 (by decide)).trans (by cases m<;>rfl)
theorem M7(m:Mn):mx (.str (wd m)) (.tuple [.str "layer",.str "once"])=Bn (.fz (.bool (!(m.Yn||m.isO)))):=by
 have h:∀a:Str,Pw.strOk a=Pr->mx (.str a) (.tuple [.str "layer",.str "once"])=Bn (.fz (.bool (!(("layer":Str)==a||("once":Str)==a)))):=λa ha=>by show(if(iE (.str a)&&(Pw.strOk "layer"&&(Pw.strOk "once"&&Pr)))=Pr then Bn (RV.fz (.bool (!(Pw.eqv (.str "layer") (.str a)||(Pw.eqv (.str "once") (.str a)||false)))))else Pn)=_;rw[show iE (.str a)=Pr by unfold iE;rw[show Pw.canLay0 (.str a)=Pr from ha];rfl,show Pw.strOk "layer"=Pr by left,show Pw.strOk "once"=Pr by left,Z9];rfl
 rw[h _ (Jk m)];unfold wd;rw[show(("layer":Str)==ws (wn m))=_ from Ax 1 (by decide) _ (uv m),show(("once":Str)==ws (wn m))=_ from Ax 3 (by decide) _ (uv m)];cases m<;>rfl
def LB:Mn->Prop
 |.Qa c=>c<26
 |.U5 c _=>c<26
 |_=>True
theorem VM.lb(h:VM L nL m):LB m:=by
 cases m with
 |Qa c=>exact h
 |U5 c n=>exact h.1
 |_=>trivial
theorem lU(h:c<26):Pw.strOk (cW c)=Pr:=by show((#[97+c]:Array Nat).all λc=>decide (c<0x110000))=Pr;simp;ext
theorem vf(h:cW c=cW d):c=d:=by
 have:(97+c)=97+d:=by have a:=di (λz:Str=>z.cps.toList) h;exact List.head_eq_of_cons_eq a
 ext
theorem vo(h:LB m):Pw.canLay0 (mD m)=Pr:=by
 cases m with
 |Qa c=>show(Pw.strOk "letter"&&(Pw.strOk (cW c)&&Pr))=Pr;rw[lU h,show Pw.strOk "letter"=Pr by left];rfl
 |RY n=>show(Pw.strOk "layer"&&(Pr&&Pr))=Pr;left
 |U5 c n=>show(Pw.strOk "tap"&&(Pw.strOk (cW c)&&(Pr&&Pr)))=Pr;rw[lU h,show Pw.strOk "tap"=Pr by left];rfl
 |once n=>show(Pw.strOk "once"&&(Pr&&Pr))=Pr;left
 |none=>show(Pw.strOk "none"&&Pr)=Pr;left
 |below=>show(Pw.strOk "below"&&Pr)=Pr;left
theorem Gq(h:LB m):iE (mD m)=Pr:=by unfold iE;rw[vo h];cases m<;>rfl
def mR:Mn->bb D
 |.Qa c=>[.str (cW c)]
 |.RY n=>[.int n]
 |.U5 c n=>[.str (cW c),.int n]
 |.once n=>[.int n]
 |.none=>[]
 |.below=>[]
theorem Js(m:Mn):mD m=.tuple (.str (wd m)::mR m):=by cases m<;>rfl
theorem MZ(a b:Mn):decide (wd a=wd b)=decide (wn a=wn b):=by have h:=Ax _ (uv a) _ (uv b);unfold wd;rw[<-h];rfl
theorem Ap(c d:Nat):decide (cW c=cW d)=decide (c=d):=decide_eq_decide.mpr ⟨vf,λh=>by rw[h]⟩
theorem Mh(a b:Mn)(h:wn a=wn b):Pw.eqvAll (mR a) (mR b)=decide (a=b):=by
 cases a<;>cases b<;>first|cases h|skip
 .show(decide (cW _=cW _)&&Pr)=_;rw[Ap,Vl];exact decide_eq_decide.mpr ⟨λh=>by rw[h],λh=>by cases h;rfl⟩
 .show(decide (_=_)&&Pr)=_;rw[Vl];exact decide_eq_decide.mpr ⟨λh=>by rw[h],λh=>by cases h;rfl⟩
 .show(decide (cW _=cW _)&&(decide (_=_)&&Pr))=_;rw[Ap,Vl,<-Bool.decide_and];exact decide_eq_decide.mpr ⟨λh=>by rw[h.1,h.2],λh=>by cases h;exact⟨rfl,rfl⟩⟩
 .show(decide (_=_)&&Pr)=_;rw[Vl];exact decide_eq_decide.mpr ⟨λh=>by rw[h],λh=>by cases h;rfl⟩
 .rfl
 .rfl
theorem Lw(a b:Mn):Pw.eqv (mD a) (mD b)=decide (a=b):=by
 rw[Js,Js];show(decide (wd a=wd b)&&Pw.eqvAll (mR a) (mR b))=_;rw[MZ];by_cases h:wn a=wn b
 .rw[aP h,Uh,Mh a b h]
 .rw[a3 h,TR,a3 λz=>h (by rw[z])]
theorem AA:∀{l:bb Mn},(∀m∈l,LB m)->Pw.canLayAll0 (l.map mD)=Pr
 |[],_=>rfl
 |m::r,h=>by show(Pw.canLay0 (mD m)&&Pw.canLayAll0 (r.map mD))=Pr;rw[vo (h m PH),AA λx a=>h x (PD _ a)];rfl
theorem Bv(a:Mn):∀l:bb Mn,((l.map mD).any λe=>Pw.eqv e (mD a))=decide (a∈l)
 |[]=>rfl
 |m::r=>by rw[PY,Rm,Bv a r,Lw,<-ZI];exact decide_eq_decide.mpr (by rw[P1];exact⟨λh=>h.imp (λz=>z.symm) id,λh=>h.imp (λz=>z.symm) id⟩)
theorem IL{l:bb Mn}(ha:LB a)(b:∀m∈l,LB m):Aq (mD a) (.list (l.map mD))=Bn (.fz (.bool (decide (a∈l)))):=by show(if(iE (mD a)&&Pw.canLayAll0 (l.map mD))=Pr then _ else _)=_;rw[Gq ha,AA b,RU,av rfl,Bv]
theorem p9(e:α->D)(g:α->bg D)(I:aO->Prop)(xs:bb α)(o:I ρ)(f:xs.length<=1000)(b:∀x∈xs,∀ρ,I ρ->∃ρ',kT gt ft fe (e x) ρ=.ok (g x,ρ')/\I ρ'):kh (dG gt ft fe (xs.map e) ρ [])=.ok (xs.filterMap g):=by
 have h:∀(xs:bb α) (a:bb D) (ρ:aO),I ρ->a.length+xs.length<=1000->(∀x∈xs,∀ρ,I ρ->∃ρ',kT gt ft fe (e x) ρ=.ok (g x,ρ')/\I ρ')->dG gt ft fe (xs.map e) ρ a=.ok (a++xs.filterMap g):=by
  intro xs
  induction xs with
  |nil=>intro a ρ _ _ _;show Res.ok a=_;rw[List.filterMap_nil,Qh]
  |cons x r i=>
   intro a ρ l f b;rw[PN]at f;obtain⟨ρ',n,m⟩:=b x PH ρ l;rw[PY,rE n (by ext)];have d:(a++(g x).toList).length+r.length<=1000:=by
    rw[PJ];cases g x with
    |none=>rw[X6,QA];ext
    |some y=>rw[Option.toList_some,Ta];ext
   rw[i _ ρ' m d λy j=>b y (PD _ j),QS];cases q:g x with
   |none=>rw[W4 q];rfl
   |some y=>rw[W5 q];rfl
 rw[h xs [] ρ o (by simpa using f) b];rfl
theorem BZ(a:dj cp=cp):dj (Bn (PV.fz d)::cp)=Bn (.fz d)::cp:=by show Eh _::dj cp=_;rw[a];rfl
theorem mC{α:Type}{ft:FT}{fe:FE}{a:aO}(e f:α->D)(p:α->Bool)(xs:bb α)(i:xs.length<=1000)(l:dj a=a)(g:∀x∈xs,ft (Bn (.fz (e x))::a)=.ok (p x,Bn (.fz (e x))::a))(j:∀x∈xs,p x=Pr->fe (Bn (.fz (e x))::a)=.ok (.fz (f x),Bn (.fz (e x))::a)):kh (dG (gN 0) ft fe (xs.map e) (Pn::a) [])=.ok ((xs.filter p).map f):=by
 rw[p9 e (λx=>if p x=Pr then Bn (f x)else Pn) (λρ=>∃o,ρ=o::a) xs ⟨Pn,rfl⟩ i ?_]
 .congr 1
  clear i g j
  induction xs with
  |nil=>rfl
  |cons x r h=>
   cases q:p x with
   |true=>rw[W5 (b:=f x) (by rw[av q]),List.filter_cons_of_pos q,h];rfl
   |false=>rw[W4 (by rw[ax (by rw[q];simp)]),List.filter_cons_of_neg (by rw[q];simp),h]
 .rintro x d ρ ⟨o,rfl⟩
  cases q:p x with
  |true=>exact⟨_,C0 rfl ((g x d).trans (by rw[q])) (j x d q) rfl (BZ l),_,rfl⟩
  |false=>exact⟨_,K4 rfl ((g x d).trans (by rw[q])) (BZ l),_,rfl⟩
theorem zv(xs:bb α):xs.filter (λ_=>Pr)=xs:=List.filter_eq_self.mpr λ_ _=>rfl
theorem qA{α:Type}(e f:α->D)(xs:bb α)(b:xs.length<=1000)(g:dj cp=cp)(d:∀x∈xs,fe (Bn (.fz (e x))::cp)=.ok (.fz (f x),Bn (.fz (e x))::cp)):kh (dG (gN 0) fT fe (xs.map e) (Pn::cp) [])=.ok (xs.map f):=by rw[mC e f (λ_=>Pr) xs b g (λ_ _=>rfl) λx a _=>d x a,zv]
theorem xA(p:α->Bool):∀l:bb α,vn (l.map λc=>Pw.bool (p c))=Bn (l.map p)
 |[]=>rfl
 |c::r=>by show(vn (r.map λc=>Pw.bool (p c))).map (p c::·)=_;rw[xA p r];rfl
theorem FK(p:α->Bool)(l:bb α):FD [.list (l.map λc=>Pw.bool (p c))]=Bn (.fz (.bool (l.all p))):=by show(vn _).map (λbs=>RV.fz (.bool (bs.all id)))=_;rw[xA];show Bn (RV.fz (.bool _))=_;rw[List.all_map];rfl
theorem kL:∀ns:bb Int,i9 (ns.map Pw.int)=Bn ns
 |[]=>rfl
 |n::r=>by show(i9 (r.map Pw.int)).map (n::·)=_;rw[kL r];rfl
abbrev Ac:=Nat->bg Mn
abbrev Wq:=bg (bb Nat×Int×bg (Nat×Int))
structure RQ where
 ac:Ac
 wt:Wq
 oc:bg Int
def c7(ac:Ac):bb (Nat×Mn):=(P0 5).filterMap λk=>(ac k).map λa=>(k,a)
def pD(p:Nat×Mn):D:=.tuple [nd p.1,mD p.2]
def sQ:bg (Nat×Int)->D
 |some (c,n)=>mD (.U5 c n)
 |none=>.tuple [.str "chord"]
def hG:Wq->D
 |some (ks,a,w)=>.tuple [.tuple (aR ks),.int a,sQ w]
 |none=>.none
def nN:bg Int->D
 |some o=>.int o
 |none=>.none
def dA(s:RQ):D:=.tuple [.tuple ((c7 s.ac).map pD),hG s.wt,nN s.oc]
inductive Sq where
 |down (k:Nat)
 |up (k:Nat)
 |turn
def cy:Sq->D
 |.down k=>.tuple [.str "down",nd k]
 |.up k=>.tuple [.str "up",nd k]
 |.turn=>.tuple [.str "turn",.int 0]
theorem eE:p∈c7 ac↔p.1<5/\ac p.1=Bn p.2:=by
 unfold c7;rw[SK];constructor
 .rintro⟨k,d,b⟩
  cases q:ac k with
  |none=>rw[q]at b;cases b
  |some a=>rw[q]at b;cases b;exact⟨Rn.mp d,q⟩
 .rintro⟨d,b⟩;exact⟨p.1,Rn.mpr d,by rw[b];rfl⟩
theorem lz(ac:Ac):(c7 ac).length<=5:=W6 _ _
def Lo:Nat×Mn->bg Int
 |(_,.RY n)=>Bn n
 |_=>Pn
def xo(ac:Ac):Int:=(((c7 ac).filterMap Lo).foldl lJ Pn).getD 0
def lQ(ac:Ac):bg Int->Int
 |some o=>o
 |none=>xo ac
theorem DS(ac:Ac):kh (dG (gT 2 (xY (gN 0) (xY (gN 1) Hl))) (aA (ay cx (ay bc (aa 1) (~~~0)) (pC (.str "layer")))) (ay bc (aa 1) (~~~1)) ((c7 ac).map pD) [Pn,Pn] [])=.ok (((c7 ac).filterMap Lo).map .int):=by
 rw[p9 pD (λp=>(Lo p).map .int) (λρ=>∃d b,ρ=[d,b]) (c7 ac) ⟨Pn,Pn,rfl⟩ (Qz (lz ac) (by decide)) ?_,TV];rintro⟨k,a⟩ _ ρ ⟨d,b,rfl⟩;have g:=rZ a;have f:=DQ a;have e:aA (ay cx (ay bc (aa 1) (~~~0)) (pC (.str "layer"))) [Bn (.fz (nd k)),Bn (.fz (mD a))]=.ok (a.Yn,[Bn (.fz (nd k)),Bn (.fz (mD a))]):=by fail "ev"
 refine⟨[Bn (.fz (nd k)),Bn (.fz (mD a))],?_,_,_,rfl⟩;cases a with
 |RY n=>exact C0 rfl e (aE (af rfl) aG rfl rfl lH) rfl rfl
 |_=>exact K4 rfl e rfl
theorem xz(s:RQ):dQ [dA s]=.ok (.fz (.int (lQ s.ac s.oc))):=by
 refine jD rfl ?_;have a:bc (dA s) (.int 2)=Bn (.fz (nN s.oc)):=tz;have e0:bc (dA s) (.int 0)=Bn (.fz (.tuple ((c7 s.ac).map pD))):=iG;unfold lX;cases q:s.oc with
 |some o=>
  rw[q]at a;have b:kR (nN (Bn o)) .none=Bn (.fz (.bool Pr)):=rfl;fail "go"
  .intro _;exact fY (by fail "ev") rfl rfl
  .intro h;cases h
 |none=>
  rw[q]at a;have b:kR (nN Pn) .none=Bn (.fz (.bool Py)):=rfl;fail "go"
  .intro h;cases h
  .intro _;refine cS (eh (cH (rv:=.fz (.int (xo s.ac))) (ai (dD (by fail "ev") rfl (DS s.ac)) aF) rfl ?_) rfl rfl);show(i9 _).map _=_;rw[kL];rfl
def tt(b:Bd)(L k:Nat):Mn:=((b.ls[L]?.getD [])[k]?).getD .none
def look(b:Bd)(L:Int)(k:Nat):Mn:=if(tt b L.toNat k).isB=Pr then tt b 0 k else tt b L.toNat k
section
variable{b:Bd}(Z:VB b)
include Z
theorem J5{L k:Nat}(a:L<b.ls.length)(e:(k:Int)<b.n):∃l,b.ls[L]?=Bn l/\l[k]?=Bn (tt b L k):=by
 have f:=Z.vl L _ (PM a);have d:k<(b.ls[L]).length:=by ext
 refine⟨_,PM a,?_⟩;unfold tt;rw[PM a,VH,PM d];rfl
theorem yN{L k:Nat}(d:L<b.ls.length)(a:(k:Int)<b.n):VM L b.ls.length (tt b L k):=by obtain⟨l,f,e⟩:=J5 Z d a;exact(Z.vl L l f).2 _ (Qs e)
theorem EJ{L k:Nat}(e:L<b.ls.length)(a:(k:Int)<b.n):∃d,bc (.tuple (b.ls.map cU)) (nd L)=Bn (.fz d)/\bc d (nd k)=Bn (.fz (mD (tt b L k))):=by obtain⟨l,g,f⟩:=J5 Z e a;exact⟨cU l,GC (by rw[PU,g];rfl),GC (by rw[PU,f];rfl)⟩
theorem Ia{L:Int}{k:Nat}(r:0<=L)(p:L<b.ls.length)(e:(k:Int)<b.n):iQ [bD b,.int L,nd k]=.ok (.fz (mD (look b L k))):=by
 obtain⟨n,rfl⟩:∃n:Nat,L=(n:Int):=⟨L.toNat,by ext⟩;have o:=Z.l1;obtain⟨d,u,j⟩:=EJ Z (L:=n) (by ext) e;obtain⟨l,i,h⟩:=EJ Z (L:=0) (by ext) e;have v:bc (bD b) (.int 1)=Bn (.fz (.tuple (b.ls.map cU))):=lH;have g:=rZ (tt b n k);have f:=Fh (tt b n k);have t:bc (.tuple (b.ls.map cU)) (.int 0)=Bn (.fz l):=i;have a:look b (n:Int) k=if(tt b n k).isB=Pr then tt b 0 k else tt b n k:=rfl
 rw[a];generalize tt b n k=m at j g f a;generalize tt b 0 k=m0 at h a;refine jD rfl ?_;unfold kA;fail "go"
 .intro q;rw[av q];exact fY (by fail "ev") rfl rfl
 .intro q;rw[ax (by rw[q];simp)];exact cS (eh (by fail "ev") rfl rfl)
theorem uO{L:Int}{k:Nat}(f:0<=L)(h:L<b.ls.length)(e:(k:Int)<b.n):VM L b.ls.length (look b L k)/\look b L k≠.below:=by
 have g:=Z.l1;have a:=yN Z (L:=0) (k:=k) (by ext) e;have v:=yN Z (L:=L.toNat) (k:=k) (by ext) e;have d:tt b 0 k≠.below:=λz=>by rw[z]at a;exact a rfl
 rw[SF f]at v;unfold look;split
 .refine⟨?_,d⟩
  generalize tt b 0 k=m at a d;cases m with
  |below=>exact a5 rfl d
  |_=>exact a
 .rename_i q;refine⟨v,λz=>?_⟩;rw[z]at q;exact q rfl
omit Z in
theorem E2(ks:bb Nat)(a:ks.length<=5)(c:bb Nat×Nat):aA (eX FD {eu 1 [0] (jr (aa 1)) (gN 0) fT (ay Aq (aa 0) (ay bc (aa 1) (~~~0)))}) [Bn (.fz (cV c)),Bn (.fz (.tuple (aR ks)))]=.ok (ks.all λk=>decide (k∈c.1),[Bn (.fz (cV c)),Bn (.fz (.tuple (aR ks)))]):=by
 have e:kh (dG (gN 0) fT (ay Aq (aa 0) (ay bc (aa 1) (~~~0))) (aR ks) [Pn,Bn (.fz (cV c))] [])=.ok (ks.map λk=>.bool (decide (k∈c.1))):=qA nd (λk=>.bool (decide (k∈c.1))) ks (by ext) rfl λk _=>by have e0:bc (cV c) (.int 0)=Bn (.fz (.tuple (aR c.1))):=iG;exact aE (rv:=.fz (.bool (decide (k∈c.1)))) (af rfl) (by fail "ev") rfl rfl (vM _ _)
 exact bG (cH (rv:=.fz (.bool (ks.all λk=>decide (k∈c.1)))) (ds:=[.list (ks.map λk=>.bool (decide (k∈c.1)))]) (ai (dD (cs:=[cV c]) (ds:=aR ks) (by fail "ev") rfl e) aF) rfl (FK _ _)) rfl
def fA(b:Bd)(ks:bb Nat):bb (bb Nat×Nat):=b.cs.filter λc=>ks.all λk=>decide (k∈c.1)
theorem AD(a:ks.length<=5):bK [bD b,.tuple (aR ks)]=.ok (.ow ((fA b ks).map cV)):=by have e:bc (bD b) (.int 2)=Bn (.fz (.tuple (b.cs.map cV))):=tz;have d:=Z.c4;refine jD rfl ?_;unfold i6;exact eh (dD (cs:=[.tuple (aR ks)]) (by fail "ev") rfl (mC cV cV (λc=>ks.all λk=>decide (k∈c.1)) b.cs (by ext) rfl (λc _=>E2 ks a c) λc _ _=>af rfl)) rfl rfl
def pA(ks:bb Nat):bb Nat:=(dr (ks.map V4)).map Xr
omit Z in
theorem qJ(ks:bb Nat):(pA ks).Perm ks:=by have h:=(cN (ks.map V4)).map Xr;rw[Qy]at h;exact h.trans (by rw[show(Xr∘V4)=id from funext λx=>rfl,List.map_id])
omit Z in
theorem HV(ks:bb Nat):(dr (ks.map V4)).map Pw.int=aR (pA ks):=by unfold pA aR;rw[Qy];refine Tv λx a=>?_;obtain⟨n,_,rfl⟩:=Qo.mp ((cN _).mem_iff.mp a);rfl
omit Z in
theorem zR(ks:bb Nat):(pA ks).Pairwise (·<=·):=by
 have h:∀l:bb Int,l.Pairwise (·<=·)->(l.map Xr).Pairwise (·<=·):=λl h=>by rw[RP];exact h.imp λh=>by ext
 exact h _ (cw _)
omit Z in
theorem Hf(ks:bb Nat):(pA ks).length=ks.length:=(qJ ks).length_eq
omit Z in
theorem wH{ks:bb Nat}(h:ks.length<64):L9.ia [.tuple (aR ks)]=Bn (.ow (aR (pA ks))):=by
 have e:aR ks=(ks.map V4).map Pw.int:=by rw[Qy];rfl
 show(match i9 (aR ks)with
  |some a=>if a.length<64 then Bn (RV.ow ((dr a).map .int))else Pn
  |none=>Pn)=_
 rw[e,kL];dsimp only;rw[av (by rw[Pp];exact h),HV]
def Lk(b:Bd)(ks:bb Nat):bb Mn:=match b.cs.find? λc=>decide (c.1=pA ks)with
 |some c=>.Qa c.2::PK (ks.length - 1) .none
 |none=>ks.map (tt b 0)
omit Z in
theorem IB(b:Bd){ks:bb Nat}(h:1<=ks.length):(Lk b ks).length=ks.length:=by
 unfold Lk;split
 .rw[PN,Qg];ext
 .rw[Pp]
omit Z in
theorem JQ(n:Nat)(d:D):(PK n [d]).flatten=PK n d:=by
 induction n with
 |zero=>rfl
 |succ n a=>rw[QF,RO,a];rfl
theorem Lm{ks:bb Nat}(h1:1<=ks.length)(E:ks.length<=5)(A:∀k∈ks,(k:Int)<b.n):fV [bD b,.tuple (aR ks)]=.ok (.ow ((Lk b ks).map mD)):=by
 have F:bc (bD b) (.int 2)=Bn (.fz (.tuple (b.cs.map cV))):=tz;have G:bc (bD b) (.int 1)=Bn (.fz (.tuple (b.ls.map cU))):=lH;have C:=Z.l1;have i:=wH (ks:=ks) (by ext);refine jD rfl ?_;unfold jx;have rt:∀c:bb Nat×Nat,(ay de (dg {bQ {pC (.str "letter"),ay bc (aa 2) (~~~1)}}) (ay dM (dg {pC (.tuple [(.str "none")])}) (ay pJ (eX gm {aa 1}) (~~~1)))) [Bn (.fz (bD b)),Bn (.fz (.tuple (aR ks))),Bn (.fz (cV c))]=.ok (.ow ((Mn.Qa c.2::PK (ks.length - 1) Mn.none).map mD),[Bn (.fz (bD b)),Bn (.fz (.tuple (aR ks))),Bn (.fz (cV c))]):=λc=>by
  have l:bc (cV c) (.int 1)=Bn (.fz (.str (cW c.2))):=lH;have j:dM (.list [.tuple [.str "none"]]) (.int (((aR ks).length:Int) - 1))=Bn (.ow (PK (ks.length - 1) (.tuple [.str "none"]))):=by rw[dH,show((ks.length:Int) - 1)=((ks.length - 1:Nat):Int) by ext];exact(Ei (by ext) (by decide)).trans (by rw[JQ])
  have w:de (.list [mD (.Qa c.2)]) (.list (PK (ks.length - 1) (.tuple [.str "none"])))=Bn (.ow ((Mn.Qa c.2::PK (ks.length - 1) Mn.none).map mD)):=by show(if 1+(PK (ks.length - 1) (Pw.tuple [.str "none"])).length<=1000000 then Bn (RV.ow ([mD (.Qa c.2)]++PK (ks.length - 1) (Pw.tuple [.str "none"])))else Pn)=_;rw[Qg,av (by ext),PY,YB];rfl
  exact aE (by fail "ev") (aE (by fail "ev") (aE (by fail "ev") aG rfl rfl (zO _ _)) rfl rfl j) rfl rfl w
 have f:∀(e:bb (bb Nat×Nat)) (o:bg PV),(∀c,e.find? (λc=>decide (c.1=pA ks))=Bn c->pF (gN 2) (jv (aA (ay cx (eX sX {ay bc (aa 2) (~~~0)}) (eX L9.ia {aa 1}))) (c9 (ay de (dg {bQ {pC (.str "letter"),ay bc (aa 2) (~~~1)}}) (ay dM (dg {pC (.tuple [(.str "none")])}) (ay pJ (eX gm {aa 1}) (~~~1))))) dw) (e.map cV) [Bn (.fz (bD b)),Bn (.fz (.tuple (aR ks))),o]=.ok (.rt (.ow ((Mn.Qa c.2::PK (ks.length - 1) Mn.none).map mD))))/\
   (e.find? (λc=>decide (c.1=pA ks))=Pn->∃u,pF (gN 2) (jv (aA (ay cx (eX sX {ay bc (aa 2) (~~~0)}) (eX L9.ia {aa 1}))) (c9 (ay de (dg {bQ {pC (.str "letter"),ay bc (aa 2) (~~~1)}}) (ay dM (dg {pC (.tuple [(.str "none")])}) (ay pJ (eX gm {aa 1}) (~~~1))))) dw) (e.map cV) [Bn (.fz (bD b)),Bn (.fz (.tuple (aR ks))),o]=.ok (.nx [Bn (.fz (bD b)),Bn (.fz (.tuple (aR ks))),u])):=by
  intro e
  induction e with
  |nil=>exact λo=>⟨λc h=>(by cases h),λ_=>⟨o,rfl⟩⟩
  |cons c r z=>
   intro o;have B:bc (cV c) (.int 0)=Bn (.fz (.tuple (aR c.1))):=iG
   have a:aA (ay cx (eX sX {ay bc (aa 2) (~~~0)}) (eX L9.ia {aa 1})) [Bn (.fz (bD b)),Bn (.fz (.tuple (aR ks))),Bn (.fz (cV c))]=.ok (decide (c.1=pA ks),[Bn (.fz (bD b)),Bn (.fz (.tuple (aR ks))),Bn (.fz (cV c))]):=
    bG (aE (cH (by fail "ev") rfl rfl) (cH (by fail "ev") rfl i) rfl rfl (vi _ _)) rfl
   rw[Rr];by_cases h:c.1=pA ks
   .rw[aP h]at a⊢;refine⟨λH t=>?_,λt=>(by cases t)⟩;cases t;show((gN 2 (.fz (cV c)) [Bn (.fz (bD b)),Bn (.fz (.tuple (aR ks))),o]).bind λg=>_)=_;rw[Fb,dt];show((jv _ _ _ [Bn (.fz (bD b)),Bn (.fz (.tuple (aR ks))),Bn (.fz (cV c))]).bind _)=_;rw[OL a,wu (rt c) rfl];rfl
   .rw[a3 h]at a⊢
    have st:pF (gN 2) (jv (aA (ay cx (eX sX {ay bc (aa 2) (~~~0)}) (eX L9.ia {aa 1}))) (c9 (ay de (dg {bQ {pC (.str "letter"),ay bc (aa 2) (~~~1)}}) (ay dM (dg {pC (.tuple [(.str "none")])}) (ay pJ (eX gm {aa 1}) (~~~1))))) dw) ((c::r).map cV) [Bn (.fz (bD b)),Bn (.fz (.tuple (aR ks))),o]=pF (gN 2) (jv (aA (ay cx (eX sX {ay bc (aa 2) (~~~0)}) (eX L9.ia {aa 1}))) (c9 (ay de (dg {bQ {pC (.str "letter"),ay bc (aa 2) (~~~1)}}) (ay dM (dg {pC (.tuple [(.str "none")])}) (ay pJ (eX gm {aa 1}) (~~~1))))) dw) (r.map cV) [Bn (.fz (bD b)),Bn (.fz (.tuple (aR ks))),Bn (.fz (cV c))]:=by show((gN 2 (.fz (cV c)) [Bn (.fz (bD b)),Bn (.fz (.tuple (aR ks))),o]).bind λg=>_)=_;rw[Fb,dt];show((jv _ _ _ [Bn (.fz (bD b)),Bn (.fz (.tuple (aR ks))),Bn (.fz (cV c))]).bind _)=_;rw[OE a];rfl
    rw[st];exact z _
 obtain⟨y,m⟩:=f b.cs Pn;have v:jr (ay bc (aa 0) (~~~2)) [Bn (.fz (bD b)),Bn (.fz (.tuple (aR ks))),Pn]=.ok (b.cs.map cV,[Bn (.fz (bD b)),Bn (.fz (.tuple (aR ks))),Pn]):=by fail "ev"
 unfold Lk;cases q:b.cs.find? λc=>decide (c.1=pA ks)with
 |some c=>exact .eq (Dl ((yY v).trans (y c q))) ⟨rfl⟩
 |none=>obtain⟨u,m⟩:=m q;refine .eq (zj ((yY v).trans m)) ?_;refine eh (dD (by fail "ev") rfl ?_) rfl rfl;rw[Qy];refine qA nd (mD∘tt b 0) ks (by ext) rfl λk p=>?_;obtain⟨d,l,j⟩:=EJ Z (L:=0) (by ext) (A k p);have l:bc (.tuple (b.ls.map cU)) (.int 0)=Bn (.fz d):=l;exact aE (by fail "ev") (af rfl) rfl rfl j
end
end STP
local macro_rules|`(-($x))=>`(Option.some (.fz $x))
namespace STP
open PySem L2 L3
open L10
def kj(p:Nat×Mn):cT×SV:=(.inl (p.1:Int),.fz (mD p.2))
def iL(ac:Ac)(k:Nat)(o:bg Mn):Ac:=λj=>if j=k then o else ac j
theorem cZ:iL ac k o k=o:=by unfold iL;rw[av rfl]
theorem eB(h:j≠k):iL ac k o j=ac j:=by unfold iL;rw[ax h]
theorem EC(ac:Ac):(c7 ac).Pairwise λp q=>p.1<q.1:=by
 unfold c7;refine abE _ (λa f h p d q b=>?_) (RA);cases e:ac a with
 |none=>rw[e]at d;cases d
 |some x=>
  cases e':ac f with
  |none=>rw[e']at b;cases b
  |some y=>rw[e]at d;rw[e']at b;cases d;cases b;exact h
theorem kE(ac:Ac):((c7 ac).map (·.1)).Nodup:=by rw[QQ,RP];exact(EC ac).imp λh=>P5 h
theorem Ai{l:bb (Nat×Mn)}(h:(l.map (·.1)).Nodup):l.Nodup:=by rw[QQ,RP]at h;exact h.imp λh e=>h (by rw[e])
theorem ra{l:bb (Nat×Mn)}(h:(l.map (·.1)).Nodup)(hm:∀p,p∈l↔p.1<5/\ac p.1=Bn p.2):l.Perm (c7 ac):=
 (List.perm_ext_iff_of_nodup (Ai h) (Ai (kE ac))).mpr λp=>(hm p).trans eE.symm
section
variable{ps:bb (Nat×Mn)}{ac:Ac}(Z:ps.Perm (c7 ac))
include Z
theorem kH:p∈ps↔p.1<5/\ac p.1=Bn p.2:=Z.mem_iff.trans eE
theorem Fm:(ps.map (·.1)).Nodup:=(Z.map (·.1)).nodup_iff.mpr (kE ac)
theorem D5:ps.length<=5:=by rw[Z.length_eq];exact lz ac
theorem mS{k:Nat}(d:k<5):jR (ps.map kj) (.inl (k:Int))=(ac k).map λa=>SV.fz (mD a):=by
 unfold jR;cases q:(ps.map kj).find? λb=>decide (b.1=(.inl (k:Int):cT))with
 |none=>
  cases e:ac k with
  |none=>rfl
  |some a=>have:=List.find?_eq_none.mp q (kj (k,a)) (Qo.mpr ⟨(k,a),(kH Z).mpr ⟨d,e⟩,rfl⟩);exact a5 (aP rfl) this
 |some b=>
  obtain⟨p,h,rfl⟩:=Qo.mp (WI q);have g:=a4 (List.find?_some (p:=λb:cT×SV=>decide (b.1=(.inl (k:Int):cT))) q);have f:p.1=k:=by have:=Sum.inl.inj g;ext
  rw[<-f,((kH Z).mp h).2];rfl
theorem Ht{k:Nat}(n:k<5):∃qs:bb (Nat×Mn),ka (ps.map kj) (.inl (k:Int)) (.fz (mD a))=qs.map kj/\qs.Perm (c7 (iL ac k (Bn a))):=by
 unfold ka;have f:∀p:Nat×Mn,((kj p).1=(.inl (k:Int):cT))↔p.1=k:=λp=>⟨λh=>by have:=Sum.inl.inj h;ext,λh=>by rw[<-h];rfl⟩;split
 .rename_i h
  refine⟨ps.map λp=>if p.1=k then(k,a)else p,?_,ra ?_ λp=>?_⟩
  .rw[Qy,Qy]
   refine Tv λp _=>?_;show(if(kj p).1=(.inl (k:Int):cT)then((kj p).1,SV.fz (mD a))else kj p)=kj (if p.1=k then(k,a)else p);by_cases e:p.1=k
   .rw[av ((f p).mpr e),av e,(f p).mpr e];rfl
   .rw[ax (λz=>e ((f p).mp z)),ax e]
  .rw[Qy,show ps.map ((·.1)∘λp:Nat×Mn=>if p.1=k then(k,a)else p)=ps.map (·.1)from Tv λp _=>by
    show(if p.1=k then(k,a)else p).1=p.1;split
    .rename_i e;exact e.symm
    .rfl]
   exact Fm Z
  .obtain⟨v,j,i⟩:=RD.mp h
   obtain⟨m,u,rfl⟩:=Qo.mp j;have b:=(f m).mp (a4 i);rw[Qo];constructor
   .rintro⟨r,t,rfl⟩
    split
    .exact⟨n,cZ⟩
    .rename_i e;have:=(kH Z).mp t;exact⟨this.1,by rw[eB e];exact this.2⟩
   .rintro⟨d,g⟩
    by_cases e:p.1=k
    .rw[e,cZ]at g;refine⟨m,u,?_⟩;rw[av b,<-e,P4 g]
    .rw[eB e]at g;exact⟨p,(kH Z).mpr ⟨d,g⟩,by rw[ax e]⟩
 .rename_i h
  have hn:=λp l e=>h (RD.mpr ⟨kj p,Qo.mpr ⟨p,l,rfl⟩,aP ((f p).mpr e)⟩);refine⟨ps++[(k,a)],by rw[Qb];rfl,ra ?_ λp=>?_⟩
  .rw[Qb,QU];refine⟨Fm Z,Q3.mpr ⟨Rj,Sb⟩,λx q y o=>?_⟩;obtain⟨p,b,rfl⟩:=Qo.mp q;rw[PL.mp o];exact hn p b
  .rw[Qm,PL]
   constructor
   .rintro(b|rfl)
    .have:=(kH Z).mp b;exact⟨this.1,by rw[eB (hn p b)];exact this.2⟩
    .exact⟨n,cZ⟩
   .rintro⟨b,d⟩
    by_cases e:p.1=k
    .rw[e,cZ]at d;exact .inr (by rw[<-e,P4 d])
    .rw[eB e]at d;exact .inl ((kH Z).mpr ⟨b,d⟩)
theorem DN{k:Nat}:∃qs:bb (Nat×Mn),l6 (ps.map kj) (.inl (k:Int))=qs.map kj/\qs.Perm (c7 (iL ac k Pn)):=by
 have f:∀p:Nat×Mn,((kj p).1=(.inl (k:Int):cT))↔p.1=k:=λp=>⟨λh=>by have:=Sum.inl.inj h;ext,λh=>by rw[<-h];rfl⟩;refine⟨ps.filter λp=>decide (p.1≠k),?_,ra ?_ λp=>?_⟩
 .unfold l6;rw[List.filter_map];congr 1;refine List.filter_congr λp _=>?_;exact decide_eq_decide.mpr (not_congr (f p))
 .exact afh ((List.filter_sublist).map _) (Fm Z)
 .rw[Q9,kH Z,decide_eq_true_eq]
  constructor
  .rintro⟨⟨b,a⟩,d⟩;exact⟨b,by rw[eB d];exact a⟩
  .rintro⟨b,a⟩
   by_cases e:p.1=k
   .rw[e,cZ]at a;cases a
   .rw[eB e]at a;exact⟨⟨b,a⟩,e⟩
theorem F8:aC zm ((ps.map kj).map (·.1))=Bn (ps.map λp=>(p.1:Int)):=by
 clear Z
 induction ps with
 |nil=>rfl
 |cons p r a=>rw[PY,PY];unfold aC;rw[a];rfl
theorem Gf:dr (ps.map λp=>(p.1:Int))=(c7 ac).map λp=>(p.1:Int):=by refine gk ((cN _).trans (Z.map _)) (cw _) ?_;rw[RP];exact(EC ac).imp λh=>by ext
end
abbrev Sn:=bb (Nat×Bool)
def gh(ac:Ac)(a:Mn):Bool:=decide (a∈(c7 ac).map (·.2))
def sJ(ac:Ac):Mn->Sn
 |.Qa c=>if gh ac (.Qa c)=Pr then[]else[(c,Pr)]
 |_=>[]
def Lu(ac:Ac):Mn->Sn
 |.Qa c=>if gh ac (.Qa c)=Pr then[]else[(c,Py)]
 |_=>[]
def eI(p:RQ×Sn)(k:Nat)(a:Mn):RQ×Sn:=({p.1 with ac:=iL p.1.ac k (Bn a)},p.2++sJ p.1.ac a)
def go(p:RQ×Sn)(k:Nat):RQ×Sn:=match p.1.ac k with
 |some a=>({p.1 with ac:=iL p.1.ac k Pn},p.2++Lu (iL p.1.ac k Pn) a)
 |none=>p
def gP(p:RQ×Sn)(a:bb (Nat×Mn)):RQ×Sn:=a.foldl (λp q=>eI p q.1 q.2) p
def fG(b:Bd)(ks:bb Nat):bg (Nat×Int)->bb Mn
 |some (_,n)=>[.RY n]
 |none=>Lk b ks
def cD(b:Bd)(p:RQ×Sn):RQ×Sn:=match p.1.wt with
 |none=>p
 |some (ks,_,w)=>gP ({p.1 with wt:=Pn},p.2) (ks.zip (fG b ks w))
def lZ:Wq->Nat->Bool
 |some (ks,_,_),k=>decide (k∈ks)
 |none,_=>Py
def Fa(b:Bd)(s:RQ)(k:Nat):Bool:=match s.wt with
 |some (ks,_,Pn)=>decide (lQ s.ac s.oc=0)&& !(fA b (ks++[k])).isEmpty
 |_=>Py
def sS(b:Bd)(p:RQ×Sn)(k:Nat):RQ×Sn:=match p.1.wt with
 |some (ks,g,_)=>if(fA b (ks++[k])).map (·.1.length)=[(ks++[k]).length]then cD b ({p.1 with wt:=Bn (ks++[k],g,Pn)},p.2)else({p.1 with wt:=Bn (ks++[k],g,Pn)},p.2)
 |none=>p
def et(s:RQ)(m:Mn):RQ:=if(m.Yn||m.isO)=Pr then s else{s with oc:=Pn}
def rS(b:Bd)(L:Int)(p:RQ×Sn)(k:Nat):Mn->RQ×Sn
 |.U5 c n=>({p.1 with wt:=Bn ([k],0,Bn (c,n))},p.2)
 |.Qa c=>if(decide (L=0)&& !(fA b [k]).isEmpty)=Pr then({p.1 with wt:=Bn ([k],0,Pn)},p.2)else eI p k (.Qa c)
 |.once n=>({(eI p k .none).1 with oc:=Bn n},(eI p k .none).2)
 |m=>eI p k m
def CA(b:Bd)(p:RQ×Sn)(k:Nat):RQ×Sn:=
 rS b (lQ p.1.ac p.1.oc) (et p.1 (look b (lQ p.1.ac p.1.oc) k),p.2) k (look b (lQ p.1.ac p.1.oc) k)
def jc(b:Bd)(p:RQ×Sn)(k:Nat):RQ×Sn:=
 if((p.1.ac k).isSome||lZ p.1.wt k)=Pr then p else if Fa b p.1 k=Pr then sS b p k else CA b (cD b p) k
def cj(b:Bd)(p:RQ×Sn)(k:Nat):RQ×Sn:=match p.1.wt with
 |some (_,_,Pn)=>cD b p
 |some (_,_,Bn (c,_))=>eI ({p.1 with wt:=Pn},p.2) k (.Qa c)
 |none=>p
def pO(b:Bd)(p:RQ×Sn)(k:Nat):RQ×Sn:=go (if lZ p.1.wt k=Pr then cj b p k else p) k
def ja(b:Bd)(p:RQ×Sn):RQ×Sn:=match p.1.wt with
 |none=>p
 |some (ks,g,w)=>if g+1=b.wt then cD b ({p.1 with wt:=Bn (ks,g+1,w)},p.2)else({p.1 with wt:=Bn (ks,g+1,w)},p.2)
def bN(b:Bd)(s:RQ):Sq->RQ×Sn
 |.down k=>jc b (s,[]) k
 |.up k=>pO b (s,[]) k
 |.turn=>ja b (s,[])
def uD(b:Bd)(s:RQ):bb (Str×SV):=[("bed",.fz (bD b)),("acts",.rf 1),("waiting",.fz (hG s.wt)),("once",.fz (nN s.oc)),("sent",.rf 2)]
def iC(p:Nat×Bool):D:=.tuple [.str (cW p.1),.str (if p.2=Pr then "down" else "up")]
def d9(b:Bd)(s:RQ)(sn:Sn)(ps:bb (Nat×Mn))(J:aZ):aZ:=.obj "Hand" (uD b s):: .Vo (ps.map kj):: .lst ((sn.map iC).map .fz)::J
def HS(b:Bd)(p:RQ×Sn)(Z:aZ):Prop:=∃ps J,ps.Perm (c7 p.1.ac)/\Z=d9 b p.1 p.2 ps J
section
variable{b:Bd}{s:RQ}{sn:Sn}{ps:bb (Nat×Mn)}{J:aZ}{ρ:bv}{i:Nat}{Z:aZ}{p:RQ×Sn}{k:Nat}{a:Mn}
theorem Ln:(uD b s).lookup ("bed":Str)=-(bD b):=by unfold uD;rw[Si]
theorem Iy:(uD b s).lookup ("acts":Str)=Bn (.rf 1):=by unfold uD;rw[P6,show(("acts":Str)== "bed")=Py by left];dsimp only;rw[Si]
theorem IX:(uD b s).lookup ("waiting":Str)=-(hG s.wt):=by unfold uD;rw[P6,show(("waiting":Str)== "bed")=Py by left];dsimp only;rw[P6,show(("waiting":Str)== "acts")=Py by left];dsimp only;rw[Si]
theorem Hk:(uD b s).lookup ("once":Str)=-(nN s.oc):=by unfold uD;rw[P6,show(("once":Str)== "bed")=Py by left];dsimp only;rw[P6,show(("once":Str)== "acts")=Py by left];dsimp only;rw[P6,show(("once":Str)== "waiting")=Py by left];dsimp only;rw[Si]
theorem GK:(uD b s).lookup ("sent":Str)=Bn (.rf 2):=by unfold uD;rw[P6,show(("sent":Str)== "bed")=Py by left];dsimp only;rw[P6,show(("sent":Str)== "acts")=Py by left];dsimp only;rw[P6,show(("sent":Str)== "waiting")=Py by left];dsimp only;rw[P6,show(("sent":Str)== "once")=Py by left];dsimp only;rw[Si]
def Ot(m:Str):Bool:=(m== "bed"||m== "acts"||m== "waiting"||m== "once"||m== "sent")==Py
theorem NG(h:Ot m=Pr):(uD b s).lookup m=Pn:=by unfold Ot at h;simp only[beq_iff_eq,X8]at h;obtain⟨⟨⟨⟨j,g⟩,f⟩,e⟩,d⟩:=h;unfold uD;rw[P6,j];dsimp only;rw[P6,g];dsimp only;rw[P6,f];dsimp only;rw[P6,e];dsimp only;rw[P6,d];rfl
theorem oJ(h:ρ[i]?=Bn (Bn (.rf 0))):b4 "Hand" "bed" (az i) ρ (d9 b s sn ps J)=.ok (.fz (bD b)) (d9 b s sn ps J):=qZ (bC h) rfl Ln
theorem ic(h:ρ[i]?=Bn (Bn (.rf 0))):b4 "Hand" "acts" (az i) ρ (d9 b s sn ps J)=.ok (.rf 1) (d9 b s sn ps J):=qZ (bC h) rfl Iy
theorem bW(h:ρ[i]?=Bn (Bn (.rf 0))):b4 "Hand" "waiting" (az i) ρ (d9 b s sn ps J)=.ok (.fz (hG s.wt)) (d9 b s sn ps J):=qZ (bC h) rfl IX
theorem BR(h:ρ[i]?=Bn (Bn (.rf 0))):b4 "Hand" "once" (az i) ρ (d9 b s sn ps J)=.ok (.fz (nN s.oc)) (d9 b s sn ps J):=qZ (bC h) rfl Hk
theorem vA(h:ρ[i]?=Bn (Bn (.rf 0))):b4 "Hand" "sent" (az i) ρ (d9 b s sn ps J)=.ok (.rf 2) (d9 b s sn ps J):=qZ (bC h) rfl GK
theorem EE(w:Wq):e9 "waiting" (.fz (hG w)) (uD b s)=uD b {s with wt:=w}:=by unfold uD;unfold e9;rw[ax (by left)];unfold e9;rw[ax (by left)];unfold e9;rw[av rfl]
theorem Eu(o:bg Int):e9 "once" (.fz (nN o)) (uD b s)=uD b {s with oc:=o}:=by unfold uD;unfold e9;rw[ax (by left)];unfold e9;rw[ax (by left)];unfold e9;rw[ax (by left)];unfold e9;rw[av rfl]
theorem lj(w:Wq)(h:ρ[i]?=Bn (Bn (.rf 0)))(d:fe ρ Z=.ok (.fz (hG w)) (d9 b s sn ps J)):iu "Hand" "waiting" (az i) fe ρ Z=.ok (.nx ρ) (d9 b {s with wt:=w} sn ps J):=
 (zb d (bC h) rfl (by exact PB rfl)).trans (by rw[EE];rfl)
theorem AC(o:bg Int)(h:ρ[i]?=Bn (Bn (.rf 0)))(d:fe ρ Z=.ok (.fz (nN o)) (d9 b s sn ps J)):iu "Hand" "once" (az i) fe ρ Z=.ok (.nx ρ) (d9 b {s with oc:=o} sn ps J):=
 (zb d (bC h) rfl (by exact PB rfl)).trans (by rw[Eu];rfl)
theorem b9(d:HS b p Z)(hm:Ot m=Pr)(h:ρ[i]?=Bn (Bn (.rf 0)))(ha:fa ρ Z=.ok xs Z)(hn:(SV.rf 0::xs).length=n)(e:F (.rf 0::xs) Z=.ok x Z'):aY "Hand" m F n (az i) fa ρ Z=.ok x Z':=by obtain⟨ps,J,f,rfl⟩:=d;exact IZ (bC h) rfl (NG hm) ha hn e
theorem Ff(ps:bb (Nat×Mn)):(ps.map kj).map (·.2)=((ps.map (·.2)).map mD).map SV.fz:=by rw[Qy,Qy,Qy];rfl
def AK(ac:Ac):Prop:=∀k a,ac k=Bn a->k<5/\LB a
theorem DW(e:HS b p Z)(f:AK p.1.ac)(ha:LB a):∃Z',bR [.rf 0,.fz (mD a)] Z=.ok (.fz (.bool (gh p.1.ac a))) Z'/\HS b p Z':=by
 obtain⟨ps,J,d,rfl⟩:=e;have h:gh p.1.ac a=decide (a∈ps.map (·.2)):=decide_eq_decide.mpr (d.map (·.2)).symm.mem_iff;have lb:∀m∈ps.map (·.2),LB m:=λm hm=>by obtain⟨q,g,rfl⟩:=Qo.mp hm;exact(f _ _ ((kH d).mp g).2).2
 refine⟨d9 b p.1 p.2 ps (J++[.lst ((ps.map kj).map (·.2))]),?_,ps,_,d,rfl⟩;rw[h];exact mn rfl (jI (cR (ah (af rfl)) (GS (ic rfl) rfl) (iV rfl (eS (by rw[Ff];exact bf)) (IL ha lb))))
theorem A5(f:sn.length<1000)(h:ρ[i]?=Bn (Bn (.rf 0)))(e:fe ρ (d9 b s sn ps J)=.ok (.fz (iC (c,d))) (d9 b s sn ps J)):pz (b4 "Hand" "sent" (az i)) fe ρ (d9 b s sn ps J)=.ok (.fz .none) (d9 b s (sn++[(c,d)]) ps J):=
 (ou (vA h) rfl e rfl (by rw[Pp,Pp];ext)).trans (by unfold d9;rw[Qb,Qb];rfl)
theorem qN(d:ps.Perm (c7 s.ac))(g:k<5)(m:ρ[0]?=Bn (Bn (.rf 0)))(h1:ρ[1]?=Bn (-(nd k)))(l:ρ[2]?=Bn (-(mD a))):∃qs:bb (Nat×Mn),qs.Perm (c7 (iL s.ac k (Bn a)))/\yf (b4 "Hand" "acts" (az 0)) (ag (aa 1)) (ag (aa 2)) ρ (d9 b s sn ps J)=.ok (.nx ρ) (d9 b {s with ac:=iL s.ac k (Bn a)} sn qs J):=by obtain⟨qs,j,h⟩:=Ht d g;have f:aa 1 (cB ρ)=.ok (.fz (nd k),cB ρ):=af (by unfold cB;rw[PU,h1];rfl);have e:aa 2 (cB ρ)=.ok (.fz (mD a),cB ρ):=af (by unfold cB;rw[PU,l];rfl);refine⟨qs,h,(HP (ah e) (ic m) (ah f) rfl rfl (by rw[Pp];have:=D5 d;ext)).trans ?_⟩;rw[j];rfl
theorem pV(h:HS b p Z)(u:AK p.1.ac)(ha:LB a)(j:k<5)(t:p.2.length<1000):∃Z',bz [.rf 0,.fz (nd k),.fz (mD a)] Z=.ok (.fz .none) Z'/\HS b (eI p k a) Z':=by
 have e0:=rZ a;have o:=jm a;cases q:a.Zt with
 |false=>
  obtain⟨ps,J,f,rfl⟩:=h;rw[q]at o;obtain⟨d,g,v⟩:=qN (ρ:=[Bn (.rf 0),-(nd k),-(mD a)]) f j rfl rfl rfl;refine⟨_,lg rfl (dR (cO (cF (bU (by fail "ev"))) cK) v),d,J,g,?_⟩;have:sJ p.1.ac a=[]:=by cases a<;>first|rfl|cases q
  unfold eI;rw[this,Qh]
 |true=>
  rw[q]at o;obtain⟨w,g,y⟩:=DW h u ha;have r:∀n,gh p.1.ac a=n->(jS (bT (aA (ay cx (ay bc (aa 2) (~~~0)) (pC (.str "letter"))))) (sV (bM (aY "Hand" "has_act" bR 2 (az 0) (au (ag (aa 2)) bi))))) [Bn (.rf 0),-(nd k),-(mD a)] Z=.ok (!n) w:=λn e=>by rw[e]at g;exact cX (bU (by fail "ev")) (mY (aV (b9 h (by left) rfl (aw (ah (af rfl)) aQ) rfl g)))
  obtain⟨ps,J,f,rfl⟩:=y;cases q2:gh p.1.ac a with
  |true=>
   obtain⟨d,m,l⟩:=qN (ρ:=[Bn (.rf 0),-(nd k),-(mD a)]) f j rfl rfl rfl;refine⟨_,lg rfl (dR (cO (r Pr q2) cK) l),d,J,m,?_⟩;have:sJ p.1.ac a=[]:=by
    cases a<;>first|cases q|skip
    show(if gh p.1.ac _=Pr then _ else _)=_;rw[av q2]
   unfold eI;rw[this,Qh]
  |false=>
   cases a<;>first|cases q|skip
   rename_i c;obtain⟨d,m,l⟩:=qN (ρ:=[Bn (.rf 0),-(nd k),-(mD (.Qa c))]) (sn:=p.2++[(c,Pr)]) f j rfl rfl rfl;have z:bc (mD (.Qa c)) (.int 1)=-(.str (cW c)):=lH;refine⟨_,lg rfl (dR (fO (r Py q2) (eJ (A5 t rfl (ah (show _=Res.ok (PV.fz (.tuple [.str (cW c),.str "down"]),_) by fail "ev"))))) l),d,J,m,?_⟩;have:sJ p.1.ac (.Qa c)=[(c,Pr)]:=by show(if gh p.1.ac _=Pr then _ else _)=_;rw[ax (by rw[q2];simp)]
   unfold eI;rw[this]
end
end STP
namespace STP
open PySem L2 L3 L10
def VA(a:Int):Mn->Prop
 |.Qa c=>c<26
 |.RY n=>1<=n/\n<a
 |.none=>True
 |_=>False
theorem VA.lb(h:VA nL m):LB m:=by
 cases m with
 |Qa c=>exact h
 |U5 c n=>exact h.elim
 |_=>trivial
structure SA(b:Bd)(s:RQ):Prop where
 ac:∀k a,s.ac k=Bn a->(k:Int)<b.n/\VA b.ls.length a
 oc:∀o,s.oc=Bn o->1<=o/\o<b.ls.length
structure WV(b:Bd)(ac:Ac)(ks:bb Nat)(g:Int)(w:bg (Nat×Int)):Prop where
 ne:ks≠[]
 nd:ks.Nodup
 kn:∀k∈ks,(k:Int)<b.n
 kf:∀k∈ks,ac k=Pn
 g0:0<=g
 tp:∀c n,w=Bn (c,n)->c<26/\(1<=n/\n<b.ls.length)/\ks.length=1
 ch:w=Pn->∀k∈ks,pB (b.ls.headD []) k=Pr
structure SW(b:Bd)(s:RQ):Prop where
 sa:SA b s
 wt:∀ks g w,s.wt=Bn (ks,g,w)->WV b s.ac ks g w/\g<b.wt
theorem uT{ks:bb Nat}(hd:ks.Nodup)(h:∀k∈ks,k<n):ks.length<=n:=by rw[<-Hf ks];have b:=(qJ ks).nodup_iff.mpr hd;refine IK (((zR ks).and b).imp λh=>by ext) λk a=>h k ((qJ ks).mem_iff.mp a)
section
variable{b:Bd}(Z:VB b){s:RQ}{p:RQ×Sn}{ks:bb Nat}{g:Int}{w:bg (Nat×Int)}{ac:Ac}{k:Nat}{a:Mn}
include Z
theorem WV.len(h:WV b ac ks g w):ks.length<=5:=uT h.nd λk d=>by have:=h.kn k d;have:=Z.n5;ext
omit Z in
theorem WV.aes(h:WV b ac ks g w):1<=ks.length:=List.length_pos_iff.mpr h.ne
theorem SA.ak(h:SA b s):AK s.ac:=λk a e=>by have:=h.ac k a e;have:=Z.n5;exact⟨by ext,(h.ac k a e).2.lb⟩
omit Z in
theorem SA.cm(h:SA b p.1)(d:(k:Int)<b.n)(ha:VA b.ls.length a):SA b (eI p k a).1:=by
 refine⟨λj x e=>?_,h.oc⟩;by_cases z:j=k
 .subst z;have f:Bn a=Bn x:=(cZ (ac:=p.1.ac) (k:=j) (o:=Bn a)).symm.trans e;cases f;exact⟨d,ha⟩
 .exact h.ac j x ((eB z).symm.trans e)
omit Z in
theorem SA.gg(h:SA b p.1):SA b (go p k).1:=by
 unfold go;split
 .refine⟨λj x e=>?_,h.oc⟩
  by_cases z:j=k
  .subst z;exact a5 ((cZ (ac:=p.1.ac) (k:=j) (o:=Pn)).symm.trans e) (by simp)
  .exact h.ac j x ((eB z).symm.trans e)
 .exact h
omit Z in
theorem mM:(eI p k a).2.length<=p.2.length+1:=by
 show(p.2++sJ p.1.ac a).length<=_;rw[PJ];have:(sJ p.1.ac a).length<=1:=by
  cases a with
  |Qa c=>show(if _ then _ else _:Sn).length<=1;split<;>simp
  |_=>simp[sJ]
 ext
omit Z in
theorem Cs(d:bb (Nat×Mn)):∀p:RQ×Sn,(gP p d).2.length<=p.2.length+d.length:=by
 induction d with
 |nil=>exact λp=>PF _
 |cons q r e=>intro p;have h:=e (eI p q.1 q.2);have f:=mM (p:=p) (k:=q.1) (a:=q.2);show(gP (eI p q.1 q.2) r).2.length<=_;rw[PN];ext
omit Z in
theorem SA.cms(d:bb (Nat×Mn)):∀{p:RQ×Sn},SA b p.1->(∀q∈d,(q.1:Int)<b.n/\VA b.ls.length q.2)->SA b (gP p d).1/\(gP p d).1.wt=p.1.wt/\(gP p d).1.oc=p.1.oc:=by
 induction d with
 |nil=>exact λh _=>⟨h,rfl,rfl⟩
 |cons q r i=>intro p h e;have f:=e q PH;exact i (h.cm f.1 f.2) λx j=>e x (PD _ j)
theorem Md(h:pB (b.ls.headD []) k=Pr):∃c,tt b 0 k=.Qa c:=by
 have f:=Z.l1;obtain⟨d,r,e⟩:∃d r,b.ls=d::r:=by
  cases q:b.ls with
  |nil=>rw[q]at f;cases f
  |cons l r=>exact⟨l,r,rfl⟩
 unfold pB at h;unfold tt;rw[e]at h⊢;rw[Xi,VH];rw[List.headD_cons]at h;cases q:d[k]? with
 |none=>rw[q]at h;cases h
 |some m=>
  rw[q]at h;cases m with
  |Qa c=>exact⟨c,rfl⟩
  |_=>cases h
theorem Jd(d:(k:Int)<b.n)(h:pB (b.ls.headD []) k=Pr):VA b.ls.length (tt b 0 k):=by have f:=Z.l1;obtain⟨c,e⟩:=Md Z h;have:=yN Z (L:=0) (by ext) d;rw[e]at this⊢;exact this
theorem LL(h:WV b ac ks g Pn):∀m∈Lk b ks,VA b.ls.length m:=by
 intro m hm;unfold Lk at hm;split at hm
 .rename_i c e
  rcases P1.mp hm with rfl|hm
  .exact(Z.vc c (WI e)).2.2.2
  .rw[(YC.mp hm).2];trivial
 .obtain⟨j,d,rfl⟩:=Qo.mp hm;exact Jd Z (h.kn j d) (h.ch rfl j d)
theorem u8(h:WV b ac ks g w):∀q∈ks.zip (fG b ks w),(q.1:Int)<b.n/\VA b.ls.length q.2:=by
 intro q e;have d:=Ts e;refine⟨h.kn _ d.1,?_⟩;cases w with
 |none=>exact LL Z h _ d.2
 |some f=>obtain⟨c,n⟩:=f;rw[PL.mp d.2];exact(h.tp c n rfl).2.1
def WD(b:Bd)(s:RQ):Prop:=∀ks g w,s.wt=Bn (ks,g,w)->WV b s.ac ks g w
theorem jq(h:SA b p.1)(f:WD b p.1):SW b (cD b p).1/\(cD b p).1.wt=Pn/\(cD b p).2.length<=p.2.length+5/\(cD b p).1.oc=p.1.oc:=by
 unfold cD;split
 .rename_i q;exact⟨⟨h,λks g w e=>by rw[q]at e;cases e⟩,q,Zg _ _,rfl⟩
 .rename_i ks g w q
  have v:=f ks g w q;obtain⟨j,d,i⟩:=SA.cms (ks.zip (fG b ks w)) (p:=({p.1 with wt:=Pn},p.2)) ⟨h.ac,h.oc⟩ (u8 Z v);refine⟨⟨j,λ_ _ _ e=>?_⟩,d,?_,i⟩
  .rw[d]at e;cases e
  .have:=Cs (ks.zip (fG b ks w)) ({p.1 with wt:=Pn},p.2);have l:=v.len Z;rw[Zh]at this;have:(gP ({p.1 with wt:=Pn},p.2) (ks.zip (fG b ks w))).2.length<=p.2.length+min ks.length (fG b ks w).length:=this;ext
omit Z in
theorem Ar:∀(l:bb Int) (m:bg Int),l.foldl lJ m=m\/∃x∈l,l.foldl lJ m=Bn x
 |[],m=>.inl rfl
 |x::r,m=>by
  rw[QO];rcases Ar r (lJ m x)with h|⟨y,hy,h⟩
  .rw[h]
   cases m with
   |none=>exact .inr ⟨x,PH,rfl⟩
   |some z=>
    show Bn (if x>z then x else z)=Bn z\/_;split
    .exact .inr ⟨x,PH,by show Bn (if x>z then x else z)=_;rename_i q;rw[av q]⟩
    .exact .inl rfl
  .exact .inr ⟨y,PD _ hy,h⟩
omit Z in
theorem BK:∀(l:bb Int) (m:bg Int),(∀x∈l,∃y,l.foldl lJ m=Bn y/\x<=y)/\∀z,m=Bn z->∃y,l.foldl lJ m=Bn y/\z<=y
 |[],m=>⟨λx f=>(by cases f),λz h=>⟨z,h,Vb _⟩⟩
 |x::r,m=>by
  rw[QO];obtain⟨o,n⟩:=BK r (lJ m x);have j:∃z,lJ m x=Bn z/\x<=z/\∀u,m=Bn u->u<=z:=by
   cases m with
   |none=>exact⟨x,rfl,Vb _,λu h=>by cases h⟩
   |some u=>
    refine⟨if x>u then x else u,rfl,?_,λv h=>?_⟩
    .split<;>ext
    .cases h;split<;>ext
  obtain⟨z,t,B,q⟩:=j;obtain⟨y,e,A⟩:=n z t;refine⟨λv d=>?_,λu i=>⟨y,e,by have:=q u i;ext⟩⟩;rcases P1.mp d with rfl|d
  .exact⟨y,e,by ext⟩
  .exact o v d
omit Z in
theorem AM{ac:Ac}{n:Int}:n∈(c7 ac).filterMap Lo↔∃k,k<5/\ac k=Bn (.RY n):=by
 rw[SK];constructor
 .rintro⟨⟨k,m⟩,e,d⟩
  have f:=eE.mp e;cases m with
  |RY x=>have:x=n:=P4 d;subst this;exact⟨k,f.1,f.2⟩
  |_=>cases d
 .rintro⟨k,e,d⟩;exact⟨(k,.RY n),eE.mpr ⟨e,d⟩,rfl⟩
theorem G2(h:SA b s):0<=xo s.ac/\xo s.ac<b.ls.length/\(∀k n,s.ac k=Bn (.RY n)->n<=xo s.ac)/\(xo s.ac=0\/∃k,s.ac k=Bn (.RY (xo s.ac))):=by
 have l:=Z.l1;have o:=Z.n5;unfold xo;generalize hm:((c7 s.ac).filterMap Lo).foldl lJ Pn=m;have i:=(BK ((c7 s.ac).filterMap Lo) Pn).1;have d:=Ar ((c7 s.ac).filterMap Lo) Pn;rw[hm]at i d;have up:∀k n,s.ac k=Bn (.RY n)->∃y,m=Bn y/\n<=y:=λk n e=>i n (AM.mpr ⟨k,by have:=(h.ac k _ e).1;ext,e⟩);cases m with
 |none=>refine⟨Vb _,by show(0:Int)<_;ext,λk n e=>?_,.inl rfl⟩;obtain⟨y,f,_⟩:=up k n e;cases f
 |some x=>
  rcases d with d|⟨y,hy,d⟩
  .cases d
  .cases d;obtain⟨k,_,e⟩:=AM.mp hy;have:=(h.ac k _ e).2;have:1<=x/\x<b.ls.length:=this;refine⟨by show 0<=x;ext,by show x<_;ext,λk n e=>?_,.inr ⟨k,e⟩⟩;obtain⟨y,f,j⟩:=up k n e;cases f;exact j
theorem zY(h:SA b s):0<=lQ s.ac s.oc/\lQ s.ac s.oc<b.ls.length:=by
 cases q:s.oc with
 |none=>have:=G2 Z h;exact⟨this.1,this.2.1⟩
 |some o=>have:=h.oc o q;exact⟨by show 0<=o;ext,this.2⟩
end
section
variable{b:Bd}{s:RQ}{sn:Sn}{ps:bb (Nat×Mn)}{J:aZ}{ρ:bv}{i:Nat}{Z:aZ}{p:RQ×Sn}{k:Nat}{a:Mn}
theorem mw(h:f x=Bn y):aC f [x]=Bn [y]:=by unfold aC;rw[h];rfl
theorem jp:(l++[c]).set l.length c'=l++[c']:=by simp
theorem oz(e:HS b p Z):∃Z',bL [.rf 0] Z=.ok (.fz (dA p.1)) Z'/\HS b p Z':=by
 obtain⟨ps,J,d,rfl⟩:=e;have g:=D5 d;have h:nK (ur (b4 "Hand" "acts" (az 0))) [Bn (.rf 0)] (d9 b p.1 p.2 ps J)=.ok ((c7 p.1.ac).map λq=>nd q.1) (d9 b p.1 p.2 ps (J++[.dead])):=by
  refine(Fo (ds:=(c7 p.1.ac).map λq=>nd q.1) (GL (ic rfl) rfl (F8 d) (by rw[Pp];ext)) ?_).trans ?_
  .rw[Gf d];refine bf.trans ?_;rw[Qy,Qy];rfl
  .rw[jp];rfl
 have j:eC (iS 0) rC (mq (au (ag (aa 0)) (au (tP (b4 "Hand" "acts" (az 1)) (ag (aa 0))) bi))) ((c7 p.1.ac).map λq=>nd q.1) [Pn,Bn (.rf 0)] (d9 b p.1 p.2 ps (J++[.dead])) []=.ok (((c7 p.1.ac).map pD).map .fz) (d9 b p.1 p.2 ps (J++[.dead])):=by refine(oN (λq:Nat×Mn=>nd q.1) (λq=>.fz (pD q)) _ (λρ=>∃o,ρ=[o,Bn (.rf 0)]) (c7 p.1.ac) _ [] ⟨Pn,rfl⟩ (by have:=lz p.1.ac;rw[QA];ext) ?_).trans (by rw[Qy];rfl);rintro q f ρ ⟨o,rfl⟩;have hm:=eE.mp f;refine⟨[-(nd q.1),Bn (.rf 0)],rfl,rfl,?_,_,rfl⟩;exact uF (aw (ah (af rfl)) (aw (IA (ic rfl) (ah (af rfl)) rfl rfl (by rw[mS d hm.1,hm.2];rfl)) aQ)) (PB rfl)
 have tp:J1 ji (au (sF 1 [0] (nK (ur (b4 "Hand" "acts" (az 0)))) (iS 0) rC (mq (au (ag (aa 0)) (au (tP (b4 "Hand" "acts" (az 1)) (ag (aa 0))) bi)))) bi) [Bn (.rf 0)] (d9 b p.1 p.2 ps J)=.ok (.fz (.tuple ((c7 p.1.ac).map pD))) (d9 b p.1 p.2 ps (J++[.dead]++[.lst (((c7 p.1.ac).map pD).map .fz)])):=
  M0 (aw (Bi h j) aQ) (mw (eS bf)) rfl
 exact⟨_,mn rfl (jI (uF (aw tp (aw (bW rfl) (aw (BR rfl) aQ))) (PB rfl))),ps,_,d,rfl⟩
theorem F1(f:HS b p Z):ci [.rf 0,.fz (nd k)] Z=.ok (.fz (.bool (lZ p.1.wt k))) Z:=by
 obtain⟨ps,J,j,rfl⟩:=f;refine mn rfl (jI ?_);cases q:p.1.wt with
 |none=>
  have d:kR (hG p.1.wt) .none=-(.bool Py):=by rw[q];rfl
  exact Ce (aV (cR (bW rfl) (ah aG) (dJ d)))
 |some x=>
  obtain⟨e,g,w⟩:=x;have d:kR (hG p.1.wt) .none=-(.bool Pr):=by rw[q];rfl
  have h:bc (hG p.1.wt) (.int 0)=-(.tuple (aR e)):=by rw[q];exact iG
  exact tO (aV (cR (bW rfl) (ah aG) (dJ d))) (cR (ah (af rfl)) (dS (bW rfl) (ah aG) h) (dJ (vM _ _)))
theorem Nn(E:HS b p Z)(n:AK p.1.ac)(ha:p.1.ac k=Bn a)(F:p.2.length<1000):∃Z',jd [.rf 0,.fz (nd k)] Z=.ok (.fz .none) Z'/\HS b (go p k) Z':=by
 obtain⟨ps,J,A,rfl⟩:=E;have G:=(n k a ha).1;have lb:=(n k a ha).2;obtain⟨f,K,u⟩:=DN A
 have l:xC (b4 "Hand" "acts" (az 0)) (ag (aa 1)) [Bn (.rf 0),-(nd k),Pn] (d9 b p.1 p.2 ps J)=.ok (.fz (mD a)) (d9 b {p.1 with ac:=iL p.1.ac k Pn} p.2 f J):=
  (G3 (ic rfl) rfl (ah (af rfl)) rfl rfl (by rw[mS A G,ha];rfl)).trans (by rw[K];rfl)
 have H:go p k=({p.1 with ac:=iL p.1.ac k Pn},p.2++Lu (iL p.1.ac k Pn) a):=by unfold go;rw[ha]
 rw[H];have m:AK (iL p.1.ac k Pn):=λj x e=>by
  by_cases z:j=k
  .subst z;rw[cZ]at e;cases e
  .rw[eB z]at e;exact n j x e
 have e0:=rZ a;have N:=jm a;have g:aA (ay cx (ay bc (aa 2) (~~~0)) (pC (.str "letter"))) (cB [Bn (.rf 0),-(nd k),-(mD a)])=.ok (a.Zt,cB [Bn (.rf 0),-(nd k),-(mD a)]):=by fail "ev"
 have t:TK (cL (jS (bT (aA (ay cx (ay bc (aa 2) (~~~0)) (pC (.str "letter"))))) (sV (bM (aY "Hand" "has_act" bR 2 (az 0) (au (ag (aa 2)) bi))))) (bZ (pz (b4 "Hand" "sent" (az 0)) (ag (bQ {ay bc (aa 2) (~~~1),pC (.str "up")})))) dE [Bn (.rf 0),-(nd k),-(mD a)] (d9 b {p.1 with ac:=iL p.1.ac k Pn} p.2 f J)) (λ_ Z'=>SV.fz .none=.fz .none/\HS b ({p.1 with ac:=iL p.1.ac k Pn},p.2++Lu (iL p.1.ac k Pn) a) Z') (λ_ _=>False) (λr Z'=>r=.fz .none/\HS b ({p.1 with ac:=iL p.1.ac k Pn},p.2++Lu (iL p.1.ac k Pn) a) Z'):=by
  cases q:a.Zt with
  |false=>
   rw[q]at g;refine ez (cF (bU g)) (lx ⟨rfl,f,J,u,?_⟩);have:Lu (iL p.1.ac k Pn) a=[]:=by cases a<;>first|rfl|cases q
   rw[this,Qh]
  |true=>
   rw[q]at g;obtain⟨B,o,L⟩:=DW (p:=({p.1 with ac:=iL p.1.ac k Pn},p.2)) ⟨f,J,u,rfl⟩ m lb;have v:∀h,gh (iL p.1.ac k Pn) a=h->(jS (bT (aA (ay cx (ay bc (aa 2) (~~~0)) (pC (.str "letter"))))) (sV (bM (aY "Hand" "has_act" bR 2 (az 0) (au (ag (aa 2)) bi))))) [Bn (.rf 0),-(nd k),-(mD a)] (d9 b {p.1 with ac:=iL p.1.ac k Pn} p.2 f J)=.ok (!h) B:=λh e=>by
    have o:bR [.rf 0,.fz (mD a)] (d9 b {p.1 with ac:=iL p.1.ac k Pn} p.2 f J)=.ok (.fz (.bool h)) B:=by rw[<-e];exact o
    exact cX (bU g) (mY (aV (b9 (p:=({p.1 with ac:=iL p.1.ac k Pn},p.2)) ⟨f,J,u,rfl⟩ (by left) rfl (aw (ah (af rfl)) aQ) rfl o)))
   obtain⟨w,C,y,I⟩:=L;rw[I]at v;cases q2:gh (iL p.1.ac k Pn) a with
   |true=>
    refine ez (v Pr q2) (lx ⟨rfl,w,C,y,?_⟩);have:Lu (iL p.1.ac k Pn) a=[]:=by
     cases a<;>first|cases q|skip
     show(if gh (iL p.1.ac k Pn) _=Pr then _ else _)=_;rw[av q2]
    rw[this,Qh]
   |false=>
    cases a<;>first|cases q|skip
    rename_i c;have M:bc (mD (.Qa c)) (.int 1)=-(.str (cW c)):=lH;refine rN (v Py q2) (iR (A5 (d:=Py) F rfl (ah (show _=Res.ok (PV.fz (.tuple [.str (cW c),.str "up"]),_) by fail "ev"))) ⟨rfl,w,C,y,?_⟩);have:Lu (iL p.1.ac k Pn) (.Qa c)=[(c,Py)]:=by show(if gh (iL p.1.ac k Pn) _=Pr then _ else _)=_;rw[ax (by rw[q2];simp)]
    rw[this]
 exact iY rfl (jy l rfl t)
end
section
variable{b:Bd}(Y:VB b){s:RQ}{sn:Sn}{ps:bb (Nat×Mn)}{J:aZ}{ρ:bv}{i:Nat}{Z:aZ}{p:RQ×Sn}{k:Nat}{a:Mn}{ks:bb Nat}{g:Int}{w:bg (Nat×Int)}
theorem FY:∀(ks:bb Nat) (d:bb Mn),mr (aR ks) (d.map mD)=(ks.zip d).map pD
 |[],_=>by cases ‹bb Mn›<;>rfl
 |_::_,[]=>rfl
 |k::r,a::t=>by show Pw.tuple [nd k,mD a]::mr (aR r) (t.map mD)=_;rw[FY r t];rfl
theorem ze(h:∀c n,w=Bn (c,n)->c<26):cx (sQ w) (.tuple [.str "chord"])=-(.bool w.isNone)/\n6 (sQ w) (.tuple [.str "chord"])=-(.bool w.isSome):=by
 cases w with
 |none=>
  have j:iE (.tuple [.str "chord"])=Pr:=by left
  have f:Pw.canLay0 (.tuple [.str "chord"])=Pr:=by left
  have d:Pw.eqv (.tuple [.str "chord"]) (.tuple [.str "chord"])=Pr:=by left
  constructor
  .show(if(iE (.tuple [.str "chord"])&&Pw.canLay0 (.tuple [.str "chord"]))=Pr then Bn (RV.fz (.bool (Pw.eqv (.tuple [.str "chord"]) (.tuple [.str "chord"]))))else Pn)=_;rw[j,f,d];rfl
  .show(if(iE (.tuple [.str "chord"])&&Pw.canLay0 (.tuple [.str "chord"]))=Pr then Bn (RV.fz (.bool (!Pw.eqv (.tuple [.str "chord"]) (.tuple [.str "chord"]))))else Pn)=_;rw[j,f,d];rfl
 |some l=>
  obtain⟨c,n⟩:=l;have lb:LB (.U5 c n):=h c n rfl;have e:Pw.eqv (mD (.U5 c n)) (.tuple [.str "chord"])=Py:=by show(decide (("tap":Str)= "chord")&&Pw.eqvAll [.str (cW c),.int n] [])=Py;rw[show decide (("tap":Str)= "chord")=Py by left];rfl
  constructor
  .show(if(iE (mD (.U5 c n))&&Pw.canLay0 (.tuple [.str "chord"]))=Pr then Bn (RV.fz (.bool (Pw.eqv (mD (.U5 c n)) (.tuple [.str "chord"]))))else Pn)=_;rw[Gq lb,show Pw.canLay0 (.tuple [.str "chord"])=Pr by left,e];rfl
  .show(if(iE (mD (.U5 c n))&&Pw.canLay0 (.tuple [.str "chord"]))=Pr then Bn (RV.fz (.bool (!Pw.eqv (mD (.U5 c n)) (.tuple [.str "chord"]))))else Pn)=_;rw[Gq lb,show Pw.canLay0 (.tuple [.str "chord"])=Pr by left,e];rfl
theorem xa(ks:bb Nat)(w:bg (Nat×Int))(d:bb Mn):∀(f:bb (Nat×Mn)) (p:RQ×Sn) (Z:aZ) (m l:bg SV),HS b p Z->AK p.1.ac->(∀q∈f,q.1<5/\LB q.2)->p.2.length+f.length<1000->
  ∃ρ' Z',kK (JL 2 (lW (iS 4) (lW (iS 5) wP))) (bZ (aY "Hand" "come" bz 3 (az 0) (au (ag (aa 4)) (au (ag (aa 5)) bi)))) (f.map pD) [Bn (.rf 0),-(.tuple (aR ks)),-(sQ w),-(.list (d.map mD)),m,l] Z=.ok (.nx ρ') Z'/\HS b (gP p f) Z'
 |[],p,Z,m,l,hs,_,_,_=>⟨_,Z,rfl,hs⟩
 |q::r,p,Z,m,l,hs,hA,hq,hl=>by
  rw[PN]at hl;have h:=hq q PH;obtain⟨o,v,B⟩:=pV hs hA h.2 h.1 (by ext);have n:AK (eI p q.1 q.2).1.ac:=λj x e=>by
   by_cases z:j=q.1
   .have y:Bn q.2=Bn x:=by rw[z]at e;exact(cZ).symm.trans e
    cases y;exact⟨by rw[z];exact h.1,h.2⟩
   .exact hA j x ((eB z).symm.trans e)
  have:=mM (p:=p) (k:=q.1) (a:=q.2);obtain⟨ρ',Z',u,A⟩:=xa ks w d r (eI p q.1 q.2) o (-(nd q.1)) (-(mD q.2)) B n (λx t=>hq x (PD _ t)) (by ext);refine⟨ρ',Z',?_,A⟩
  have st:bZ (aY "Hand" "come" bz 3 (az 0) (au (ag (aa 4)) (au (ag (aa 5)) bi))) [Bn (.rf 0),-(.tuple (aR ks)),-(sQ w),-(.list (d.map mD)),-(nd q.1),-(mD q.2)] Z=.ok (.nx [Bn (.rf 0),-(.tuple (aR ks)),-(sQ w),-(.list (d.map mD)),-(nd q.1),-(mD q.2)]) o:=
   eJ (b9 hs (by left) rfl (aw (ah (af rfl)) (aw (ah (af rfl)) aQ)) rfl v)
  show((bZ (aY "Hand" "come" bz 3 (az 0) (au (ag (aa 4)) (au (ag (aa 5)) bi))) [Bn (.rf 0),-(.tuple (aR ks)),-(sQ w),-(.list (d.map mD)),-(nd q.1),-(mD q.2)] Z).bind _)=_;rw[st,dP];exact u
include Y
theorem lc(t:HS b p Z)(m:SA b p.1)(e:p.1.wt=Bn (ks,g,w))(v:WV b p.1.ac ks g w)(I:p.2.length<900):∃Z',b6 [.rf 0] Z=.ok (.fz .none) Z'/\HS b (cD b p) Z':=by
 obtain⟨ps,J,y,rfl⟩:=t;have e0:bc (hG p.1.wt) (.int 0)=-(.tuple (aR ks)):=by rw[e];exact iG
 have E:bc (hG p.1.wt) (.int 2)=-(sQ w):=by rw[e];exact tz
 have o:=v.len Y;have r:=v.aes;have C:=ze λc n h=>(v.tp c n h).1;have B:cD b p=gP ({p.1 with wt:=Pn},p.2) (ks.zip (fG b ks w)):=by unfold cD;rw[e]
 rw[B];have l:aA (ay cx (aa 2) (pC (.tuple [.str "chord"]))) (cB [Bn (.rf 0),-(.tuple (aR ks)),-(sQ w),Pn,Pn,Pn])=.ok (w.isNone,cB [Bn (.rf 0),-(.tuple (aR ks)),-(sQ w),Pn,Pn,Pn]):=bG (aE (af rfl) aG rfl rfl C.1) rfl;have j:sY (KQ (bT (aA (ay cx (aa 2) (pC (.tuple [(.str "chord")]))))) (jf fV 2 (au (b4 "Hand" "bed" (az 0)) (au (ag (aa 1)) bi))) (ag (dg {bQ {pC (.str "layer"),ay bc (aa 2) (~~~2)}}))) [Bn (.rf 0),-(.tuple (aR ks)),-(sQ w),Pn,Pn,Pn] (d9 b {p.1 with wt:=Pn} p.2 ps J)=.ok (.fz (.list ((fG b ks w).map mD))) (d9 b {p.1 with wt:=Pn} p.2 ps (J++[.dead])):=by
  cases w with
  |none=>have G:=Lm Y r o v.kn;exact(qE (Ik (bU l) (vk (aw (oJ rfl) (aw (ah (af rfl)) aQ)) rfl G)) (qv bf)).trans (by rw[jp];rfl)
  |some F=>obtain⟨c,n⟩:=F;have H:bc (sQ (Bn (c,n))) (.int 2)=-(.int n):=tz;exact(qE (Hq (bU l) (dY (show _=Res.ok (PV.ow [.tuple [.str "layer",.int n]],_) by fail "ev"))) (qv bf)).trans (by rw[jp];rfl)
 have lp:∃d Z',uZ (ng (Ef {aa 1,aa 3})) (JL 2 (lW (iS 4) (lW (iS 5) wP))) (bZ (aY "Hand" "come" bz 3 (az 0) (au (ag (aa 4)) (au (ag (aa 5)) bi)))) [Bn (.rf 0),-(.tuple (aR ks)),-(sQ w),-(.list ((fG b ks w).map mD)),Pn,Pn] (d9 b {p.1 with wt:=Pn} p.2 ps (J++[.dead]))=.ok (.nx d) Z'/\HS b (gP ({p.1 with wt:=Pn},p.2) (ks.zip (fG b ks w))) Z':=by
  have K:=Y.n5;obtain⟨d,Z',A,z⟩:=xa ks w (fG b ks w) (ks.zip (fG b ks w)) ({p.1 with wt:=Pn},p.2) (d9 b {p.1 with wt:=Pn} p.2 ps (J++[.dead])) Pn Pn ⟨ps,_,y,rfl⟩ (SA.ak Y ⟨m.ac,m.oc⟩) (λq u=>by
   have:=u8 Y v q u;exact⟨by ext,this.2.lb⟩) (by
   rw[Zh];show p.2.length+_<1000;ext)
  refine⟨d,Z',?_,z⟩;unfold uZ;rw[na (B3 (ai (af rfl) (ai (af rfl) aF)) rfl rfl rfl),dP,FY];exact A
 obtain⟨d,Z',lp,f⟩:=lp;refine⟨Z',lg (ρ1:=d) rfl ?_,f⟩;exact dR (uG (dS (bW rfl) (ah aG) e0) rfl) (dR (uG (dS (bW rfl) (ah aG) E) rfl) (dR (lj Pn rfl (ah aG)) (dR (uG j rfl) lp)))
omit Y in
theorem G7{c:bb Nat×Nat}(h:c.2<26):Pw.canLay0 (cV c)=Pr:=by show(Pw.canLayAll0 (aR c.1)&&(Pw.strOk (cW c.2)&&Pr))=Pr;rw[gB,lU h];rfl
omit Y in
theorem LR:∀{cs:bb (bb Nat×Nat)},(∀c∈cs,c.2<26)->n6 (.list (cs.map cV)) (.list [])=-(.bool (!cs.isEmpty)):=by
 intro cs h;have f:∀cs:bb (bb Nat×Nat),(∀c∈cs,c.2<26)->Pw.canLayAll0 (cs.map cV)=Pr:=by
  intro cs
  induction cs with
  |nil=>exact λ_=>rfl
  |cons c r d=>intro h;show(Pw.canLay0 (cV c)&&Pw.canLayAll0 (r.map cV))=Pr;rw[G7 (h c PH),d λx j=>h x (PD _ j)];rfl
 have e:∀cs:bb (bb Nat×Nat),Pw.depthAll (cs.map cV)<=2:=by
  intro cs
  induction cs with
  |nil=>exact Qu _
  |cons c r d=>show max (Pw.depth (cV c)) (Pw.depthAll (r.map cV))<=2;refine adw.mpr ⟨?_,d⟩;show max (Pw.depthAll (aR c.1)+1) (max 0 0)+1<=2;rw[lm];decide
 show(if((Pw.canLayAll0 (cs.map cV)&&decide (Pw.depthAll (cs.map cV)+1<=64))&&Pr)=Pr then Bn (RV.fz (.bool (!Pw.eqvAll (cs.map cV) [])))else Pn)=_;rw[f cs h,aP (show Pw.depthAll (cs.map cV)+1<=64 by have:=e cs;ext)];cases cs<;>rfl
theorem Iq(h:c∈fA b ks):c.2<26:=(Y.vc c (Q9.mp h).1).2.2.2
omit Y in
theorem BE(h:ks≠[])(d:ks.length<=5):de (.tuple (aR ks)) (.tuple [nd k])=-(.tuple (aR (ks++[k]))):=by
 show(if aR ks≠[]/\(aR ks).length+1<=1000000 then Bn (RV.fz (.tuple (aR ks++[nd k])))else Pn)=_;rw[av ⟨by cases ks with
  |nil=>exact a5 rfl h
  |cons x r=>simp[aR],by rw[dH];ext⟩,IY]
 rfl
theorem AX{fa:eK}{Z1:aZ}(d:∃ps J,Z1=d9 b s sn ps J)(j:ρ[0]?=Bn (Bn (.rf 0)))(e:ks.length<=5)(f:fa ρ Z1=.ok (.fz (.tuple (aR ks))) Z1):kg n6 (jf bK 2 (au (b4 "Hand" "bed" (az 0)) (au fa bi))) (ag (dg ao)) ρ Z1=.ok (.fz (.bool (!(fA b ks).isEmpty))) (Z1++[.lst (((fA b ks).map cV).map .fz)]++[.lst []]):=by obtain⟨ps,J,rfl⟩:=d;refine cR (vk (ds:=[bD b,.tuple (aR ks)]) (aw (oJ j) (aw f aQ)) rfl (AD Y e)) (dY (ds:=[]) (ρ':=cB ρ) (sG aF rfl (Qu _))) ?_;exact iV (eS (im bf)) (eS (ds:=[]) bf) (LR λc h=>Iq Y h)
theorem Kp(f:HS b p Z)(C:SW b p.1)(L:(k:Int)<b.n)(hn:lZ p.1.wt k=Py):∃Z',dN [.rf 0,.fz (nd k)] Z=.ok (.fz (.bool (Fa b p.1 k))) Z'/\HS b p Z':=by
 cases q:p.1.wt with
 |none=>
  have j:Fa b p.1 k=Py:=by unfold Fa;rw[q]
  rw[j];obtain⟨ps,J,d,rfl⟩:=f;have l:vB (hG p.1.wt) .none=-(.bool Pr):=by rw[q];rfl
  exact⟨_,mn rfl (oC (fO (r9 (aV (cR (bW rfl) (ah aG) (dJ l)))) (jI (ah aG)))),ps,J,d,rfl⟩
 |some x=>
  obtain⟨ks,g,w⟩:=x;have v:=(C.wt ks g w q).1;have E:=v.len Y;have l:vB (hG p.1.wt) .none=-(.bool Py):=by rw[q];rfl
  have A:bc (hG p.1.wt) (.int 2)=-(sQ w):=by rw[q];exact tz
  have e0:bc (hG p.1.wt) (.int 0)=-(.tuple (aR ks)):=by rw[q];exact iG
  have z:=(ze λc n h=>(v.tp c n h).1).2;cases w with
  |some N=>
   have j:Fa b p.1 k=Py:=by unfold Fa;rw[q]
   rw[j];obtain⟨ps,J,d,rfl⟩:=f;exact⟨_,mn rfl (oC (fO (fW (aV (cR (bW rfl) (ah aG) (dJ l))) (r9 (aV (cR (dS (bW rfl) (ah aG) A) (ah aG) (dJ z))))) (jI (ah aG)))),ps,J,d,rfl⟩
  |none=>
   have j:Fa b p.1 k=(decide (lQ p.1.ac p.1.oc=0)&& !(fA b (ks++[k])).isEmpty):=by unfold Fa;rw[q]
   rw[j];obtain⟨t,H,B⟩:=oz f;have m:(zc (bM (kg vB (b4 "Hand" "waiting" (az 0)) (ag (pC .none)))) (zc (bM (kg n6 (kx (b4 "Hand" "waiting" (az 0)) (ag (~~~2))) (ag (pC (.tuple [(.str "chord")]))))) (bM (kg n6 (jf dQ 1 (au (aY "Hand" "stands" bL 1 (az 0) bi) bi)) (ag (~~~0)))))) [Bn (.rf 0),-(nd k)] Z=.ok (!decide (lQ p.1.ac p.1.oc=0)) t:=by
    have I:bM (kg n6 (jf dQ 1 (au (aY "Hand" "stands" bL 1 (az 0) bi) bi)) (ag (~~~0))) [Bn (.rf 0),-(nd k)] Z=.ok (!decide (lQ p.1.ac p.1.oc=0)) t:=
     aV (cR (zF (aw (b9 f (by left) rfl aQ rfl H) aQ) rfl (xz p.1)) (ah aG) (dJ (vg _ _)))
    obtain⟨ps,J,d,rfl⟩:=f;exact fW (aV (cR (bW rfl) (ah aG) (dJ l))) (fW (aV (cR (dS (bW rfl) (ah aG) A) (ah aG) (dJ z))) I)
   by_cases u:lQ p.1.ac p.1.oc=0
   .rw[aP u]at m⊢
    obtain⟨ps,J,d,rfl⟩:=B;have K:k∉ks:=by rw[q]at hn;exact of_decide_eq_false hn
    have o:(ks++[k]).Nodup:=by rw[QU];exact⟨v.nd,Q3.mpr ⟨Rj,Sb⟩,λx r y F e=>K (by rw[<-PL.mp F,<-e];exact r)⟩
    have G:(ks++[k]).length<=5:=uT o λx r=>by
     have M:=Y.n5;rcases Qm.mp r with h|h
     .have:=v.kn x h;ext
     .rw[PL.mp h];ext
    refine⟨_,mn rfl (dR (cO m cK) (jI (AX Y ⟨ps,J,rfl⟩ rfl G (cR (dS (bW rfl) (ah aG) e0) (ah (fJ (ai (af rfl) aF) rfl (PB rfl))) (dJ (BE v.ne E)))))),ps,_,d,rfl⟩
   .rw[a3 u]at m⊢;exact⟨t,mn rfl (oC (fO m (jI (ah aG)))),B⟩
end
section
variable{b:Bd}(Y:VB b){s:RQ}{sn:Sn}{ps:bb (Nat×Mn)}{J:aZ}{ρ:bv}{i:Nat}{Z:aZ}{p:RQ×Sn}{k:Nat}{a:Mn}{ks:bb Nat}{g:Int}{w:bg (Nat×Int)}
include Y
theorem LZ(v:WV b p.1.ac ks g w)(hn:k∉ks)(l:(k:Int)<b.n):(ks++[k]).Nodup/\(ks++[k]).length<=5:=by
 have d:(ks++[k]).Nodup:=by rw[QU];exact⟨v.nd,Q3.mpr ⟨Rj,Sb⟩,λx f y j e=>hn (by rw[<-PL.mp j,<-e];exact f)⟩
 refine⟨d,uT d λx f=>?_⟩;have m:=Y.n5;rcases Qm.mp f with h|h
 .have:=v.kn x h;ext
 .rw[PL.mp h];ext
theorem wA(m:SW b p.1)(j:(k:Int)<b.n)(ha:p.1.ac k=Pn)(hn:lZ p.1.wt k=Py)(hm:Fa b p.1 k=Pr):∃ks g,p.1.wt=Bn (ks,g,Pn)/\k∉ks/\WV b p.1.ac (ks++[k]) g Pn/\g<b.wt:=by
 unfold Fa at hm;split at hm
 .rename_i ks g q
  rw[P2]at hm;obtain⟨v,o⟩:=m.wt ks g Pn q;have l:k∉ks:=by rw[q]at hn;exact of_decide_eq_false hn
  obtain⟨f,z⟩:=LZ Y v l j;refine⟨ks,g,q,l,⟨by simp,f,λx d=>?_,λx d=>?_,v.g0,λc n h=>(by cases h),λ_ x d=>?_⟩,o⟩
  .rcases Qm.mp d with h|h
   .exact v.kn x h
   .rw[PL.mp h];exact j
  .rcases Qm.mp d with h|h
   .exact v.kf x h
   .rw[PL.mp h];exact ha
  .have e:=hm.2
   cases qo:fA b (ks++[k])with
   |nil=>rw[qo]at e;cases e
   |cons c r=>
    have t:c∈fA b (ks++[k]):=by rw[qo];exact PH
    obtain⟨y,u⟩:=Q9.mp t;have:=Sa.mp u x d;exact(Y.vc c y).2.2.1 x (a4 this)
 .cases hm
theorem GW(r:HS b p Z)(h:SW b p.1)(e:p.1.wt=Bn (ks,g,Pn))(v:WV b p.1.ac (ks++[k]) g Pn)(f:WV b p.1.ac ks g Pn)(t:p.2.length<900):∃Z',dB [.rf 0,.fz (nd k)] Z=.ok (.fz .none) Z'/\HS b (sS b p k) Z':=by
 obtain⟨ps,J,j,rfl⟩:=r;have m:=v.len Y;have e0:bc (hG p.1.wt) (.int 0)=-(.tuple (aR ks)):=by rw[e];exact iG
 have B:bc (hG p.1.wt) (.int 1)=-(.int g):=by rw[e];exact lH
 have A:sS b p k=if(fA b (ks++[k])).map (·.1.length)=[(ks++[k]).length]then cD b ({p.1 with wt:=Bn (ks++[k],g,Pn)},p.2)else({p.1 with wt:=Bn (ks++[k],g,Pn)},p.2):=by unfold sS;rw[e]
 have F:HS b ({p.1 with wt:=Bn (ks++[k],g,Pn)},p.2) (d9 b {p.1 with wt:=Bn (ks++[k],g,Pn)} p.2 ps J):=⟨ps,J,j,rfl⟩;have C:eC (iS 0) rC (ag (eX gm {ay bc (aa 0) (~~~0)})) ((fA b (ks++[k])).map cV) [Pn] (d9 b {p.1 with wt:=Bn (ks++[k],g,Pn)} p.2 ps (J++[.dead])) []=.ok ((aR ((fA b (ks++[k])).map (·.1.length))).map .fz) (d9 b {p.1 with wt:=Bn (ks++[k],g,Pn)} p.2 ps (J++[.dead])):=by
  refine(oN cV (λc=>.fz (nd c.1.length)) _ (λρ=>∃o,ρ=[o]) (fA b (ks++[k])) _ [] ⟨Pn,rfl⟩ ?_ ?_).trans (by unfold aR;rw[Qy,Qy];rfl)
  .have:=Tb (λc:bb Nat×Nat=>(ks++[k]).all λk=>decide (k∈c.1)) b.cs;have:=Y.c4;show 0+(fA b (ks++[k])).length<=_;unfold fA;ext
  .rintro c _ ρ ⟨o,rfl⟩;have n:bc (cV c) (.int 0)=-(.tuple (aR c.1)):=iG;refine⟨[-(cV c)],rfl,rfl,ah (cH (ai (aE (af rfl) aG rfl rfl n) aF) rfl ((ig _).trans (by rw[dH]))),_,rfl⟩
 have z:nK (jf bK 2 (au (b4 "Hand" "bed" (az 0)) (au (ag (aa 2)) bi))) [Bn (.rf 0),-(nd k),-(.tuple (aR (ks++[k])))] (d9 b {p.1 with wt:=Bn (ks++[k],g,Pn)} p.2 ps J)=.ok ((fA b (ks++[k])).map cV) (d9 b {p.1 with wt:=Bn (ks++[k],g,Pn)} p.2 ps (J++[.dead])):=
  (Fo (vk (aw (oJ rfl) (aw (ah (af rfl)) aQ)) rfl (AD Y m)) bf).trans (by rw[jp];rfl)
 have rt:dg {eX gm {aa 2}} (cB [Bn (.rf 0),-(nd k),-(.tuple (aR (ks++[k])))])=.ok (.ow (aR [(ks++[k]).length]),cB [Bn (.rf 0),-(nd k),-(.tuple (aR (ks++[k])))]):=by refine sG (ai (cH (ai (af rfl) aF) rfl ((ig _).trans (by rw[dH]))) aF) rfl (PB rfl)
 have l:bM (kg cx (sF 1 [] (nK (jf bK 2 (au (b4 "Hand" "bed" (az 0)) (au (ag (aa 2)) bi)))) (iS 0) rC (ag (eX gm {ay bc (aa 0) (~~~0)}))) (ag (dg {eX gm {aa 2}}))) [Bn (.rf 0),-(nd k),-(.tuple (aR (ks++[k])))] (d9 b {p.1 with wt:=Bn (ks++[k],g,Pn)} p.2 ps J)=.ok (decide ((fA b (ks++[k])).map (·.1.length)=[(ks++[k]).length])) (d9 b {p.1 with wt:=Bn (ks++[k],g,Pn)} p.2 ps (J++[.dead])++[.lst ((aR ((fA b (ks++[k])).map (·.1.length))).map .fz)]++[.lst ((aR [(ks++[k]).length]).map .fz)]):=
  aV (cR (Bi z C) (dY rt) (iV (eS (im bf)) (eS bf) (vi _ _)))
 have d:HS b ({p.1 with wt:=Bn (ks++[k],g,Pn)},p.2) (d9 b {p.1 with wt:=Bn (ks++[k],g,Pn)} p.2 ps (J++[.dead])++[.lst ((aR ((fA b (ks++[k])).map (·.1.length))).map .fz)]++[.lst ((aR [(ks++[k]).length]).map .fz)]):=⟨ps,_,j,rfl⟩;generalize (d9 b {p.1 with wt:=Bn (ks++[k],g,Pn)} p.2 ps (J++[.dead])++[.lst ((aR ((fA b (ks++[k])).map (·.1.length))).map .fz)]++[.lst ((aR [(ks++[k]).length]).map .fz)]:aZ)=Z3 at l d;rw[A];refine iY rfl (jy (cR (dS (bW rfl) (ah aG) e0) (ah (fJ (ai (af rfl) aF) rfl (PB rfl))) (dJ (BE f.ne (f.len Y)))) rfl (BF (lj (Bn (ks++[k],g,Pn)) rfl (uF (aw (ah (af rfl)) (aw (dS (bW rfl) (ah aG) B) (aw (ah aG) aQ))) (PB rfl))) (xR l (λq=>?_) λq=>?_)))
 .rw[av (a4 q)];obtain⟨E,y,u⟩:=lc Y d ⟨h.sa.ac,h.sa.oc⟩ rfl v t;exact iR (b9 d (by left) rfl aQ rfl y) ⟨rfl,u⟩
 .rw[ax (of_decide_eq_false q)];exact lx ⟨rfl,d⟩
theorem Hc(d:SW b p.1)(f:p.1.wt=Bn (ks,g,Pn))(v:WV b p.1.ac (ks++[k]) g Pn)(h:g<b.wt):SW b (sS b p k).1:=by
 have j:sS b p k=if(fA b (ks++[k])).map (·.1.length)=[(ks++[k]).length]then cD b ({p.1 with wt:=Bn (ks++[k],g,Pn)},p.2)else({p.1 with wt:=Bn (ks++[k],g,Pn)},p.2):=by unfold sS;rw[f]
 rw[j];split
 .exact(jq Y (p:=({p.1 with wt:=Bn (ks++[k],g,Pn)},p.2)) ⟨d.sa.ac,d.sa.oc⟩ λ_ _ _ e=>by cases e;exact v).1
 .exact⟨⟨d.sa.ac,d.sa.oc⟩,λ_ _ _ e=>by cases e;exact⟨v,h⟩⟩
omit Y in
theorem vh(s:RQ)(m:Mn):(et s m).ac=s.ac/\(et s m).wt=s.wt:=by unfold et;split<;>exact⟨rfl,rfl⟩
omit Y in
theorem AR{m:Mn}(h:SA b s):SA b (et s m):=by
 unfold et;split
 .exact h
 .exact⟨h.ac,λo e=>by cases e⟩
theorem KO(E:HS b p Z)(R:SA b p.1)(hw:p.1.wt=Pn)(T:(k:Int)<b.n)(hl:p.2.length<900):∃Z',gc [.rf 0,.fz (nd k)] Z=.ok (.fz .none) Z'/\HS b (CA b p k) Z':=by
 obtain⟨P,O⟩:=zY Y R;have K:=Ia Y P O T;obtain⟨u,I⟩:=uO Y P O T;obtain⟨Z1,h1,UM⟩:=oz E;have h5:=Y.n5;have eb:CA b p k=rS b (lQ p.1.ac p.1.oc) (et p.1 (look b (lQ p.1.ac p.1.oc) k),p.2) k (look b (lQ p.1.ac p.1.oc) k):=rfl;rw[eb];have S:jf dQ 1 (au (aY "Hand" "stands" bL 1 (az 0) bi) bi) [Bn (.rf 0),-(nd k),Pn,Pn,Pn] Z=.ok (.fz (.int (lQ p.1.ac p.1.oc))) Z1:=zF (aw (b9 E (by left) rfl aQ rfl h1) aQ) rfl (xz p.1);generalize lQ p.1.ac p.1.oc=L at K u I S P O;generalize look b L k=m at K u I;obtain⟨ps,J,hp,rfl⟩:=UM;have lb:=u.lb;have c0:=rZ m;have c1:=M7 m;have c2:=LK m;have c3:=jm m;have c4:=G6 m;have eL:cx (.int L) (.int 0)=-(.bool (decide (L=0))):=nu _ _;have A:(aW (cL (bT (aA (ay mx (aa 4) (bQ {pC (.str "layer"),pC (.str "once")})))) (iu "Hand" "once" (az 0) (ag (pC .none))) dE) dE) [Bn (.rf 0),-(nd k),-(.int L),-(mD m),-(.str (wd m))] (d9 b p.1 p.2 ps J)=.ok (.nx [Bn (.rf 0),-(nd k),-(.int L),-(mD m),-(.str (wd m))]) (d9 b (et p.1 m) p.2 ps J):=by
  have t:bT (aA (ay mx (aa 4) (bQ {pC (.str "layer"),pC (.str "once")}))) [Bn (.rf 0),-(nd k),-(.int L),-(mD m),-(.str (wd m))] (d9 b p.1 p.2 ps J)=.ok (!(m.Yn||m.isO)) (d9 b p.1 p.2 ps J):=bU (by fail "ev");unfold et;cases q:(m.Yn||m.isO)with
  |true=>rw[q]at t;rw[av rfl];exact dR (cO t cK) cK
  |false=>rw[q]at t;rw[ax P7];exact dR (fO t (AC Pn rfl (ah aG))) cK
 have Q:=vh p.1 m;have H:SA b (et p.1 m):=AR R;have e:ps.Perm (c7 (et p.1 m).ac):=by rw[Q.1];exact hp
 have z:HS b (et p.1 m,p.2) (d9 b (et p.1 m) p.2 ps J):=⟨ps,J,e,rfl⟩;generalize et p.1 m=s2 at A Q H e z;have N:TK ((cL (bT (aA (ay cx (aa 4) (pC (.str "tap"))))) (iu "Hand" "waiting" (az 0) (ag (bQ {bQ {aa 1},~~~0,aa 3}))) (cL (jS (bT (aA (ay cx (aa 4) (pC (.str "letter"))))) (jS (bT (aA (ay cx (aa 2) (~~~0)))) (bM (kg n6 (jf bK 2 (au (b4 "Hand" "bed" (az 0)) (au (ag (bQ {aa 1})) bi))) (ag (dg ao)))))) (iu "Hand" "waiting" (az 0) (ag (bQ {bQ {aa 1},~~~0,pC (.tuple [(.str "chord")])}))) (cL (bT (aA (ay cx (aa 4) (pC (.str "once"))))) (aW (bZ (aY "Hand" "come" bz 3 (az 0) (au (ag (aa 1)) (au (ag (pC (.tuple [(.str "none")]))) bi))))
 (iu "Hand" "once" (az 0) (ag (ay bc (aa 3) (~~~1))))) (bZ (aY "Hand" "come" bz 3 (az 0) (au (ag (aa 1)) (au (ag (aa 3)) bi))))))) [Bn (.rf 0),-(nd k),-(.int L),-(mD m),-(.str (wd m))] (d9 b s2 p.2 ps J)) (λ_ Z'=>SV.fz .none=.fz .none/\HS b (rS b L (s2,p.2) k m) Z') (λ_ _=>False) (λr Z'=>r=.fz .none/\HS b (rS b L (s2,p.2) k m) Z'):=by
  have y:∀{Z:aZ},bT (aA (ay cx (aa 4) (pC (.str "tap")))) [Bn (.rf 0),-(nd k),-(.int L),-(mD m),-(.str (wd m))] Z=.ok m.isT Z:=bU (by fail "ev");have C:∀{Z:aZ},bT (aA (ay cx (aa 4) (pC (.str "letter")))) [Bn (.rf 0),-(nd k),-(.int L),-(mD m),-(.str (wd m))] Z=.ok m.Zt Z:=bU (by fail "ev");have B:∀{Z:aZ},bT (aA (ay cx (aa 4) (pC (.str "once")))) [Bn (.rf 0),-(nd k),-(.int L),-(mD m),-(.str (wd m))] Z=.ok m.isO Z:=bU (by fail "ev");have F:∀{Z:aZ},bT (aA (ay cx (aa 2) (~~~0))) [Bn (.rf 0),-(nd k),-(.int L),-(mD m),-(.str (wd m))] Z=.ok (decide (L=0)) Z:=bU (by fail "ev");have kt:∀{Z:aZ},ag (bQ {aa 1}) [Bn (.rf 0),-(nd k),-(.int L),-(mD m),-(.str (wd m))] Z=.ok (.fz (.tuple (aR [k]))) Z:=ah (fJ (ai (af rfl) aF) rfl (PB rfl));have cm:∀{Z:aZ},HS b (s2,p.2) Z->VA b.ls.length m->∃Z',bZ (aY "Hand" "come" bz 3 (az 0) (au (ag (aa 1)) (au (ag (aa 3)) bi))) [Bn (.rf 0),-(nd k),-(.int L),-(mD m),-(.str (wd m))] Z=.ok (.nx [Bn (.rf 0),-(nd k),-(.int L),-(mD m),-(.str (wd m))]) Z'/\HS b (eI (s2,p.2) k m) Z':=λ{Z} E va=>by obtain⟨Z',l,j⟩:=pV (k:=k) E (H.ak Y) va.lb (by ext) (show p.2.length<1000 by ext);exact⟨Z',eJ (b9 E (by left) rfl (aw (ah (af rfl)) (aw (ah (af rfl)) aQ)) rfl l),j⟩
  cases m with
  |below=>exact a5 rfl I
  |U5 c n=>refine rN y (nH (lj (Bn ([k],0,Bn (c,n))) rfl (ah (ρ':=cB [Bn (.rf 0),-(nd k),-(.int L),-(mD (.U5 c n)),-(.str (wd (.U5 c n)))]) ?_)) ⟨rfl,ps,J,e,rfl⟩);show _=Res.ok (PV.fz (.tuple [.tuple [nd k],.int 0,mD (.U5 c n)]),_);fail "ev"
  |Qa c=>
   obtain⟨d1,d2⟩:VA b.ls.length (.Qa c)/\True:=⟨u,trivial⟩;by_cases G:L=0
   .rw[aP G]at F
    have ov:=AX Y (Z1:=d9 b s2 p.2 ps J) ⟨ps,J,rfl⟩ rfl (PB rfl) kt;have M:HS b (s2,p.2) (d9 b s2 p.2 ps J++[.lst (((fA b [k]).map cV).map .fz)]++[.lst []]):=⟨ps,_,e,rfl⟩;have v:rS b L (s2,p.2) k (.Qa c)=if(!(fA b [k]).isEmpty)=Pr then({s2 with wt:=Bn ([k],0,Pn)},p.2)else eI (s2,p.2) k (.Qa c):=by show(if(decide (L=0)&& !(fA b [k]).isEmpty)=Pr then _ else _)=_;rw[aP G,Uh]
    rw[v];refine ez y (xR (cX C (cX F (aV ov))) (λq=>?_) λq=>?_)
    .rw[av q];refine nH (lj (Bn ([k],0,Pn)) rfl (ah (ρ':=cB [Bn (.rf 0),-(nd k),-(.int L),-(mD (.Qa c)),-(.str (wd (.Qa c)))]) ?_)) ⟨rfl,ps,_,e,rfl⟩;show _=Res.ok (PV.fz (.tuple [.tuple [nd k],.int 0,.tuple [.str "chord"]]),_);fail "ev"
    .rw[ax (by rw[q];simp)];obtain⟨Z',l,j⟩:=cm M u;exact ez B (nH l ⟨rfl,j⟩)
   .rw[a3 G]at F
    have v:rS b L (s2,p.2) k (.Qa c)=eI (s2,p.2) k (.Qa c):=by show(if(decide (L=0)&& !(fA b [k]).isEmpty)=Pr then _ else _)=_;rw[a3 G,TR,ax P7]
    rw[v];obtain⟨Z',l,j⟩:=cm z u;exact ez y (ez (cX C (cF F)) (ez B (nH l ⟨rfl,j⟩)))
  |RY n=>obtain⟨Z',l,j⟩:=cm z u;exact ez y (ez (cF C) (ez B (nH l ⟨rfl,j⟩)))
  |none=>obtain⟨Z',l,j⟩:=cm z trivial;exact ez y (ez (cF C) (ez B (nH l ⟨rfl,j⟩)))
  |once n=>obtain⟨Z',l,j⟩:=pV (k:=k) (a:=.none) z (H.ak Y) trivial (by ext) (show p.2.length<1000 by ext);have i1:bc (mD (.once n)) (.int 1)=-(.int n):=lH;obtain⟨X,J2,hq,rfl⟩:=j;refine ez y (ez (cF C) (rN B (BF (eJ (b9 z (by left) rfl (aw (ah (af rfl)) (aw (ah aG) aQ)) rfl l)) (nH (AC (Bn n) rfl (ah (ρ':=cB [Bn (.rf 0),-(nd k),-(.int L),-(mD (.once n)),-(.str (wd (.once n)))]) ?_)) ⟨rfl,X,J2,hq,rfl⟩))));show _=Res.ok (PV.fz (.int n),_);exact aE (rv:=.fz (.int n)) (af rfl) aG rfl rfl i1
 refine iY (ρ:=[Bn (.rf 0),-(nd k),Pn,Pn,Pn]) rfl (jy S rfl (jy (zF (ds:=[bD b,.int L,nd k]) (aw (oJ rfl) (aw (ah (af rfl)) (aw (ah (af rfl)) aQ))) rfl K) rfl (jy (ah (d:=.str (wd m)) (ρ':=cB [Bn (.rf 0),-(nd k),-(.int L),-(mD m),Pn]) (aE (rv:=.fz (.str (wd m))) (af rfl) aG rfl rfl c0)) rfl ?_)));refine .eq ?_ N;have U:∀{f g:gS} {ρ:bv} {Z Z':aZ},aW f dE ρ Z=.ok (.nx ρ) Z'->aW f g ρ Z=g ρ Z':=λ{f g ρ Z Z'} h=>by
  unfold aW at h⊢;cases q:f ρ Z with
  |bad=>rw[q]at h;cases h
  |er x o=>rw[q]at h;cases h
  |ok fl o=>
   rw[q]at h;cases fl with
   |nx r=>cases h;rfl
   |_=>cases h
 exact U A
end
section
variable{b:Bd}(Y:VB b){s:RQ}{sn:Sn}{ps:bb (Nat×Mn)}{J:aZ}{ρ:bv}{i:Nat}{Z:aZ}{p:RQ×Sn}{k:Nat}{a:Mn}{ks:bb Nat}{g:Int}{w:bg (Nat×Int)}
include Y
omit Y in
theorem AQ(h:SA b s)(d:s.wt=Pn):SW b s:=⟨h,λ_ _ _ e=>by rw[d]at e;cases e⟩
theorem Mr(z:SA b p.1)(K:p.1.wt=Pn)(v:(k:Int)<b.n)(ha:p.1.ac k=Pn):SW b (CA b p k).1:=by
 obtain⟨G,F⟩:=zY Y z;obtain⟨d,u⟩:=uO Y G F v;have N:CA b p k=rS b (lQ p.1.ac p.1.oc) (et p.1 (look b (lQ p.1.ac p.1.oc) k),p.2) k (look b (lQ p.1.ac p.1.oc) k):=rfl;rw[N];generalize lQ p.1.ac p.1.oc=L at d u G F;generalize look b L k=m at d u;have y:=vh p.1 m;have j:SA b (et p.1 m):=AR z;have f:=y.2.trans K;have t:(et p.1 m).ac k=Pn:=by rw[y.1];exact ha
 generalize et p.1 m=s2 at j f t;have R:=Y.w1;have B:[k].Nodup:=Q3.mpr ⟨Rj,Sb⟩;have C:∀x∈[k],(x:Int)<b.n:=λx l=>by rw[PL.mp l];exact v
 have E:∀x∈[k],s2.ac x=Pn:=λx l=>by rw[PL.mp l];exact t
 have cm:∀m,VA b.ls.length m->SW b (eI (s2,p.2) k m).1:=λm H=>AQ (j.cm v H) f;cases m with
 |below=>exact a5 rfl u
 |U5 c n=>refine⟨⟨j.ac,j.oc⟩,λ_ _ _ e=>?_⟩;cases e;exact⟨⟨by simp,B,C,E,Vb _,λQ I e=>by cases e;exact⟨d.1,d.2,rfl⟩,λe=>by cases e⟩,by ext⟩
 |Qa c=>
  show SW b (if(decide (L=0)&& !(fA b [k]).isEmpty)=Pr then({s2 with wt:=Bn ([k],0,Pn)},p.2)else eI (s2,p.2) k (.Qa c)).1;split
  .rename_i q
   refine⟨⟨j.ac,j.oc⟩,λ_ _ _ e=>?_⟩;cases e;refine⟨⟨by simp,B,C,E,Vb _,λQ I e=>(by cases e),λ_ x l=>?_⟩,by ext⟩;have A:=(P2 _ _▸q:_/\_).2;cases qo:fA b [k]with
   |nil=>rw[qo]at A;cases A
   |cons c r=>
    have M:c∈fA b [k]:=by rw[qo];exact PH
    obtain⟨P,O⟩:=Q9.mp M;exact(Y.vc c P).2.2.1 x (a4 (Sa.mp O x l))
  .exact cm _ d
 |RY n=>exact cm _ d
 |none=>exact cm _ trivial
 |once n=>have h:=cm .none trivial;exact⟨⟨h.sa.ac,λo e=>by cases e;exact d⟩,λks g w e=>by have e:s2.wt=Bn (ks,g,w):=e;rw[f]at e;cases e⟩
theorem SW.wd(h:SW b s):WD b s:=λks g w e=>(h.wt ks g w e).1
omit Y in
theorem zX(d:bb (Nat×Mn)):∀{p:RQ×Sn},p.1.ac k=Pn->k∉d.map (·.1)->(gP p d).1.ac k=Pn:=by
 induction d with
 |nil=>exact λh _=>h
 |cons q r e=>intro p h hn;rw[PY,P1,not_or]at hn;exact e (p:=eI p q.1 q.2) ((eB hn.1).trans h) hn.2
omit Y in
theorem rD(ha:p.1.ac k=Pn)(hn:lZ p.1.wt k=Py):(cD b p).1.ac k=Pn:=by
 unfold cD;split
 .exact ha
 .rename_i ks g w q;refine zX _ (p:=({p.1 with wt:=Pn},p.2)) ha λz=>?_;rw[q]at hn;obtain⟨x,d,rfl⟩:=Qo.mp z;exact of_decide_eq_false hn (Ts d).1
theorem Dx(e:SW b p.1)(f:(k:Int)<b.n):SW b (jc b p k).1:=by
 unfold jc;split
 .exact e
 .rename_i q
  rw[UH,not_or]at q;have ha:p.1.ac k=Pn:=by
   cases z:p.1.ac k with
   |none=>rfl
   |some x=>rw[z]at q;exact a5 rfl q.1
  have hn:lZ p.1.wt k=Py:=by
   cases z:lZ p.1.wt k with
   |false=>rfl
   |true=>exact a5 z q.2
  split
  .rename_i h;obtain⟨ks,g,m,o,l,j⟩:=wA Y e f ha hn h;exact Hc Y e m l j
  .have d:=jq Y e.sa (SW.wd Y e);exact Mr Y d.1.sa d.2.1 f (rD ha hn)
theorem Fs(h:HS b p Z)(e:SW b p.1)(B:(k:Int)<b.n)(Q:p.2.length<800):∃Z',hU [.rf 0,.fz (nd k)] Z=.ok (.fz .none) Z'/\HS b (jc b p k) Z':=by
 have R:=Y.n5;have A:k<5:=by ext
 have O:zc (bM (yr Py (ag (aa 1)) (b4 "Hand" "acts" (az 0)))) (bM (aY "Hand" "is_waiting" ci 2 (az 0) (au (ag (aa 1)) bi))) [Bn (.rf 0),-(nd k)] Z=.ok ((p.1.ac k).isSome||lZ p.1.wt k) Z:=by
  have I:=b9 (ρ:=[Bn (.rf 0),-(nd k)]) (i:=0) (m:= "is_waiting") (fa:=au (ag (aa 1)) bi) h (by left) rfl (aw (ah (af rfl)) aQ) rfl (F1 h);obtain⟨ps,J,y,rfl⟩:=h
  have u:yr Py (ag (aa 1)) (b4 "Hand" "acts" (az 0)) [Bn (.rf 0),-(nd k)] (d9 b p.1 p.2 ps J)=.ok (.fz (.bool (p.1.ac k).isSome)) (d9 b p.1 p.2 ps J):=
   (zw (ah (af rfl)) (ic rfl) rfl rfl).trans (by rw[show jR (ps.map kj) (.inl (k:Int))=_ from mS y A];cases p.1.ac k<;>rfl)
  cases q:(p.1.ac k).isSome with
  |true=>rw[q]at u;rw[TF];exact r9 (aV u)
  |false=>rw[q]at u;rw[Ug];exact fW (aV u) (aV I)
 refine iY rfl (xE O (λq=>?_) λq=>mJ ?_)
 .unfold jc;rw[av q];exact uX ⟨rfl,h⟩
 rw[X8]at q;have ha:p.1.ac k=Pn:=by
  cases z:p.1.ac k with
  |none=>rfl
  |some x=>rw[z]at q;exact a5 q.1 (by simp)
 have L:jc b p k=if Fa b p.1 k=Pr then sS b p k else CA b (cD b p) k:=by unfold jc;rw[ax (by rw[q.1,q.2];simp)]
 rw[L];obtain⟨P,H,f⟩:=Kp Y h e B q.2;refine xE (aV (b9 h (by left) rfl (aw (ah (af rfl)) aQ) rfl H)) (λt=>?_) λt=>mJ ?_
 .rw[av t];obtain⟨ks,g,j,T,N,S⟩:=wA Y e B ha q.2 t;obtain⟨l,C,o⟩:=GW Y f e j N (e.wt _ _ _ j).1 (by ext);exact KS (lf (b9 f (by left) rfl (aw (ah (af rfl)) aQ) rfl C) (uX ⟨rfl,o⟩))
 .rw[ax (by rw[t];simp)]
  have d:=jq Y e.sa (SW.wd Y e);have F:∀l,HS b (cD b p) l->TK (bZ (aY "Hand" "begin" gc 2 (az 0) (au (ag (aa 1)) bi)) [Bn (.rf 0),-(nd k)] l) (λ_ Z'=>SV.fz .none=.fz .none/\HS b (CA b (cD b p) k) Z') (λ_ _=>False) (λr Z'=>r=.fz .none/\HS b (CA b (cD b p) k) Z'):=λl o=>by obtain⟨U,K,v⟩:=KO Y o d.1.sa d.2.1 B (by have:=d.2.2.1;ext);exact iR (b9 o (by left) rfl (aw (ah (af rfl)) aQ) rfl K) ⟨rfl,v⟩
  cases qw:p.1.wt with
  |none=>
   have M:cD b p=p:=by unfold cD;rw[qw]
   have j:kR (hG p.1.wt) .none=-(.bool Py):=by rw[qw];rfl
   have E:=F P (by rw[M];exact f);obtain⟨ps,J,y,rfl⟩:=f;exact rQ (aV (cR (bW rfl) (ah aG) (dJ j))) (mJ E)
  |some x=>
   obtain⟨ks,g,w⟩:=x;have j:kR (hG p.1.wt) .none=-(.bool Pr):=by rw[qw];rfl
   obtain⟨l,C,o⟩:=lc Y f e.sa qw (e.wt _ _ _ qw).1 (by ext);have G:=b9 (ρ:=[Bn (.rf 0),-(nd k)]) (i:=0) (m:= "decide") f (by left) rfl aQ rfl C;obtain⟨ps,J,y,rfl⟩:=f;exact uJ (aV (cR (bW rfl) (ah aG) (dJ j))) (lf G (F l o))
theorem nO(e:SW b p.1)(f:lZ p.1.wt k=Pr):SW b (cj b p k).1/\(cj b p k).2.length<=p.2.length+5:=by
 unfold cj;split
 .have d:=jq Y e.sa (SW.wd Y e);exact⟨d.1,d.2.2.1⟩
 .rename_i ks g c n q;have v:=(e.wt _ _ _ q).1;rw[q]at f;have h:=v.kn k (a4 f);have j:=(v.tp c n rfl).1;refine⟨AQ (SA.cm ⟨e.sa.ac,e.sa.oc⟩ h j) rfl,?_⟩;have:=mM (p:=({p.1 with wt:=Pn},p.2)) (k:=k) (a:=.Qa c);have:(eI ({p.1 with wt:=Pn},p.2) k (.Qa c)).2.length<=p.2.length+1:=this;ext
 .exact⟨e,Zg _ _⟩
theorem gl(f:HS b p Z)(d:SW b p.1)(e:lZ p.1.wt k=Pr)(H:p.2.length<800):∃Z',gA [.rf 0,.fz (nd k)] Z=.ok (.fz .none) Z'/\HS b (cj b p k) Z':=by
 have K:=Y.n5;cases q:p.1.wt with
 |none=>rw[q]at e;cases e
 |some x=>
  obtain⟨ks,g,w⟩:=x;have v:=(d.wt _ _ _ q).1;have j:k∈ks:=by rw[q]at e;exact a4 e
  have y:bc (hG p.1.wt) (.int 2)=-(sQ w):=by rw[q];exact tz
  have E:=(ze λc n h=>(v.tp c n h).1).1;have t:∀{Z:aZ},bT (aA (ay cx (aa 2) (pC (.tuple [.str "chord"])))) [Bn (.rf 0),-(nd k),-(sQ w)] Z=.ok w.isNone Z:=bU (bG (aE (af rfl) aG rfl rfl E) rfl);cases w with
  |none=>
   have o:cj b p k=cD b p:=by unfold cj;rw[q]
   rw[o];obtain⟨G,l,r⟩:=lc Y f d.sa q v (by ext);have A:=b9 (ρ:=[Bn (.rf 0),-(nd k),-(sQ Pn)]) (i:=0) (m:= "decide") f (by left) rfl aQ rfl l;obtain⟨ps,J,u,rfl⟩:=f;exact iY rfl (jy (dS (bW rfl) (ah aG) y) rfl (rN t (iR A ⟨rfl,r⟩)))
  |some F=>
   obtain⟨c,n⟩:=F;have o:cj b p k=eI ({p.1 with wt:=Pn},p.2) k (.Qa c):=by unfold cj;rw[q]
   rw[o];have C:=(v.tp c n rfl).1;have I:=v.kn k j;obtain⟨ps,J,u,rfl⟩:=f;have z:HS b ({p.1 with wt:=Pn},p.2) (d9 b {p.1 with wt:=Pn} p.2 ps J):=⟨ps,J,u,rfl⟩;obtain⟨G,l,r⟩:=pV (k:=k) (a:=.Qa c) z (SA.ak Y ⟨d.sa.ac,d.sa.oc⟩) C (by ext) (show p.2.length<1000 by ext);have B:bc (sQ (Bn (c,n))) (.int 1)=-(.str (cW c)):=lH;exact iY rfl (jy (dS (bW rfl) (ah aG) y) rfl (ez t (BF (lj Pn rfl (ah aG)) (iR (b9 z (by left) rfl (aw (ah (af rfl)) (aw (ah (fJ (ai aG (ai (aE (af rfl) aG rfl rfl B) aF)) rfl (PB rfl))) aQ)) rfl l) ⟨rfl,r⟩))))
omit Y in
theorem Ju(d:SW b p.1):SW b (go p k).1:=by
 refine⟨d.sa.gg,?_⟩;unfold go;split
 .intro ks g w e;obtain⟨v,h⟩:=d.wt ks g w e;exact⟨⟨v.ne,v.nd,v.kn,λx f=>by
   by_cases z:x=k
   .rw[z];exact cZ
   .exact(eB z).trans (v.kf x f),v.g0,v.tp,v.ch⟩,h⟩
 .exact d.wt
theorem Hv(d:SW b p.1):SW b (pO b p k).1:=by
 unfold pO;split
 .rename_i q;exact Ju (nO Y d q).1
 .exact Ju d
theorem GX(d:HS b p Z)(f:SW b p.1)(B:(k:Int)<b.n)(o:p.2.length<700):∃Z',iJ [.rf 0,.fz (nd k)] Z=.ok (.fz .none) Z'/\HS b (pO b p k) Z':=by
 have C:=Y.n5;have h:k<5:=by ext
 have e:∀{p:RQ×Sn} {Z:aZ},HS b p Z->SW b p.1->p.2.length<800->TK (cL (bM (yr Py (ag (aa 1)) (b4 "Hand" "acts" (az 0)))) (bZ (aY "Hand" "go" jd 2 (az 0) (au (ag (aa 1)) bi))) dE [Bn (.rf 0),-(nd k)] Z) (λ_ Z'=>SV.fz .none=.fz .none/\HS b (go p k) Z') (λ_ _=>False) (λr Z'=>r=.fz .none/\HS b (go p k) Z'):=λ{p Z} d f o=>by
  cases qa:p.1.ac k with
  |none=>
   have v:go p k=p:=by unfold go;rw[qa]
   rw[v];obtain⟨ps,J,j,rfl⟩:=d;refine ez (aV ((zw (ah (af rfl)) (ic rfl) rfl rfl).trans (by rw[show jR (ps.map kj) (.inl (k:Int))=_ from mS j h,qa];rfl))) (lx ⟨rfl,ps,J,j,rfl⟩)
  |some a=>obtain⟨E,t,y⟩:=Nn d (f.sa.ak Y) qa (by ext);have l:=b9 (ρ:=[Bn (.rf 0),-(nd k)]) (i:=0) (m:= "go") (fa:=au (ag (aa 1)) bi) d (by left) rfl (aw (ah (af rfl)) aQ) rfl t;obtain⟨ps,J,j,rfl⟩:=d;exact rN (aV ((zw (ah (af rfl)) (ic rfl) rfl rfl).trans (by rw[show jR (ps.map kj) (.inl (k:Int))=_ from mS j h,qa];rfl))) (iR l ⟨rfl,y⟩)
 refine iY rfl (xE (aV (b9 d (by left) rfl (aw (ah (af rfl)) aQ) rfl (F1 d))) (λq=>?_) λq=>?_)
 .unfold pO;rw[av q];obtain⟨F,u,A⟩:=gl Y d f q (by ext);have z:=nO Y f q;exact lf (b9 d (by left) rfl (aw (ah (af rfl)) aQ) rfl u) (e A z.1 (by ext))
 .unfold pO;rw[ax (by rw[q];simp)];exact mJ (e d f (by ext))
theorem IM(d:SW b p.1):SW b (ja b p).1:=by
 unfold ja;split
 .exact d
 .rename_i ks g w q
  obtain⟨v,j⟩:=d.wt ks g w q;have f:WV b p.1.ac ks (g+1) w:=⟨v.ne,v.nd,v.kn,v.kf,by have:=v.g0;ext,v.tp,v.ch⟩;split
  .exact(jq Y (p:=({p.1 with wt:=Bn (ks,g+1,w)},p.2)) ⟨d.sa.ac,d.sa.oc⟩ λ_ _ _ e=>by cases e;exact f).1
  .rename_i h;exact⟨⟨d.sa.ac,d.sa.oc⟩,λ_ _ _ e=>by cases e;exact⟨f,by ext⟩⟩
theorem GF(m:HS b p Z)(d:SW b p.1)(y:p.2.length<800):∃Z',fP [.rf 0] Z=.ok (.fz .none) Z'/\HS b (ja b p) Z':=by
 obtain⟨ps,J,j,rfl⟩:=m;cases q:p.1.wt with
 |none=>
  have e:ja b p=p:=by unfold ja;rw[q]
  rw[e];have f:vB (hG p.1.wt) .none=-(.bool Pr):=by rw[q];rfl
  exact iY rfl (uJ (aV (cR (bW rfl) (ah aG) (dJ f))) (uX ⟨rfl,ps,J,j,rfl⟩))
 |some x=>
  obtain⟨ks,g,w⟩:=x;have v:=(d.wt _ _ _ q).1;have l:WV b p.1.ac ks (g+1) w:=⟨v.ne,v.nd,v.kn,v.kf,by have:=v.g0;ext,v.tp,v.ch⟩;have e:ja b p=if g+1=b.wt then cD b ({p.1 with wt:=Bn (ks,g+1,w)},p.2)else({p.1 with wt:=Bn (ks,g+1,w)},p.2):=by unfold ja;rw[q]
  rw[e];have f:vB (hG p.1.wt) .none=-(.bool Py):=by rw[q];rfl
  have e0:bc (hG p.1.wt) (.int 0)=-(.tuple (aR ks)):=by rw[q];exact iG
  have t:bc (hG p.1.wt) (.int 2)=-(sQ w):=by rw[q];exact tz
  have r:bc (hG p.1.wt) (.int 1)=-(.int g):=by rw[q];exact lH
  have o:bc (bD b) (.int 3)=-(.int b.wt):=GC rfl;have h:HS b ({p.1 with wt:=Bn (ks,g+1,w)},p.2) (d9 b {p.1 with wt:=Bn (ks,g+1,w)} p.2 ps J):=⟨ps,J,j,rfl⟩;refine iY rfl (rQ (aV (cR (bW rfl) (ah aG) (dJ f))) (mJ (jy (cR (dS (bW rfl) (ah aG) r) (ah aG) (dJ (ii _ _))) rfl (BF (lj (Bn (ks,g+1,w)) rfl (uF (aw (dS (bW rfl) (ah aG) e0) (aw (ah (af rfl)) (aw (dS (bW rfl) (ah aG) t) aQ))) (PB rfl))) (xR (aV (cR (ah (af rfl)) (dS (oJ rfl) (ah aG) o) (dJ (nu _ _)))) (λz=>?_) λz=>?_)))))
  .rw[av (a4 z)];obtain⟨A,n,u⟩:=lc Y h ⟨d.sa.ac,d.sa.oc⟩ rfl l (show p.2.length<900 by ext);exact iR (b9 h (by left) rfl aQ rfl n) ⟨rfl,u⟩
  .rw[ax (of_decide_eq_false z)];exact lx ⟨rfl,h⟩
def Sq.YS:Sq->Bool
 |.turn=>Pr
 |_=>Py
def Sq.isDown:Sq->Bool
 |.down _=>Pr
 |_=>Py
def EV(b:Bd):Sq->Prop
 |.down k=>(k:Int)<b.n
 |.up k=>(k:Int)<b.n
 |.turn=>True
theorem vL(d:SW b s)(f:EV b e):SW b (bN b s e).1:=by
 cases e with
 |down k=>exact Dx Y d f
 |up k=>exact Hv Y d
 |turn=>exact IM Y d
omit Y in
theorem ug:∀l:bb (Nat×Mn),aC rq (l.map pD)=Bn (l.map kj)
 |[]=>rfl
 |q::r=>by rw[PY];unfold aC;rw[ug r];rfl
omit Y in
theorem yg:∀(l d:bb (Nat×Mn)),((d++l).map (·.1)).Nodup->mz (d.map kj) (l.map kj)=(d++l).map kj
 |[],d,_=>by rw[Qh];rfl
 |q::r,d,h=>by
  have hn:∀x∈d,x.1≠q.1:=λx f e=>by rw[Qb,QU]at h;exact h.2.2 _ (Qo.mpr ⟨x,f,rfl⟩) q.1 PH e
  have o:ka (d.map kj) (kj q).1 (kj q).2=(d++[q]).map kj:=by
   unfold ka;rw[ax ?_,Qb]
   .rfl
   .intro z;obtain⟨t,n,m⟩:=RD.mp z;obtain⟨x,j,rfl⟩:=Qo.mp n;have:=Sum.inl.inj (a4 m);exact hn x j (by ext)
  show mz (ka (d.map kj) (kj q).1 (kj q).2) (r.map kj)=_;rw[o,yg r (d++[q]) (by rw[QS];exact h),QS];rfl
omit Y in
theorem HR:dU [.rf 0,.fz (bD b),.fz (dA s)] [.obj "Hand" []]=.ok (.fz .none) (d9 b s [] (c7 s.ac) []):=by
 have e0:bc (dA s) (.int 0)=-(.tuple ((c7 s.ac).map pD)):=iG;have y:bc (dA s) (.int 1)=-(hG s.wt):=lH;have v:bc (dA s) (.int 2)=-(nN s.oc):=tz;have z:e9 "bed" (.fz (bD b)) []=([("bed",.fz (bD b))]:bb (Str×SV)):=rfl;have q:e9 "acts" (.rf 1) ([("bed",.fz (bD b))]:bb (Str×SV))=([("bed",.fz (bD b)),("acts",.rf 1)]:bb (Str×SV)):=by unfold e9;rw[ax (by left)];rfl
 have o:e9 "waiting" (.fz (hG s.wt)) ([("bed",.fz (bD b)),("acts",.rf 1)]:bb (Str×SV))=([("bed",.fz (bD b)),("acts",.rf 1),("waiting",.fz (hG s.wt))]:bb (Str×SV)):=by unfold e9;rw[ax (by left)];unfold e9;rw[ax (by left)];rfl
 have n:e9 "once" (.fz (nN s.oc)) ([("bed",.fz (bD b)),("acts",.rf 1),("waiting",.fz (hG s.wt))]:bb (Str×SV))=([("bed",.fz (bD b)),("acts",.rf 1),("waiting",.fz (hG s.wt)),("once",.fz (nN s.oc))]:bb (Str×SV)):=by unfold e9;rw[ax (by left)];unfold e9;rw[ax (by left)];unfold e9;rw[ax (by left)];rfl
 have m:e9 "sent" (.rf 2) ([("bed",.fz (bD b)),("acts",.rf 1),("waiting",.fz (hG s.wt)),("once",.fz (nN s.oc))]:bb (Str×SV))=uD b s:=by unfold e9;rw[ax (by left)];unfold e9;rw[ax (by left)];unfold e9;rw[ax (by left)];unfold e9;rw[ax (by left)];rfl
 have r:mz [] ((c7 s.ac).map kj)=(c7 s.ac).map kj:=yg (c7 s.ac) [] (kE s.ac);have e:∀{x:SV} {ρ:bv} {fs:bb (Str×SV)} {Z:aZ} {j:eK} {f:Str} {c:Cell} {l:aZ},ρ[0]?=Bn (Bn (.rf 0))->j ρ Z=.ok x (.obj "Hand" fs::l)->fs.length<100->iu "Hand" f (az 0) j ρ Z=.ok (.nx ρ) (.obj "Hand" (e9 f x fs)::l):=λh u t=>(zb u (bC h) rfl t).trans rfl
 have ha:xT (ag (ay bc (aa 2) (~~~0))) [Bn (.rf 0),-(bD b),-(dA s)] [.obj "Hand" ([("bed",.fz (bD b))]:bb (Str×SV))]=.ok (.rf 1) [.obj "Hand" ([("bed",.fz (bD b))]:bb (Str×SV)),.Vo ((c7 s.ac).map kj)]:=
  (Io (ah (d:=.tuple ((c7 s.ac).map pD)) (aE (rv:=.fz (.tuple ((c7 s.ac).map pD))) (af rfl) aG rfl rfl e0)) (ug _)).trans (by rw[r];rfl)
 refine lg (ρ:=[Bn (.rf 0),-(bD b),-(dA s)]) (ρ1:=[Bn (.rf 0),-(bD b),-(dA s)]) rfl (dR (e rfl (c:=.dead) (ah (d:=bD b) (af rfl)) (PB rfl)) (dR (e rfl (c:=.dead) ha (PB rfl)) (dR (e rfl (c:=.dead) (ah (d:=hG s.wt) (aE (rv:=.fz (hG s.wt)) (af rfl) aG rfl rfl y)) (PB rfl)) (dR (e rfl (c:=.dead) (ah (d:=nN s.oc) (aE (rv:=.fz (nN s.oc)) (af rfl) aG rfl rfl v)) (PB rfl)) ?_))));rw[q,o,n];refine(e (fs:=([("bed",.fz (bD b)),("acts",.rf 1),("waiting",.fz (hG s.wt)),("once",.fz (nN s.oc))]:bb (Str×SV))) rfl (c:=.dead) (dY (ds:=[]) (sG aF rfl (Qu _))) (PB rfl)).trans ?_;show RS.ok _ (Cell.obj "Hand" (e9 "sent" (.rf 2) ([("bed",.fz (bD b)),("acts",.rf 1),("waiting",.fz (hG s.wt)),("once",.fz (nN s.oc))]:bb (Str×SV)))::_)=_;rw[m];rfl
omit Y in
theorem He(e:Sq):∃x:Str,bc (cy e) (.int 0)=-(.str x)/\cx (.str x) (.str "turn")=-(.bool (e.YS))/\cx (.str x) (.str "down")=-(.bool (e.isDown)):=by
 have f:Pw.strOk "down"=Pr:=by left
 have h:Pw.strOk "up"=Pr:=by left
 have d:Pw.strOk "turn"=Pr:=by left
 cases e with
 |down k=>exact⟨"down",iG,BJ f d (by left),J0 f⟩
 |up k=>exact⟨"up",iG,BJ h d (by left),BJ h f (by left)⟩
 |turn=>exact⟨"turn",iG,J0 d,BJ d f (by left)⟩
theorem HJ(n:SW b s)(v:EV b e):∃Z',kO [.fz (bD b),.fz (dA s),.fz (cy e)] []=.ok (.tp [.rf 2,.fz (dA (bN b s e).1)]) Z'/\sh Z' (.rf 2)=Bn (.list ((bN b s e).2.map iC)):=by
 have d:HS b (s,[]) (d9 b s [] (c7 s.ac) []):=⟨c7 s.ac,[],.refl _,rfl⟩;obtain⟨x,t,z,y⟩:=He e;have l:∀{Z:aZ},bT (aA (ay cx (ay bc (aa 2) (~~~0)) (pC (.str "turn")))) [-(bD b),-(dA s),-(cy e),Bn (.rf 0)] Z=.ok (e.YS) Z:=bU (bG (aE (aE (af rfl) aG rfl rfl t) aG rfl rfl z) rfl);have u:∀{Z:aZ},bT (aA (ay cx (ay bc (aa 2) (~~~0)) (pC (.str "down")))) [-(bD b),-(dA s),-(cy e),Bn (.rf 0)] Z=.ok (e.isDown) Z:=bU (bG (aE (aE (af rfl) aG rfl rfl t) aG rfl rfl y) rfl);have h:∀{Z:aZ},HS b (bN b s e) Z->TK (je (mq (au (b4 "Hand" "sent" (az 3)) (au (aY "Hand" "stands" bL 1 (az 3) bi) bi))) [-(bD b),-(dA s),-(cy e),Bn (.rf 0)] Z) (λ_ Z'=>SV.fz .none=.tp [.rf 2,.fz (dA (bN b s e).1)]/\sh Z' (.rf 2)=Bn (.list ((bN b s e).2.map iC))) (λ_ _=>False) (λr Z'=>r=.tp [.rf 2,.fz (dA (bN b s e).1)]/\sh Z' (.rf 2)=Bn (.list ((bN b s e).2.map iC))):=λ{Z} hs=>by obtain⟨q,f,j⟩:=oz hs;have m:=b9 (ρ:=[-(bD b),-(dA s),-(cy e),Bn (.rf 0)]) (i:=3) (m:= "stands") hs (by left) rfl aQ rfl f;obtain⟨ps,J,E,rfl⟩:=hs;obtain⟨B,F,C,rfl⟩:=j;exact KZ (Dm (aw (vA rfl) (aw m aQ)) (PB rfl) rfl rfl) ⟨rfl,eS rfl⟩
 have A:uC "Hand" dU 3 (au (ag (aa 0)) (au (ag (aa 1)) bi)) [-(bD b),-(dA s),-(cy e),Pn] []=.ok (.rf 0) (d9 b s [] (c7 s.ac) []):=Kf (aw (ah (af rfl)) (aw (ah (af rfl)) aQ)) rfl HR;refine iY rfl (jy A rfl ?_);cases e with
 |turn=>obtain⟨q,f,j⟩:=GF Y d n (show 0<800 by decide);exact uJ l (lf (b9 d (by left) rfl aQ rfl f) (h j))
 |down k=>obtain⟨q,f,j⟩:=Fs Y d n v (show 0<800 by decide);have o:bc (cy (.down k)) (.int 1)=-(nd k):=lH;exact rQ l (uJ u (lf (b9 d (by left) rfl (aw (ah (aE (af rfl) aG rfl rfl o)) aQ) rfl f) (h j)))
 |up k=>obtain⟨q,f,j⟩:=GX Y d n v (show 0<700 by decide);have o:bc (cy (.up k)) (.int 1)=-(nd k):=lH;exact rQ l (rQ u (lf (b9 d (by left) rfl (aw (ah (aE (af rfl) aG rfl rfl o)) aQ) rfl f) (h j)))
theorem Jr{e:Sq}(f:SW b s)(j:EV b e):tI kO 3 [.fz (bD b),.fz (dA s),.fz (cy e)] Z=.ok (.tp [.rf Z.length,.fz (dA (bN b s e).1)]) (Z++[.lst (((bN b s e).2.map iC).map .fz)]):=by
 obtain⟨d,m,l⟩:=HJ Y f j;unfold tI;rw[av (show([.fz (bD b),.fz (dA s),.fz (cy e)]:bb SV).length=3 from rfl),show aC sB [.fz (bD b),.fz (dA s),.fz (cy e)]=Bn [bD b,dA s,cy e]from rfl];dsimp only;rw[show[bD b,dA s,cy e].map SV.fz=[.fz (bD b),.fz (dA s),.fz (cy e)]from rfl,m];show(match C5 d Z.length [.rf 2,.fz (dA (bN b s e).1)]with
  |some (l',cs,js)=>if js.Nodup then RS.ok (SV.tp l') (Z++cs.map N2)else .bad
  |none=>.bad)=_
 have h:C5 d Z.length [.rf 2,.fz (dA (bN b s e).1)]=Bn ([.rf Z.length,.fz (dA (bN b s e).1)],[(bN b s e).2.map iC],[2]):=by unfold C5;rw[l];rfl
 rw[h];dsimp only;rw[av (by decide)];rfl
end
def bJ:RQ:=⟨λ_=>Pn,Pn,Pn⟩
theorem qh(b:Bd):SW b bJ:=⟨⟨λk a e=>(by cases e),λo e=>(by cases e)⟩,λd g w e=>(by cases e)⟩
theorem jG{α:Type}{f:α->D}:∀{l:bb α},(∀a∈l,Pw.canLay0 (f a)=Pr)->Pw.canLayAll0 (l.map f)=Pr
 |[],_=>rfl
 |a::r,h=>by show(Pw.canLay0 (f a)&&Pw.canLayAll0 (r.map f))=Pr;rw[h a PH,jG λx b=>h x (PD _ b)];rfl
theorem gq{α:Type}{f:α->D}{n:Nat}:∀{l:bb α},(∀a∈l,Pw.depth (f a)<=n)->Pw.depthAll (l.map f)<=n
 |[],_=>Qu _
 |a::r,h=>adw.mpr ⟨h a PH,gq λx b=>h x (PD _ b)⟩
theorem rL{d:D}(h1:Pw.canLay0 d=Pr)(a:Pw.depth d<=64):iE d=Pr:=by unfold iE;rw[h1,aP a];rfl
theorem md{d:D}(h:iE d=Pr):Pw.canLay0 d=Pr:=by unfold iE at h;exact(P2 _ _▸h:_/\_).1
theorem kZ{d:D}(h:iE d=Pr):n6 d d=-(.bool Py):=by unfold n6;rw[h,md h,RU,av rfl,Wj d (md h)];rfl
theorem qC{d:D}(h:iE d=Pr):cx d d=-(.bool Pr):=by unfold cx;rw[h,md h,RU,av rfl,Wj d (md h)]
def Te(sn:Sn):Prop:=∀q∈sn,q.1<26
theorem Ie{q:Nat×Bool}(h:q.1<26):Pw.canLay0 (iC q)=Pr:=by show(Pw.strOk (cW q.1)&&(Pw.strOk (if q.2=Pr then "down" else "up")&&Pr))=Pr;rw[lU h];cases q.2<;>left
theorem uI(q:Nat×Bool):Pw.depth (iC q)<=1:=PB rfl
theorem Lh{sn:Sn}(h:Te sn):iE (.list (sn.map iC))=Pr:=by refine rL (jG λq a=>Ie (h q a)) ?_;show Pw.depthAll (sn.map iC)+1<=64;have:=gq (f:=iC) (l:=sn) λq _=>uI q;ext
theorem Gn{b:Bd}{s:RQ}(h:SW b s):iE (dA s)=Pr:=by
 have i:Pw.canLayAll0 ((c7 s.ac).map pD)=Pr:=jG λq j=>by show(Pr&&(Pw.canLay0 (mD q.2)&&Pr))=Pr;rw[vo (h.sa.ac _ _ (eE.mp j).2).2.lb];rfl
 have l:∀m:Mn,Pw.depth (mD m)<=1:=λm=>by cases m<;>exact PB rfl
 have o:Pw.depthAll ((c7 s.ac).map pD)<=2:=gq λq _=>by show max 0 (max (Pw.depth (mD q.2)) 0)+1<=2;have:=l q.2;ext
 have e:Pw.canLay0 (hG s.wt)=Pr/\Pw.depth (hG s.wt)<=2:=by
  cases q:s.wt with
  |none=>exact⟨rfl,Qu _⟩
  |some x=>
   obtain⟨a,g,w⟩:=x;have v:=(h.wt a g w q).1;constructor
   .show(Pw.canLayAll0 (aR a)&&(Pr&&(Pw.canLay0 (sQ w)&&Pr)))=Pr
    rw[gB];cases w with
    |none=>show Pw.canLay0 (.tuple [.str "chord"])&&Pr=Pr;left
    |some f=>obtain⟨c,n⟩:=f;have lb:LB (.U5 c n):=(v.tp c n rfl).1;show(Pw.canLay0 (mD (.U5 c n))&&Pr)=Pr;rw[vo lb];rfl
   .show max (Pw.depthAll (aR a)+1) (max 0 (max (Pw.depth (sQ w)) 0))+1<=2
    rw[lm];cases w with
    |none=>exact PB rfl
    |some f=>exact PB rfl
 have d:Pw.canLay0 (nN s.oc)=Pr/\Pw.depth (nN s.oc)=0:=by cases s.oc<;>exact⟨rfl,rfl⟩
 refine rL ?_ ?_
 .show(Pw.canLayAll0 ((c7 s.ac).map pD)&&(Pw.canLay0 (hG s.wt)&&(Pw.canLay0 (nN s.oc)&&Pr)))=Pr;rw[i,e.1,d.1];rfl
 .show max (Pw.depthAll ((c7 s.ac).map pD)+1) (max (Pw.depth (hG s.wt)) (max (Pw.depth (nN s.oc)) 0))+1<=64;rw[d.2];have:=e.2;ext
theorem ju{ac:Ac}{a:Mn}:gh ac a=Pr↔∃k,k<5/\ac k=Bn a:=by
 unfold gh;rw[decide_eq_true_eq,Qo];constructor
 .rintro⟨q,b,rfl⟩;exact⟨q.1,eE.mp b⟩
 .rintro⟨k,b,d⟩;exact⟨(k,a),eE.mpr ⟨b,d⟩,rfl⟩
section
variable{b:Bd}(Z:VB b){s:RQ}{p:RQ×Sn}{k:Nat}{a:Mn}
theorem Te.app{x y:Sn}(hx:Te x)(d:Te y):Te (x++y):=λq e=>(Qm.mp e).elim (hx q) (d q)
theorem lA(h:Te p.2)(ha:LB a):Te (eI p k a).2:=by
 refine h.app λq d=>?_;cases a with
 |Qa c=>
  have d:q∈(if gh p.1.ac (.Qa c)=Pr then[]else[(c,Pr)]:Sn):=d;split at d
  .cases d
  .rw[PL.mp d];exact ha
 |_=>cases d
theorem FL(d:bb (Nat×Mn)):∀{p:RQ×Sn},Te p.2->(∀q∈d,LB q.2)->Te (gP p d).2:=by
 induction d with
 |nil=>exact λh _=>h
 |cons q r f=>exact λh e=>f (lA h (e q PH)) λx g=>e x (PD _ g)
theorem JT(h:Te p.2)(ha:SA b p.1):Te (go p k).2:=by
 unfold go;split
 .rename_i a q
  have lb:=(ha.ac k a q).2.lb;refine h.app λx d=>?_;cases a with
  |Qa c=>
   have d:x∈(if gh (iL p.1.ac k Pn) (.Qa c)=Pr then[]else[(c,Py)]:Sn):=d;split at d
   .cases d
   .rw[PL.mp d];exact lb
  |_=>cases d
 .exact h
include Z
theorem mU(h:Te p.2)(f:WD b p.1):Te (cD b p).2:=by
 unfold cD;split
 .exact h
 .rename_i d g w q;exact FL _ (p:=({p.1 with wt:=Pn},p.2)) h λx e=>(u8 Z (f d g w q) x e).2.lb
theorem KP(h:Te p.2)(f:SA b p.1)(g:(k:Int)<b.n):Te (CA b p k).2:=by
 obtain⟨l,j⟩:=zY Z f;obtain⟨d,e⟩:=uO Z (k:=k) l j g;have i:CA b p k=rS b (lQ p.1.ac p.1.oc) (et p.1 (look b (lQ p.1.ac p.1.oc) k),p.2) k (look b (lQ p.1.ac p.1.oc) k):=rfl;rw[i];generalize look b (lQ p.1.ac p.1.oc) k=m at d e;generalize lQ p.1.ac p.1.oc=L at d;have lb:=d.lb;cases m with
 |U5 c n=>exact h
 |Qa c=>
  show Te (if(decide (L=0)&& !(fA b [k]).isEmpty)=Pr then({et p.1 (.Qa c)with wt:=Bn ([k],0,Pn)},p.2)else eI (et p.1 (.Qa c),p.2) k (.Qa c)).2;split
  .exact h
  .exact lA (p:=(et p.1 (.Qa c),p.2)) h lb
 |RY n=>exact lA (p:=(et p.1 (.RY n),p.2)) h lb
 |once n=>exact lA (p:=(et p.1 (.once n),p.2)) (k:=k) (a:=.none) h trivial
 |none=>exact lA (p:=(et p.1 .none,p.2)) h lb
 |below=>exact a5 rfl e
theorem A9{e:Sq}(h:SW b s)(l:EV b e):Te (bN b s e).2:=by
 have f:Te []:=λq o=>by cases o
 cases e with
 |turn=>
  show Te (ja b (s,[])).2;unfold ja;split
  .exact f
  .rename_i i g w q
   have v:=(h.wt i g w q).1;split
   .exact mU Z (p:=({s with wt:=Bn (i,g+1,w)},[])) f λ_ _ _ e=>by cases e;exact⟨v.ne,v.nd,v.kn,v.kf,by have:=v.g0;ext,v.tp,v.ch⟩
   .exact f
 |up k=>
  show Te (pO b (s,[]) k).2;unfold pO;split
  .rename_i q
   have z:=nO Z (p:=(s,[])) h q;refine JT ?_ z.1.sa;unfold cj;split
   .exact mU Z (p:=(s,[])) f (SW.wd Z h)
   .rename_i c n e;have r:c<26:=((h.wt _ _ _ e).1.tp c n rfl).1;exact lA (p:=({s with wt:=Pn},[])) f r
   .exact f
  .exact JT (p:=(s,[])) f h.sa
 |down k=>
  show Te (jc b (s,[]) k).2;unfold jc;split
  .exact f
  .rename_i q
   rw[UH,not_or]at q;have ha:s.ac k=Pn:=by
    cases z:s.ac k with
    |none=>rfl
    |some x=>exact a5 (show(s.ac k).isSome=Pr by rw[z];rfl) q.1
   have hn:lZ s.wt k=Py:=by
    cases z:lZ s.wt k with
    |false=>rfl
    |true=>exact a5 z q.2
   split
   .rename_i m
    obtain⟨i,g,j,y,t,u⟩:=wA Z (p:=(s,[])) h l ha hn m;have j:s.wt=Bn (i,g,Pn):=j;unfold sS;dsimp only;rw[j];dsimp only;split
    .exact mU Z (p:=({s with wt:=Bn (i++[k],g,Pn)},[])) f λ_ _ _ e=>by cases e;exact t
    .exact f
   .have d:=jq Z (p:=(s,[])) h.sa (SW.wd Z h);exact KP Z (mU Z (p:=(s,[])) f (SW.wd Z h)) d.1.sa l
end
def ck(b:Bd):RQ->bb Sq->RQ×bb Sn
 |s,[]=>(s,[])
 |s,e::r=>((ck b (bN b s e).1 r).1,(bN b s e).2::(ck b (bN b s e).1 r).2)
theorem sH(b:Bd):∀(xs ys:bb Sq) (s:RQ),ck b s (xs++ys)=((ck b (ck b s xs).1 ys).1,(ck b s xs).2++(ck b (ck b s xs).1 ys).2)
 |[],_,_=>rfl
 |e::r,ys,s=>by show((ck b (bN b s e).1 (r++ys)).1,_::(ck b (bN b s e).1 (r++ys)).2)=_;rw[sH b r ys];rfl
theorem kF(b:Bd):∀(xs:bb Sq) (s:RQ),(ck b s xs).2.length=xs.length
 |[],_=>rfl
 |e::r,s=>by show(_::(ck b (bN b s e).1 r).2).length=_;rw[PN,kF b r,PN]
theorem Af(b:Bd):∀(xs:bb Sq) (s:RQ) (i:Nat) (e:Sq),xs[i]?=Bn e->(ck b s (xs.take (i+1))).1=(bN b (ck b s (xs.take i)).1 e).1/\(ck b s xs).2[i]?=Bn (bN b (ck b s (xs.take i)).1 e).2
 |[],_,_,_,h=>by cases h
 |x::r,s,0,e,h=>by cases h;exact⟨rfl,rfl⟩
 |x::r,s,i+1,e,h=>by have:=Af b r (bN b s x).1 i e h;exact this
theorem p7{b:Bd}(a:VB b):∀(xs:bb Sq) {s:RQ},SW b s->(∀e∈xs,EV b e)->SW b (ck b s xs).1
 |[],_,h,_=>h
 |e::r,s,h,he=>p7 a r (vL a h (he e PH)) λx d=>he x (PD _ d)
def pL(dl:bb Sn):bb D:=dl.map λa=>.list (a.map iC)
theorem KW(j:Nat)(h:j<=1000):dM (.list [.tuple [.str "turn",.int 0]]) (nd j)=Bn (.ow ((PK j Sq.turn).map cy)):=by refine(Ei h (by show 1<=1000;decide)).trans ?_;rw[JQ,YB];rfl
theorem Ml(dl:bb Sn):(pL dl).length=dl.length:=by unfold pL;rw[Pp]
theorem E4{a c:bb Sq}(h:a.length+c.length<=1000):de (.list (a.map cy)) (.list (c.map cy))=Bn (.ow ((a++c).map cy)):=by show(if(a.map cy).length+(c.map cy).length<=1000000 then Bn (RV.ow (a.map cy++c.map cy))else Pn)=_;rw[Pp,Pp,av (by ext),Qb]
end STP
namespace K36
open PySem L2 L3 STP
def oV:FS:=(c9 (K7 (aA (ay HB (aa 1) (eX gm {aa 0}))) (ay bc (aa 0) (aa 1)) (~~~0)))
def bH:FN:=fC 2 oV
def kM:FS:=(bp (cQ (ay d8 (ay dM (ay de (ay d8 (aa 0) (~~~1000033)) (aa 1)) (ay de (aa 1) (~~~521))) (~~~1000033)) (gN 3))
 (bp (cQ (ay d8 (ay de (ay de (ay dM (aa 3) (aa 3)) (ay eW (aa 0) (~~~1000033))) (ay dM (~~~7) (aa 1))) (~~~999983)) (gN 3))
 (c9 (ay d8 (ay eW (aa 3) (~~~3)) (aa 2)))))
def bh:FN:=fC 4 kM
def eA:FS:=(bp (cQ (ay kx (pC (.str "abcd")) (dX bh 3 {aa 0,~~~5,~~~4})) (gN 3))
 (bp (cQ (ay de (~~~1) (dX bh 3 {aa 0,~~~7,eX wR {~~~1,ay pJ (aa 2) (~~~1)}})) (gN 4))
 (bp (cQ (dX bh 3 {aa 0,~~~3,~~~9}) (gN 5))
 (bp (jv (ke (aA (ay vK (aa 1) (~~~0))) (aA (ay vK (aa 5) (~~~6)))) (c9 (bQ {pC (.str "below")})) dw)
 (bp (jv (aA (ay cx (aa 5) (~~~3))) (c9 (bQ {pC (.str "none")})) dw)
 (bp (jv (ke (aA (ay vK (aa 2) (~~~1))) (aA (ay cx (aa 5) (~~~4)))) (c9 (bQ {pC (.str "layer"),aa 4})) dw)
 (bp (jv (ke (aA (ay vK (aa 2) (~~~1))) (aA (ay cx (aa 5) (~~~5)))) (c9 (bQ {pC (.str "tap"),aa 3,aa 4})) dw)
 (bp (jv (ke (aA (ay vK (aa 2) (~~~1))) (aA (ay cx (aa 5) (~~~6)))) (c9 (bQ {pC (.str "once"),aa 4})) dw)
 (c9 (bQ {pC (.str "letter"),aa 3}))))))))))
def eD:FN:=fC 6 eA
def gr:FS:=(bp (cQ (eu 1 [2] (lK gQ {eX gm {aa 2}}) (gN 0) (aA (ay cx (ay bc (ay bc (aa 1) (aa 0)) (~~~0)) (pC (.str "letter")))) (aa 0)) (gN 3))
 (bp (cQ (dg ao) (gN 4))
 (bp (mV (lK gQ {~~~4}) (gN 5) (bp (cQ (dX bH 2 {aa 0,ay de (aa 1) (aa 5)}) (gN 6))
 (bp (cQ (eX ji {eu 1 [6] (jr (aa 3)) (gN 0) (aA (ay vK (dX bh 3 {ay de (aa 1) (ay dM (~~~31) (aa 0)),~~~13,~~~3}) (~~~0))) (aa 0)}) (gN 7))
 (jv (ke (aA (ay vK (eX gm {aa 7}) (~~~1))) (ke (aA (ay vK (dX bh 3 {aa 6,~~~17,~~~3}) (~~~0))) (aA (ay mx (aa 7) (eu 1 [] (tG 4) (gN 0) fT (ay bc (aa 0) (~~~0))))))) (gJ (mh 4 (bQ {aa 7,ay kx (pC (.str "abxy")) (dX bh 3 {aa 6,~~~19,~~~4})}))) dw))))
 (c9 (eX ji {aa 4})))))
def gF:FN:=fC 8 gr
def jL:FS:=(bp (cQ (dX bH 2 {aa 0,~~~0}) (gN 2))
 (bp (cQ (ay de (~~~1) (dX bh 3 {aa 2,~~~1,aa 1})) (gN 3))
 (bp (cQ (ay de (~~~1) (dX bh 3 {aa 2,~~~2,~~~3})) (gN 4))
 (bp (cQ (dg ao) (gN 5))
 (bp (mV (lK gQ {aa 4}) (gN 6) (bp (cQ (eu 1 [0,3,6] (lK gQ {aa 3}) (gN 0) fT (dX bH 2 {aa 1,ay de (ay de (~~~1) (ay dM (aa 2) (aa 3))) (aa 0)})) (gN 7))
 (gJ (mh 5 (eX ji {eu 1 [6,4] (jr (aa 7)) (gN 0) fT (dX eD 3 {aa 0,aa 1,aa 2})})))))
 (c9 (bQ {aa 3,eX ji {aa 5},dX gF 3 {aa 0,~~~16,ay bc (aa 5) (~~~0)},ay de (~~~1) (dX bh 3 {aa 2,~~~23,~~~4})})))))))
def jH:FN:=fC 8 jL
def cJ:FS:=(bp (cQ (ay kx (pC (.str "abcdefghijklmnopqrstuvwxyz")) (ay d8 (ay eW (aa 0) (~~~7)) (~~~26))) (gN 3))
 (bp (cQ (ay de (~~~1) (ay d8 (ay eW (aa 0) (~~~182)) (eX wR {~~~1,ay pJ (aa 2) (~~~1)}))) (gN 4))
 (bp (jv (ke (aA (ay cx (ay d8 (aa 0) (~~~7)) (~~~1))) (aA (ay vK (aa 1) (~~~0)))) (c9 (bQ {pC (.str "below")})) dw)
 (bp (jv (aA (ay cx (ay d8 (aa 0) (~~~7)) (~~~2))) (c9 (bQ {pC (.str "none")})) dw)
 (bp (jv (ke (aA (ay cx (ay d8 (aa 0) (~~~7)) (~~~3))) (aA (ay vK (aa 2) (~~~1)))) (c9 (bQ {pC (.str "layer"),aa 4})) dw)
 (bp (jv (ke (aA (ay cx (ay d8 (aa 0) (~~~7)) (~~~4))) (aA (ay vK (aa 2) (~~~1)))) (c9 (bQ {pC (.str "tap"),aa 3,aa 4})) dw)
 (bp (jv (ke (aA (ay cx (ay d8 (aa 0) (~~~7)) (~~~5))) (aA (ay vK (aa 2) (~~~1)))) (c9 (bQ {pC (.str "once"),aa 4})) dw)
 (c9 (bQ {pC (.str "letter"),aa 3})))))))))
def dC:FN:=fC 5 cJ
def fy:FS:=(bp (cQ (ay de (~~~1) (ay d8 (aa 0) (aa 1))) (gN 4))
 (bp (cQ (ay de (~~~1) (ay d8 (ay eW (aa 0) (aa 1)) (aa 2))) (gN 5))
 (bp (cQ (ay eW (ay eW (aa 0) (aa 1)) (aa 2)) (gN 0))
 (bp (cQ (ay de (~~~1) (ay d8 (aa 0) (aa 3))) (gN 6))
 (bp (cQ (ay eW (aa 0) (aa 3)) (gN 0))
 (bp (cQ (dg ao) (gN 7))
 (bp (mV (lK gQ {aa 5}) (gN 8) (bp (cQ (dg ao) (gN 9))
 (bp (mV (lK gQ {aa 4}) (gN 10) (bp (gJ (mh 9 (dX dC 3 {ay d8 (aa 0) (~~~364),aa 8,aa 5})))
 (cQ (ay eW (aa 0) (~~~364)) (gN 0))))
 (gJ (mh 7 (eX ji {aa 9}))))))
 (bp (cQ (dg ao) (gN 11))
 (bp (mV (lK gQ {~~~4}) (gN 12) (bp (cQ (eX ji {eu 1 [0,7] (lK gQ {aa 4}) (gN 0) (ke (aA (ay cx (ay yn (ay DT (aa 1) (aa 0)) (~~~1)) (~~~1))) (aA (ay cx (ay bc (ay bc (ay bc (aa 2) (~~~0)) (aa 0)) (~~~0)) (pC (.str "letter"))))) (aa 0)}) (gN 13))
 (bp (jv (ke (aA (ay vK (eX gm {aa 13}) (~~~1))) (aA (ay mx (aa 13) (eu 1 [] (tG 11) (gN 0) fT (ay bc (aa 0) (~~~0)))))) (gJ (mh 11 (bQ {aa 13,ay kx (pC (.str "abcdefghijklmnopqrstuvwxyz")) (ay d8 (ay eW (aa 0) (~~~32)) (~~~26))}))) dw)
 (cQ (ay eW (aa 0) (~~~832)) (gN 0)))))
 (c9 (bQ {aa 4,eX ji {aa 7},eX ji {aa 11},aa 6})))))))))))
def fx:FN:=fC 14 fy
def dI:FS:=(bp (cQ (dg ao) (gN 2))
 (bp (cQ (ay d8 (aa 0) (~~~41)) (gN 3))
 (bp (cQ (ay eW (aa 0) (~~~41)) (gN 0))
 (bp (mV (lK gQ {aa 3}) (gN 4) (bp (cQ (ay d8 (aa 0) (ay de (ay dM (~~~2) (aa 1)) (~~~1))) (gN 5))
 (bp (cQ (ay eW (aa 0) (ay de (ay dM (~~~2) (aa 1)) (~~~1))) (gN 0))
 (gJ (mh 2 (ay bc (dg {bQ {pC (.str "down"),ay d8 (aa 5) (aa 1)},bQ {pC (.str "up"),ay d8 (aa 5) (aa 1)},bQ {pC (.str "turn"),~~~0}}) (ay eW (aa 5) (aa 1))))))))
 (c9 (aa 2))))))
def cP:FN:=fC 6 dI
def gx:FS:=(bp (cQ (dg ao) (gN 3))
 (bp (mV (jr (ME N5 (aa 0) (tR (aa 1)) (tR (~~~63)))) (gN 4) (bp (cQ (dX bh 3 {aa 4,~~~29,ay de (ay dM (~~~5) (aa 2)) (~~~3)}) (gN 5))
 (jv (aA (ay HB (aa 5) (ay dM (~~~2) (aa 2)))) (gJ (mh 3 (bQ {pC (.str "down"),ay eW (aa 5) (~~~2)}))) (jv (aA (ay HB (aa 5) (ay dM (~~~4) (aa 2)))) (gJ (mh 3 (bQ {pC (.str "up"),ay pJ (ay eW (aa 5) (~~~2)) (aa 2)}))) (jv (aA (ay HB (aa 5) (ay dM (~~~5) (aa 2)))) (gJ (mh 3 (bQ {pC (.str "down"),ay pJ (aa 5) (ay dM (~~~4) (aa 2))}))) (gJ (mh 3 (bQ {pC (.str "turn"),~~~0}))))))))
 (c9 (aa 3))))
def ff:FN:=fC 6 gx
def gb:FS:=(bp (cQ (dX jH 2 {aa 0,~~~5}) (gN 1))
 (bp (jv (zK (aA (oO M4 HB (~~~0) (dX bH 2 {aa 0,~~~1}) (ay CN (~~~10) (~~~18))))) (cQ (dX fx 4 {eX zI {dX bH 2 {aa 0,~~~1}},~~~5,~~~3,~~~4}) (gN 1)) dw)
 (bp (jv (zK (aA (oO M4 HB (~~~0) (dX bH 2 {aa 0,~~~2}) (ay CN (~~~10) (~~~18))))) (c9 (bQ {aa 1,dX cP 2 {eX zI {dX bH 2 {aa 0,~~~2}},ay bc (aa 1) (~~~0)}})) dw)
 (c9 (bQ {aa 1,dX ff 3 {aa 0,~~~20,ay bc (aa 1) (~~~0)}})))))
def gZ:FN:=fC 2 gb
def kq:FS:=(bp (cQ (aa 0) (gT 3 (xY (gN 2) (xY (gN 3) (xY (gN 4) Hl)))))
 (bp (cQ (eu 2 [] (jr (aa 2)) (gT 2 (xY (gN 0) (xY (gN 1) Hl))) fT (aa 0)) (gN 5))
 (bp (jv (aA (ay n6 (aa 5) (eX L10.jZ {aa 5}))) (c9 (pC (.bool Py))) dw)
 (bp (jv (aA (ay kR (aa 3) (pC .none))) (cQ (ay de (aa 5) (eX sX {ay bc (aa 3) (~~~0)})) (gN 5)) dw)
 (c9 (Cf (ay cx (eX iU {aa 5}) (eX iU {aa 1})) (ay cx (eX L10.k8 {aa 5}) (eX gm {aa 5}))))))))
def gL:FN:=fC 6 kq
def iA:FS:=(c9 (eX L10.jZ {eu 2 [] (jr (ay bc (aa 0) (~~~0))) (gT 2 (xY (gN 0) (xY (gN 1) Hl))) (aA (ay cx (ay bc (aa 1) (~~~0)) (pC (.str "letter")))) (ay bc (aa 1) (~~~1))}))
def fN:FN:=fC 1 iA
end K36
namespace K36
open PySem L2 L3 L10 STP
def uL:gS:=(aW (fF (ag (pC (.tuple [(.tuple []),.none,.none]))) (iS 2))
 (aW (fF (ag (dg ao)) (iS 3))
 (aW (uZ (ng (jr (aa 1))) (iS 4) (aW (fF (ui STP.kO 3 (au (ag (aa 0)) (au (ag (aa 2)) (au (ag (aa 4)) bi)))) (iS 5))
 (aW (bZ (pz (az 3) (kx (az 5) (ag (~~~0)))))
 (fF (kx (az 5) (ag (~~~1))) (iS 2)))))
 (je (mq (au (az 3) (au (az 2) bi)))))))
def nV:lB:=fH 6 uL
def kS:gS:=(aW (uZ (ng (jr (aa 0))) (JL 2 (lW (iS 2) (lW (iS 3) wP))) (cL (jS (bT (aA (ay cx (aa 3) (pC (.str "down"))))) (bM (kg mx (ag (aa 2)) (az 1)))) (bZ (pz (az 1) (ag (aa 2)))) (cL (jS (bT (aA (ay cx (aa 3) (pC (.str "up"))))) (bM (kg Aq (ag (aa 2)) (az 1)))) (bZ (Dt (az 1) (ag (aa 2)))) (je (ag (pC (.bool Py)))))))
 (je (ag (pC (.bool Pr)))))
def gG:lB:=fH 4 kS
def jN:gS:=(aW (cL (jS (bT (aA (ay cx (ay bc (aa 0) (~~~0)) (pC (.str "down"))))) (bM (kg mx (ag (ay bc (aa 0) (~~~1))) (az 1)))) (bZ (pz (az 1) (ag (ay bc (aa 0) (~~~1))))) dE)
 (cL (jS (bT (aA (ay cx (ay bc (aa 0) (~~~0)) (pC (.str "up"))))) (bM (kg Aq (ag (ay bc (aa 0) (~~~1))) (az 1)))) (bZ (Dt (az 1) (ag (ay bc (aa 0) (~~~1))))) dE))
def gX:lB:=fH 2 jN
def Gy:gS:=(aW (fF (ag (dX gZ 1 {aa 0})) (JL 2 (lW (iS 1) (lW (iS 2) wP))))
 (aW (fF (sY (ag (ay de (ay de (aa 2) (eu 1 [] (lK gQ {ay bc (aa 1) (~~~0)}) (gN 0) fT (bQ {pC (.str "up"),aa 0}))) (ay dM (dg {bQ {pC (.str "turn"),~~~0}}) (ay bc (aa 1) (~~~3)))))) (iS 2))
 (aW (fF (sY (ag (bQ {bQ ao,pC .none,pC .none}))) (iS 3))
 (aW (fF (ag (dg ao)) (iS 4))
 (aW (fF (ag (dg ao)) (iS 5))
 (aW (fF (ag (dg ao)) (iS 6))
 (aW (uZ (ng (jr (aa 2))) (iS 7) (aW (fF (sY (ui STP.kO 3 (au (ag (aa 1)) (au (ag (aa 3)) (au (ag (aa 7)) bi))))) (JL 2 (lW (iS 8) (lW (iS 3) wP))))
 (aW (bZ (pz (az 6) (ag (aa 8))))
 (aW (bZ (rj gX 2 (au (ag (aa 7)) (au (az 4) bi))))
 (aW (cL (zc (sV (bM (rj gG 2 (au (ag (aa 8)) (au (az 5) bi))))) (bM (kg n6 (J1 yi (au (az 5) bi)) (ag (dX fN 1 {aa 3}))))) (je (ag (pC (.bool Py)))) dE)
 (cL (zc (sV (bM (Ij gL 2 (au (ag (aa 3)) (au (az 4) bi))))) (jS (bM (kg cx (az 4) (ag (dg ao)))) (zc (bT (aA (ay kR (ay bc (aa 3) (~~~1)) (pC .none)))) (bM (kg n6 (az 5) (ag (dg ao))))))) (je (ag (pC (.bool Py)))) dE))))))
 (aW (cL (bT (MR (aA (ay n6 (ay bc (aa 3) (~~~0)) (bQ ao))) (aA (ay kR (ay bc (aa 3) (~~~1)) (pC .none))))) (je (ag (pC (.bool Py)))) dE)
 (aW (fF (rj nV 2 (au (ag (aa 1)) (au (ag (aa 2)) bi))) (JL 2 (lW (iS 9) (lW (iS 10) wP))))
 (aW (cL (zc (bM (kg n6 (az 9) (az 6))) (bT (aA (ay n6 (aa 10) (aa 3))))) (je (ag (pC (.bool Py)))) dE)
 (aW (bZ (pz (kx (az 9) (ag (~~~0))) (ag (pC .none))))
 (je (yH (kg cx (E3 (az 9) (AZ (ag (~~~1))) Bg) (E3 (az 6) (AZ (ag (~~~1))) Bg)) (kg cx (rj nV 2 (au (ag (aa 1)) (au (ag (aa 2)) bi))) (mq (au (az 6) (au (ag (aa 3)) bi)))))))))))))))))
def F_law:lB:=fH 11 Gy
abbrev zf(d:D):bg PV:=-(d)
abbrev zo(l:bb D):bg PV:=Bn (.ow l)
theorem mE(a:bb Int)(k:Int)(d:0<=k):∃c:Int,bH [.list (a.map .int),.int k]=.ok (.fz (.int c)):=by
 obtain⟨n,rfl⟩:∃n:Nat,k=(n:Int):=⟨k.toNat,by ext⟩;have b:gm [.list (a.map .int)]=-(nd a.length):=(rF _).trans (by rw[Pp]);by_cases h:n<a.length
 .refine⟨a[n],jD (ρ:=[-(.list (a.map .int)),-(nd n)]) rfl (eh (pv:=.fz (.int a[n])) (rv:=.fz (.int a[n])) (KR (bG (aE (rv:=.fz (.bool Pr)) (af rfl) (cH (rv:=.fz (nd a.length)) (ai (af rfl) aF) rfl b) rfl rfl ?_) rfl) (aE (rv:=.fz (.int a[n])) (af rfl) (af rfl) rfl rfl (Pf ?_))) rfl rfl)⟩
  .rw[vI,aP (by ext)]
  .rw[PU,PM h];rfl
 .refine⟨0,jD (ρ:=[-(.list (a.map .int)),-(nd n)]) rfl (eh (pv:=.fz (.int 0)) (rv:=.fz (.int 0)) (Ls (bG (aE (rv:=.fz (.bool Py)) (af rfl) (cH (rv:=.fz (nd a.length)) (ai (af rfl) aF) rfl b) rfl rfl ?_) rfl) aG) rfl rfl)⟩;rw[vI,a3 (by ext)]
theorem Mm{i j:Int}(h: -2^64<i/\i<2^64):dM (.int i) (.int j)=-(.int (i*j)):=HL h
theorem OS{i j:Int}(h: -2^64<j/\j<2^64):dM (.int i) (.int j)=-(.int (i*j)):=GM h
def uB(x s m:Int):Int:=((x % 1000033+s)*(s+521) % 1000033*((x % 1000033+s)*(s+521) % 1000033)+x/1000033+7*s) % 999983/3 % m
theorem lV{x s m:Int}(hm:0<m):0<=uB x s m/\uB x s m<m:=⟨Tx _ (by ext),SQ _ hm⟩
theorem gC(x:Int){s m:Int}(n:0<=s)(h1:s<1000)(hm:0<m):bh [.int x,.int s,.int m]=.ok (.fz (.int (uB x s m))):=by unfold uB;have l:d8 (.int x) (.int 1000033)=-(.int (x % 1000033)):=fE (by decide);have e:dM (.int (x % 1000033+s)) (.int (s+521))=-(.int ((x % 1000033+s)*(s+521))):=OS ⟨by ext,by ext⟩;generalize (x % 1000033+s)*(s+521)=y at e;have d:d8 (.int y) (.int 1000033)=-(.int (y % 1000033)):=fE (by decide);have f:0<=y % 1000033/\y % 1000033<1000033:=⟨Tx _ (by decide),SQ _ (by decide)⟩;generalize y % 1000033=z at d f;have b:dM (.int z) (.int z)=-(.int (z*z)):=OS ⟨by ext,by ext⟩;have j:eW (.int x) (.int 1000033)=-(.int (x/1000033)):=fU ⟨by decide,by decide⟩;have i:dM (.int 7) (.int s)=-(.int (7*s)):=Mm ⟨by decide,by decide⟩;generalize z*z=u at b;have a:d8 (.int (u+x/1000033+7*s)) (.int 999983)=-(.int ((u+x/1000033+7*s) % 999983)):=fE (by decide);generalize (u+x/1000033+7*s) % 999983=v at a;have h:eW (.int v) (.int 3)=-(.int (v/3)):=fU ⟨by decide,by decide⟩;have g:d8 (.int (v/3)) (.int m)=-(.int (v/3 % m)):=fE hm;exact jD (ρ:=[-(.int x),-(.int s),-(.int m),Pn]) rfl (zQ (Ew (by fail "ev") rfl (zQ (Ew (by fail "ev") rfl (eh (by fail "ev") rfl rfl)))))
theorem Mo{z:Str}{cs:bb Nat}(hz:z.cps.toList=cs.map (97+·))(a:z.length<=1000000){r:Int}{c:Nat}(b:0<=r)(h:cs[r.toNat]?=Bn c):L3.kx (.str z) (.int r)=-(.str (cW c)):=by show(if z.length<=1000000 then(lO z.cps.toList r).map (λc=>RV.fz (.str ⟨#[c]⟩))else Pn)=_;rw[av a,hz,BU (v:=97+c) b (by rw[PU,h];rfl)];rfl
theorem yV{z:Str}(cs:bb Nat)(hz:z.cps.toList=cs.map (97+·))(b:z.length<=1000000)(d:∀c∈cs,c<26){r:Int}(e:0<=r)(h1:r<cs.length):∃c,c<26/\L3.kx (.str z) (.int r)=-(.str (cW c)):=by
 have a:r.toNat<cs.length:=by ext
 exact⟨cs[r.toNat],d _ (VW a),Mo hz b e (PM a)⟩
theorem Dj(a:bb Int)(lo hi:bg Int):∃ms:bb Int,ms.length<=a.length/\N5 (.list (a.map .int)) lo hi=Bn (.ow (ms.map .int)):=by
 refine⟨(a.drop (HT.sIx a.length 0 lo)).take (HT.sIx a.length a.length hi - HT.sIx a.length 0 lo),?_,?_⟩
 .rw[QH,VV];ext
 .show Bn (RV.ow (C2 (a.map .int) lo hi))=_;unfold C2;rw[Pp,List.map_take,List.map_drop]
def JG(a:bb (bb Nat)):bb D:=a.map λK=>.tuple (aR K)
theorem BN:∀Ks:bb (bb Nat),Pw.canLayAll0 (JG Ks)=Pr
 |[]=>rfl
 |K::r=>by show(Pw.canLayAll0 (aR K)&&Pw.canLayAll0 (JG r))=Pr;rw[gB,BN r];rfl
theorem Al(s:bb Nat):∀Ks:bb (bb Nat),((JG Ks).any λe=>Pw.eqv e (.tuple (aR s)))=decide (s∈Ks)
 |[]=>rfl
 |K::r=>by
  show(Pw.eqvAll (aR K) (aR s)||(JG r).any λe=>Pw.eqv e (.tuple (aR s)))=_;rw[Al s r,uE];by_cases h:K=s
  .rw[aP h,aP (show s∈K::r by rw[h];exact PH),TF]
  .rw[a3 h,Ug]
   by_cases g:s∈r
   .rw[aP g,aP (PD _ g)]
   .rw[a3 g,a3 (λz=>(P1.mp z).elim (λe=>h e.symm) g)]
theorem AU(s:bb Nat)(a:bb (bb Nat)):mx (.tuple (aR s)) (.list (JG a))=-(.bool (!decide (s∈a))):=by show(if(iE (.tuple (aR s))&&Pw.canLayAll0 (JG a))=Pr then _ else _)=_;rw[K1,BN,RU,av rfl,Al]
theorem tJ(cs:bb (bb Nat×Nat))(b:cs.length<=1000)(a:aO)(d:dj a=a):kh (dG (gN 0) fT (ay bc (aa 0) (~~~0)) (cs.map cV) (Pn::a) [])=.ok (JG (cs.map (·.1))):=by unfold JG;rw[Qy];exact qA cV (λc=>.tuple (aR c.1)) cs b d λc _=>aE (rv:=.fz (.tuple (aR c.1))) (af rfl) aG rfl rfl iG
theorem jb{n i k:Nat}(h:(P0 n)[i]?=Bn k):k=i/\i<n:=by obtain⟨b,a⟩:=Pu.mp h;rw[List.getElem_range]at a;rw[Qi]at b;exact⟨a.symm,b⟩
theorem AE{n a:Int}{d:bb (bb Mn)}{b:bb Mn}(h:VL n a d)(h1:(b.length:Int)=n)(e:∀m∈b,VM d.length a m):VL n a (d++[b]):=by
 intro i l hi;rcases L10.cz hi with h'|⟨rfl,rfl⟩
 .exact h i l h'
 .exact⟨h1,e⟩
theorem Et{a:Int}(h1:1<=a):∃M:Int,wR [.int 1,.int (a - 1)]=-(.int M)/\1<=M/\(1<a->M=a - 1):=by refine⟨_,rfl,?_⟩;split<;>ext
theorem Iv(c:Int)(L:Nat)(a:Int)(h1:1<=a):∃m:Mn,VM L a m/\eD [.int c,nd L,.int a]=.ok (.fz (mD m)):=by
 have o:=gC c (s:=5) (m:=4) (by decide) (by decide) (by decide);have f:=lV (x:=c) (s:=5) (m:=4) (by decide);generalize uB c 5 4=r5 at o f;obtain⟨l,g,u⟩:=yV (z:= "abcd") [0,1,2,3] (by left) (by left) (by decide) f.1 (show r5<4 from f.2);obtain⟨M,t,M1,M2⟩:=Et h1;have n:=gC c (s:=7) (m:=M) (by decide) (by decide) (by ext);have r:=lV (x:=c) (s:=7) (m:=M) (by ext);generalize uB c 7 M=r7 at n r;have p:=gC c (s:=3) (m:=9) (by decide) (by decide) (by decide);generalize uB c 3 9=r3 at p;have j:vK (nd L) (.int 0)=-(.bool (decide ((0:Int)<L))):=rfl;have e:∃rv,fC 6 eA [.int c,nd L,.int a]=.ok rv/\∃m:Mn,VM L a m/\rv=.fz (mD m):=by
  refine jY (T:=λrv=>∃m:Mn,VM L a m/\rv=.fz (mD m)) (ρ:=[zf (.int c),zf (nd L),zf (.int a),Pn,Pn,Pn]) rfl ?_;unfold eA;refine bB (ρ3:=[zf (.int c),zf (nd L),zf (.int a),zf (.str (cW l)),Pn,Pn]) (by fail "ev") rfl rfl ?_;refine bB (ρ3:=[zf (.int c),zf (nd L),zf (.int a),zf (.str (cW l)),zf (.int (1+r7)),Pn]) (by fail "ev") rfl rfl ?_;refine bB (ρ3:=[zf (.int c),zf (nd L),zf (.int a),zf (.str (cW l)),zf (.int (1+r7)),zf (.int r3)]) (by fail "ev") rfl rfl ?_;refine gK (b:=(decide ((0:Int)<L)&&decide (6<r3))) (ρ1:=[zf (.int c),zf (nd L),zf (.int a),zf (.str (cW l)),zf (.int (1+r7)),zf (.int r3)]) (by fail "ev") (λq=>?_) (λ_=>cS ?_)
  .rw[P2]at q;have d:=a4 q.1;exact fY (pv:=.fz (mD .below)) (ρ1:=[zf (.int c),zf (nd L),zf (.int a),zf (.str (cW l)),zf (.int (1+r7)),zf (.int r3)]) (show _=Res.ok (PV.fz (.tuple [.str "below"]),_) by fail "ev") rfl ⟨.below,by show(L:Int)≠0;ext,rfl⟩
  refine gK (b:=decide (r3=3)) (ρ1:=[zf (.int c),zf (nd L),zf (.int a),zf (.str (cW l)),zf (.int (1+r7)),zf (.int r3)]) (by fail "ev") (λq=>?_) (λ_=>cS ?_)
  .exact fY (pv:=.fz (mD .none)) (ρ1:=[zf (.int c),zf (nd L),zf (.int a),zf (.str (cW l)),zf (.int (1+r7)),zf (.int r3)]) (show _=Res.ok (PV.fz (.tuple [.str "none"]),_) by fail "ev") rfl ⟨.none,trivial,rfl⟩
  refine gK (b:=(decide (1<a)&&decide (r3=4))) (ρ1:=[zf (.int c),zf (nd L),zf (.int a),zf (.str (cW l)),zf (.int (1+r7)),zf (.int r3)]) (by fail "ev") (λq=>?_) (λ_=>cS ?_)
  .rw[P2]at q;have d:=M2 (a4 q.1);exact fY (pv:=.fz (mD (.RY (1+r7)))) (ρ1:=[zf (.int c),zf (nd L),zf (.int a),zf (.str (cW l)),zf (.int (1+r7)),zf (.int r3)]) (show _=Res.ok (PV.fz (.tuple [.str "layer",.int (1+r7)]),_) by fail "ev") rfl ⟨.RY (1+r7),⟨by ext,by ext⟩,rfl⟩
  refine gK (b:=(decide (1<a)&&decide (r3=5))) (ρ1:=[zf (.int c),zf (nd L),zf (.int a),zf (.str (cW l)),zf (.int (1+r7)),zf (.int r3)]) (by fail "ev") (λq=>?_) (λ_=>cS ?_)
  .rw[P2]at q;have d:=M2 (a4 q.1);exact fY (pv:=.fz (mD (.U5 l (1+r7)))) (ρ1:=[zf (.int c),zf (nd L),zf (.int a),zf (.str (cW l)),zf (.int (1+r7)),zf (.int r3)]) (show _=Res.ok (PV.fz (.tuple [.str "tap",.str (cW l),.int (1+r7)]),_) by fail "ev") rfl ⟨.U5 l (1+r7),⟨g,by ext,by ext⟩,rfl⟩
  refine gK (b:=(decide (1<a)&&decide (r3=6))) (ρ1:=[zf (.int c),zf (nd L),zf (.int a),zf (.str (cW l)),zf (.int (1+r7)),zf (.int r3)]) (by fail "ev") (λq=>?_) (λ_=>cS ?_)
  .rw[P2]at q;have d:=M2 (a4 q.1);exact fY (pv:=.fz (mD (.once (1+r7)))) (ρ1:=[zf (.int c),zf (nd L),zf (.int a),zf (.str (cW l)),zf (.int (1+r7)),zf (.int r3)]) (show _=Res.ok (PV.fz (.tuple [.str "once",.int (1+r7)]),_) by fail "ev") rfl ⟨.once (1+r7),⟨by ext,by ext⟩,rfl⟩
  exact eh (pv:=.fz (mD (.Qa l))) (ρ1:=[zf (.int c),zf (nd L),zf (.int a),zf (.str (cW l)),zf (.int (1+r7)),zf (.int r3)]) (show _=Res.ok (PV.fz (.tuple [.str "letter",.str (cW l)]),_) by fail "ev") rfl ⟨.Qa l,g,rfl⟩
 obtain⟨rv,h,m,i,rfl⟩:=e;exact⟨m,i,h⟩
theorem D9{r:Int}(a:0<=r)(h1:r<26):∃c,c<26/\L3.kx (.str "abcdefghijklmnopqrstuvwxyz") (.int r)=-(.str (cW c)):=
 yV (z:= "abcdefghijklmnopqrstuvwxyz") (P0 26) (by left) (by left) (by decide) a (by rw[Qi];exact h1)
theorem EL(x:Int)(L:Nat)(a:Int)(h1:1<=a)(p:a<=3):∃m:Mn,VM L a m/\dC [.int x,nd L,.int a]=.ok (.fz (mD m)):=by
 have y:eW (.int x) (.int 7)=-(.int (x/7)):=fU ⟨by decide,by decide⟩;have w:d8 (.int (x/7)) (.int 26)=-(.int (x/7 % 26)):=fE (by decide);obtain⟨l,f,u⟩:=D9 (r:=x/7 % 26) (by ext) (by ext);obtain⟨M,t,M1,M2⟩:=Et h1;have v:eW (.int x) (.int 182)=-(.int (x/182)):=fU ⟨by decide,by decide⟩;have n:d8 (.int (x/182)) (.int M)=-(.int (x/182 % M)):=fE (by ext);have o:0<=x/182 % M/\x/182 % M<M:=⟨Tx _ (by ext),SQ _ (by ext)⟩;generalize x/182 % M=r7 at n o;have j:d8 (.int x) (.int 7)=-(.int (x % 7)):=fE (by decide);generalize x % 7=r3 at j;have i:vK (nd L) (.int 0)=-(.bool (decide ((0:Int)<L))):=rfl;have e:∃rv,fC 5 cJ [.int x,nd L,.int a]=.ok rv/\∃m:Mn,VM L a m/\rv=.fz (mD m):=by
  refine jY (T:=λrv=>∃m:Mn,VM L a m/\rv=.fz (mD m)) (ρ:=[zf (.int x),zf (nd L),zf (.int a),Pn,Pn]) rfl ?_;unfold cJ;refine bB (ρ3:=[zf (.int x),zf (nd L),zf (.int a),zf (.str (cW l)),Pn]) (by fail "ev") rfl rfl ?_;refine bB (ρ3:=[zf (.int x),zf (nd L),zf (.int a),zf (.str (cW l)),zf (.int (1+r7))]) (by fail "ev") rfl rfl ?_;refine gK (b:=(decide (r3=1)&&decide ((0:Int)<L))) (ρ1:=[zf (.int x),zf (nd L),zf (.int a),zf (.str (cW l)),zf (.int (1+r7))]) (by fail "ev") (λq=>?_) (λ_=>cS ?_)
  .rw[P2]at q;have d:=a4 q.2;exact fY (pv:=.fz (mD .below)) (ρ1:=[zf (.int x),zf (nd L),zf (.int a),zf (.str (cW l)),zf (.int (1+r7))]) (show _=Res.ok (PV.fz (.tuple [.str "below"]),_) by fail "ev") rfl ⟨.below,by show(L:Int)≠0;ext,rfl⟩
  refine gK (b:=decide (r3=2)) (ρ1:=[zf (.int x),zf (nd L),zf (.int a),zf (.str (cW l)),zf (.int (1+r7))]) (by fail "ev") (λq=>?_) (λ_=>cS ?_)
  .exact fY (pv:=.fz (mD .none)) (ρ1:=[zf (.int x),zf (nd L),zf (.int a),zf (.str (cW l)),zf (.int (1+r7))]) (show _=Res.ok (PV.fz (.tuple [.str "none"]),_) by fail "ev") rfl ⟨.none,trivial,rfl⟩
  refine gK (b:=(decide (r3=3)&&decide (1<a))) (ρ1:=[zf (.int x),zf (nd L),zf (.int a),zf (.str (cW l)),zf (.int (1+r7))]) (by fail "ev") (λq=>?_) (λ_=>cS ?_)
  .rw[P2]at q;have d:=M2 (a4 q.2);exact fY (pv:=.fz (mD (.RY (1+r7)))) (ρ1:=[zf (.int x),zf (nd L),zf (.int a),zf (.str (cW l)),zf (.int (1+r7))]) (show _=Res.ok (PV.fz (.tuple [.str "layer",.int (1+r7)]),_) by fail "ev") rfl ⟨.RY (1+r7),⟨by ext,by ext⟩,rfl⟩
  refine gK (b:=(decide (r3=4)&&decide (1<a))) (ρ1:=[zf (.int x),zf (nd L),zf (.int a),zf (.str (cW l)),zf (.int (1+r7))]) (by fail "ev") (λq=>?_) (λ_=>cS ?_)
  .rw[P2]at q;have d:=M2 (a4 q.2);exact fY (pv:=.fz (mD (.U5 l (1+r7)))) (ρ1:=[zf (.int x),zf (nd L),zf (.int a),zf (.str (cW l)),zf (.int (1+r7))]) (show _=Res.ok (PV.fz (.tuple [.str "tap",.str (cW l),.int (1+r7)]),_) by fail "ev") rfl ⟨.U5 l (1+r7),⟨f,by ext,by ext⟩,rfl⟩
  refine gK (b:=(decide (r3=5)&&decide (1<a))) (ρ1:=[zf (.int x),zf (nd L),zf (.int a),zf (.str (cW l)),zf (.int (1+r7))]) (by fail "ev") (λq=>?_) (λ_=>cS ?_)
  .rw[P2]at q;have d:=M2 (a4 q.2);exact fY (pv:=.fz (mD (.once (1+r7)))) (ρ1:=[zf (.int x),zf (nd L),zf (.int a),zf (.str (cW l)),zf (.int (1+r7))]) (show _=Res.ok (PV.fz (.tuple [.str "once",.int (1+r7)]),_) by fail "ev") rfl ⟨.once (1+r7),⟨by ext,by ext⟩,rfl⟩
  exact eh (pv:=.fz (mD (.Qa l))) (ρ1:=[zf (.int x),zf (nd L),zf (.int a),zf (.str (cW l)),zf (.int (1+r7))]) (show _=Res.ok (PV.fz (.tuple [.str "letter",.str (cW l)]),_) by fail "ev") rfl ⟨.Qa l,f,rfl⟩
 obtain⟨rv,h,m,g,rfl⟩:=e;exact⟨m,g,h⟩
structure Xt(l0:bb Mn)(cs:bb (bb Nat×Nat)):Prop where
 vc:∀c∈cs,VC l0 c
 un:cs.Pairwise λa c=>a.1≠c.1
theorem Xt.nil(l0:bb Mn):Xt l0 []:=⟨λc a=>(by cases a),R9⟩
theorem Xt.add(h:Xt l0 cs)(i:2<=s.length)(e:s.Pairwise (·<·))(g:∀k∈s,pB l0 k=Pr)(f:l<26)(d:s∉cs.map (·.1)):Xt l0 (cs++[(s,l)]):=by
 refine⟨λc b=>(Qm.mp b).elim (h.vc c) λz=>?_,U1.mpr ⟨h.un,QX _ _,λa ha c b=>?_⟩⟩
 .rw[PL.mp z];exact⟨i,e,g,f⟩
 .rw[PL.mp b];exact λz=>d (Qo.mpr ⟨a,ha,z⟩)
theorem EX(a:k<l0.length):∃d,bc (cU l0) (nd k)=-(d)/\∃w,bc d (.int 0)=-(.str w)/\cx (.str w) (.str "letter")=-(.bool (pB l0 k)):=by
 have b:pB l0 k=l0[k].Zt:=by unfold pB;rw[PM a];rfl
 rw[b];exact⟨mD l0[k],GC (by rw[PU,PM a];rfl),_,rZ _,jm _⟩
theorem B9(a:bb Int)(l0:bb Mn)(hl:l0.length<=5):∃cs,Xt l0 cs/\cs.length<=4/\gF [.list (a.map .int),.int 16,cU l0]=.ok (.fz (.tuple (cs.map cV))):=by
 have S:gQ [.int 4]=Bn (aR (P0 4)):=nF (n:=4) (by decide);have X:gm [cU l0]=-(nd l0.length):=(ig _).trans (by rw[Pp]);have E:gQ [nd l0.length]=Bn (aR (P0 l0.length)):=nF (by ext);have P:kh (dG (gN 0) (aA (ay cx (ay bc (ay bc (aa 1) (aa 0)) (~~~0)) (pC (.str "letter")))) (aa 0) (aR (P0 l0.length)) [Pn,-(cU l0)] [])=.ok (((P0 l0.length).filter (pB l0)).map nd):=mC nd nd (pB l0) (P0 l0.length) (by rw[Qi];ext) rfl (λk v=>by obtain⟨d,e1,w,e2,e3⟩:=EX (Rn.mp v);fail "ev") λk _ _=>af rfl;have K:((P0 l0.length).filter (pB l0)).Pairwise (·<·):=Ua _ RA;have L:∀k∈(P0 l0.length).filter (pB l0),pB l0 k=Pr:=λk v=>(Q9.mp v).2;have sl:((P0 l0.length).filter (pB l0)).length<=5:=by have:=Tb (pB l0) (P0 l0.length);rw[Qi]at this;ext
 generalize (P0 l0.length).filter (pB l0)=ps at P K L sl;have H:∃rv,fC 8 gr [.list (a.map .int),.int 16,cU l0]=.ok rv/\∃cs,Xt l0 cs/\cs.length<=4/\rv=.fz (.tuple (cs.map cV)):=by
  refine jY (T:=λrv=>∃cs,Xt l0 cs/\cs.length<=4/\rv=.fz (.tuple (cs.map cV))) (ρ:=[zf (.list (a.map .int)),zf (.int 16),zf (cU l0),Pn,Pn,Pn,Pn,Pn]) rfl ?_;unfold gr;refine bB (ρ3:=[zf (.list (a.map .int)),zf (.int 16),zf (cU l0),zo (aR ps),Pn,Pn,Pn,Pn]) (dD (cs:=[cU l0]) (ds:=aR (P0 l0.length)) (mG (ds:=[nd l0.length]) (ai (cH (rv:=.fz (nd l0.length)) (ds:=[cU l0]) (ai (af rfl) aF) rfl X) aF) rfl E) rfl P) rfl rfl ?_;refine bB (ρ3:=[zf (.list (a.map .int)),zf (.int 16),zf (cU l0),zo (aR ps),zo [],Pn,Pn,Pn]) (by fail "ev") rfl rfl ?_;refine l4 (λi ρ=>∃(cs:bb (bb Nat×Nat)) (e C u f:bg PV),Xt l0 cs/\cs.length<=i/\(e=zo (aR ps)\/e=zf (.list (aR ps)))/\ρ=[zf (.list (a.map .int)),zf (.int 16),zf (cU l0),e,zo (cs.map cV),C,u,f]) (ds:=aR (P0 4)) (ρ1:=[zf (.list (a.map .int)),zf (.int 16),zf (cU l0),zo (aR ps),zo [],Pn,Pn,Pn]) (by fail "ev") ⟨[],_,Pn,Pn,Pn,Xt.nil _,PF _,.inl rfl,rfl⟩ ?_ ?_
  .rintro i d ρ hi ⟨cs,e,C,u,f,B,F,M,rfl⟩
   obtain⟨k,v,rfl⟩:=jQ hi;obtain⟨rfl,Y⟩:=jb v;refine⟨[zf (.list (a.map .int)),zf (.int 16),zf (cU l0),e,zo (cs.map cV),zf (nd k),u,f],rfl,?_⟩;obtain⟨c,ec⟩:=mE a (16+(k:Int)) (by ext);refine bB (ρ3:=[zf (.list (a.map .int)),zf (.int 16),zf (cU l0),e,zo (cs.map cV),zf (nd k),zf (.int c),f]) (eR (rv:=.fz (.int c)) (ds:=[.list (a.map .int),.int (16+(k:Int))]) (ai (af rfl) (ai (aE (rv:=.fz (.int (16+(k:Int)))) (af rfl) (af rfl) rfl rfl (ii _ _)) aF)) rfl rfl ec) rfl rfl ?_;have g:kh (dG (gN 0) (aA (ay vK (dX bh 3 {ay de (aa 1) (ay dM (~~~31) (aa 0)),~~~13,~~~3}) (~~~0))) (aa 0) (aR ps) [Pn,-(.int c)] [])=.ok ((ps.filter λj:Nat=>decide ((0:Int)<uB (c+31*(j:Int)) 13 3)).map nd):=mC nd nd (λj:Nat=>decide ((0:Int)<uB (c+31*(j:Int)) 13 3)) ps (by ext) rfl (λj O=>by have U:dM (.int 31) (nd j)=-(.int (31*(j:Int))):=Mm ⟨by decide,by decide⟩;have dd:=gC (c+31*(j:Int)) (s:=13) (m:=3) (by decide) (by decide) (by decide);exact bG (aE (rv:=.fz (.bool (decide ((0:Int)<uB (c+31*(j:Int)) 13 3)))) (eR (rv:=.fz (.int (uB (c+31*(j:Int)) 13 3))) (ds:=[.int (c+31*(j:Int)),.int 13,.int 3]) (ai (aE (rv:=.fz (.int (c+31*(j:Int)))) (af rfl) (aE (rv:=.fz (.int (31*(j:Int)))) aG (af rfl) rfl rfl U) rfl rfl (ii _ _)) (ai aG (ai aG aF))) rfl rfl dd) aG rfl rfl (tU _ _)) rfl) λj _ _=>af rfl;have p:(ps.filter λj:Nat=>decide ((0:Int)<uB (c+31*(j:Int)) 13 3)).Pairwise (·<·):=Ua _ K;have r:∀j∈ps.filter (λj:Nat=>decide ((0:Int)<uB (c+31*(j:Int)) 13 3)),pB l0 j=Pr:=λj O=>L j (Q9.mp O).1;generalize ps.filter (λj:Nat=>decide ((0:Int)<uB (c+31*(j:Int)) 13 3))=s at g p r;have a2:eX ji {eu 1 [6] (jr (aa 3)) (gN 0) (aA (ay vK (dX bh 3 {ay de (aa 1) (ay dM (~~~31) (aa 0)),~~~13,~~~3}) (~~~0))) (aa 0)} [zf (.list (a.map .int)),zf (.int 16),zf (cU l0),e,zo (cs.map cV),zf (nd k),zf (.int c),f]=.ok (.fz (.tuple (aR s)),[zf (.list (a.map .int)),zf (.int 16),zf (cU l0),zf (.list (aR ps)),zo (cs.map cV),zf (nd k),zf (.int c),f]):=by
    rcases M with rfl|rfl
    .exact cH (rv:=.fz (.tuple (aR s))) (ds:=[.list (aR s)]) (ai (dD (cs:=[.int c]) (ds:=aR ps) (gz (d6 rfl) rfl rfl) rfl g) aF) rfl rfl
    .exact cH (rv:=.fz (.tuple (aR s))) (ds:=[.list (aR s)]) (ai (dD (cs:=[.int c]) (ds:=aR ps) (gz (af rfl) rfl rfl) rfl g) aF) rfl rfl
   refine bB (ρ3:=[zf (.list (a.map .int)),zf (.int 16),zf (cU l0),zf (.list (aR ps)),zo (cs.map cV),zf (nd k),zf (.int c),zf (.tuple (aR s))]) a2 rfl rfl ?_;have I:gm [.tuple (aR s)]=-(nd s.length):=(ig _).trans (by rw[dH]);have G:=AU s (cs.map (·.1));have A:=gC c (s:=17) (m:=3) (by decide) (by decide) (by decide);generalize uB c 17 3=r17 at A;have y:=gC c (s:=19) (m:=4) (by decide) (by decide) (by decide);have o:=lV (x:=c) (s:=19) (m:=4) (by decide);generalize uB c 19 4=r19 at y o;obtain⟨l,J,el⟩:=yV (z:= "abxy") [0,1,23,24] (by left) (by left) (by decide) o.1 (show r19<4 from o.2);refine yw (b:=decide ((1:Int)<(s.length:Int))&&(decide ((0:Int)<r17)&& !decide (s∈cs.map (·.1)))) (ρ1:=[zf (.list (a.map .int)),zf (.int 16),zf (cU l0),zf (.list (aR ps)),zo (cs.map cV),zf (nd k),zf (.int c),zf (.tuple (aR s))])
    (ny (bG (aE (rv:=.fz (.bool (decide ((1:Int)<(s.length:Int))))) (cH (rv:=.fz (nd s.length)) (ai (af rfl) aF) rfl I) aG rfl rfl (tU _ _)) rfl) λ_=>ny (bG (aE (rv:=.fz (.bool (decide ((0:Int)<r17)))) (eR (rv:=.fz (.int r17)) (ds:=[.int c,.int 17,.int 3]) (ai (af rfl) (ai aG (ai aG aF))) rfl rfl A) aG rfl rfl (tU _ _)) rfl) λ_=>bG (aE (rv:=.fz (.bool (!decide (s∈cs.map (·.1))))) (af rfl) (dD (cs:=[]) (ds:=cs.map cV) (by unfold tG;rfl) rfl (tJ cs (by ext) [] rfl)) rfl rfl G) rfl) (λq=>?_) λ_=>AF ⟨cs,_,_,_,_,B,by ext,.inr rfl,rfl⟩
   have N:=(P2 _ _▸q:_/\_);have g1:=a4 N.1;have t:=(P2 _ _▸N.2:_/\_).2;have Z:s∉cs.map (·.1):=λz=>by rw[aP z]at t;cases t
   exact k6 (pv:=.fz .none) (ρ1:=[zf (.list (a.map .int)),zf (.int 16),zf (cU l0),zf (.list (aR ps)),zo (cs.map cV++[cV (s,l)]),zf (nd k),zf (.int c),zf (.tuple (aR s))]) (kG (ds:=cs.map cV) (d:=cV (s,l)) rfl (fJ (ds:=[.tuple (aR s),.str (cW l)]) (ai (af rfl) (ai (aE (rv:=.fz (.str (cW l))) aG (eR (rv:=.fz (.int r19)) (ds:=[.int c,.int 19,.int 4]) (ai (af rfl) (ai aG (ai aG aF))) rfl rfl y) rfl rfl el) aF)) rfl (PB rfl)) rfl rfl (by rw[Pp];ext) rfl) ⟨cs++[(s,l)],_,_,_,_,B.add (by ext) p r J Z,by rw[PJ];show cs.length+1<=_;ext,.inr rfl,by rw[Qb];rfl⟩
  .rintro ρ ⟨cs,e,C,u,f,B,F,M,rfl⟩;rw[dH,Qi]at F;exact eh (pv:=.fz (.tuple (cs.map cV))) (ρ1:=[zf (.list (a.map .int)),zf (.int 16),zf (cU l0),e,zo (cs.map cV),C,u,f]) (cH (rv:=.fz (.tuple (cs.map cV))) (ds:=[.list (cs.map cV)]) (ai (d6 rfl) aF) rfl rfl) rfl ⟨cs,B,F,rfl⟩
 obtain⟨rv,h,cs,R,Q,rfl⟩:=H;exact⟨cs,R,Q,h⟩
theorem Jx(g:1<=n)(f:n<=5)(i:rs.length<=3)(b:rs[0]?=Bn l0)(h:VL n rs.length rs)(a:Xt l0 cs)(j:cs.length<=4)(e:1<=w)(d:w<=4):VB ⟨n,rs,cs,w⟩:=by
 cases rs with
 |nil=>cases b
 |cons x r=>cases P4 b;exact⟨g,f,by show 1<=r.length+1;ext,i,h,j,a.vc,a.un,e,d⟩
theorem KU(g:bb Int):∃b:Bd,VB b/\jH [.list (g.map .int),.int 5]=.ok (.fz (bD b)):=by
 obtain⟨l,e0⟩:=mE g 0 (by decide);have d1:=gC l (s:=1) (m:=5) (by decide) (by decide) (by decide);have b1:=lV (x:=l) (s:=1) (m:=5) (by decide);generalize uB l 1 5=r1 at d1 b1;have d2:=gC l (s:=2) (m:=3) (by decide) (by decide) (by decide);have b2:=lV (x:=l) (s:=2) (m:=3) (by decide);generalize uB l 2 3=r2 at d2 b2;have J:=gC l (s:=23) (m:=4) (by decide) (by decide) (by decide);have K:=lV (x:=l) (s:=23) (m:=4) (by decide);generalize uB l 23 4=r23 at J K;obtain⟨n,hn⟩:∃n:Nat,1+r1=(n:Int):=⟨(1+r1).toNat,by ext⟩;obtain⟨M,G⟩:∃n:Nat,1+r2=(n:Int):=⟨(1+r2).toNat,by ext⟩;have P:gQ [.int (1+r1)]=Bn (aR (P0 n)):=by rw[hn];exact nF (by ext)
 have R:gQ [.int (1+r2)]=Bn (aR (P0 M)):=by rw[G];exact nF (by ext)
 have F:∃rv,fC 8 jL [.list (g.map .int),.int 5]=.ok rv/\∃b:Bd,VB b/\rv=.fz (bD b):=by
  refine jY (T:=λrv=>∃b:Bd,VB b/\rv=.fz (bD b)) (ρ:=[zf (.list (g.map .int)),zf (.int 5),Pn,Pn,Pn,Pn,Pn,Pn]) rfl ?_;unfold jL;refine bB (ρ3:=[zf (.list (g.map .int)),zf (.int 5),zf (.int l),Pn,Pn,Pn,Pn,Pn]) (by fail "ev") rfl rfl ?_;refine bB (ρ3:=[zf (.list (g.map .int)),zf (.int 5),zf (.int l),zf (.int (1+r1)),Pn,Pn,Pn,Pn]) (by fail "ev") rfl rfl ?_;refine bB (ρ3:=[zf (.list (g.map .int)),zf (.int 5),zf (.int l),zf (.int (1+r1)),zf (.int (1+r2)),Pn,Pn,Pn]) (by fail "ev") rfl rfl ?_;refine bB (ρ3:=[zf (.list (g.map .int)),zf (.int 5),zf (.int l),zf (.int (1+r1)),zf (.int (1+r2)),zo [],Pn,Pn]) (by fail "ev") rfl rfl ?_;refine l4 (λi ρ=>∃(e:bb (bb Mn)) (y w:bg PV),e.length=i/\VL (1+r1) (1+r2) e/\ρ=[zf (.list (g.map .int)),zf (.int 5),zf (.int l),zf (.int (1+r1)),zf (.int (1+r2)),zo (e.map cU),y,w]) (ds:=aR (P0 M)) (ρ1:=[zf (.list (g.map .int)),zf (.int 5),zf (.int l),zf (.int (1+r1)),zf (.int (1+r2)),zo [],Pn,Pn]) (by fail "ev") ⟨[],Pn,Pn,rfl,(λj r h=>by cases h),rfl⟩ ?_ ?_
  .rintro i d ρ hi ⟨e,y,w,A,z,rfl⟩
   obtain⟨L,hL,rfl⟩:=jQ hi;obtain⟨rfl,hin⟩:=jb hL;refine⟨[zf (.list (g.map .int)),zf (.int 5),zf (.int l),zf (.int (1+r1)),zf (.int (1+r2)),zo (e.map cU),zf (nd L),w],rfl,?_⟩;have U:dM (.int (1+r1)) (nd L)=-(.int ((1+r1)*L)):=Mm ⟨by ext,by ext⟩;obtain⟨xs,c1,c2,c3⟩:=yq (gt:=gN 0) (ft:=fT) (fe:=dX bH 2 {aa 1,ay de (ay de (~~~1) (ay dM (aa 2) (aa 3))) (aa 0)}) (ds:=aR (P0 n)) (ρ:=[Pn,-(.list (g.map .int)),-(.int (1+r1)),-(nd L)]) (λρ=>∃o,ρ=[o,-(.list (g.map .int)),-(.int (1+r1)),-(nd L)]) (λ_ x=>∃a:Int,x=.int a/\True) ⟨Pn,rfl⟩ (by rw[dH,Qi];ext) (by rintro j d v ρ ⟨o,rfl⟩;obtain⟨k,hk,rfl⟩:=jQ v;obtain⟨c,I⟩:=mE g (1+(1+r1)*L+k) (by have:=Int.mul_nonneg (show 0<=1+r1 by ext) (show(0:Int)<=L by ext);ext);refine⟨.int c,_,C0 (ρ1:=[-(nd k),-(.list (g.map .int)),-(.int (1+r1)),-(nd L)]) rfl rfl (eR (rv:=.fz (.int c)) (ds:=[.list (g.map .int),.int (1+(1+r1)*L+k)]) (ai (af rfl) (ai (aE (rv:=.fz (.int (1+(1+r1)*L+k))) (aE (rv:=.fz (.int (1+(1+r1)*L))) aG (aE (rv:=.fz (.int ((1+r1)*L))) (af rfl) (af rfl) rfl rfl U) rfl rfl (ii _ _)) (af rfl) rfl rfl (ii _ _)) aF)) rfl rfl I) rfl rfl,⟨_,rfl⟩,c,rfl,trivial⟩);obtain⟨cs,rfl,_⟩:=uK (f:=Pw.int) (Q:=λ_ (_:Int)=>True) xs 0 c3;rw[dH,Qi,Pp]at c2;refine bB (pv:=.ow (cs.map .int)) (ρ3:=[zf (.list (g.map .int)),zf (.int 5),zf (.int l),zf (.int (1+r1)),zf (.int (1+r2)),zo (e.map cU),zf (nd L),zo (cs.map .int)]) (dD (cs:=[.list (g.map .int),.int (1+r1),nd L]) (ds:=aR (P0 n)) (by fail "ev") rfl c1) rfl rfl ?_;obtain⟨N,c4,c5,c6⟩:=yq (gt:=gN 0) (ft:=fT) (fe:=dX eD 3 {aa 0,aa 1,aa 2}) (ds:=cs.map .int) (ρ:=[Pn,-(nd L),-(.int (1+r2))]) (λρ=>∃o,ρ=[o,-(nd L),-(.int (1+r2))]) (λ_ x=>∃a:Mn,x=mD a/\VM L (1+r2) a) ⟨Pn,rfl⟩ (by rw[Pp];ext) (by
    rintro j d v ρ ⟨o,rfl⟩;obtain⟨c,rfl⟩:∃c:Int,d=.int c:=by
     rw[PU]at v;cases q:cs[j]? with
     |none=>rw[q]at v;cases v
     |some x=>rw[q]at v;exact⟨x,(P4 v).symm⟩
    obtain⟨m,C,em⟩:=Iv c L (1+r2) (by ext);exact⟨mD m,_,C0 (ρ1:=[-(.int c),-(nd L),-(.int (1+r2))]) rfl rfl (eR (rv:=.fz (mD m)) (ds:=[.int c,nd L,.int (1+r2)]) (ai (af rfl) (ai (af rfl) (ai (af rfl) aF))) rfl rfl em) rfl rfl,⟨_,rfl⟩,m,rfl,C⟩)
   obtain⟨p,rfl,S⟩:=uK (f:=mD) (Q:=λ_ a=>VM L (1+r2) a) N 0 c6;rw[Pp,Pp]at c5;have E:ji [.list (p.map mD)]=-(cU p):=rfl;have Zw:(e.map cU).length<1000000:=by rw[Pp];ext
   refine k6 (pv:=.fz .none) (ρ1:=[zf (.list (g.map .int)),zf (.int 5),zf (.int l),zf (.int (1+r1)),zf (.int (1+r2)),zo (e.map cU++[cU p]),zf (nd L),zf (.list (cs.map .int))]) (kG (pa:=.fz (cU p)) (d:=cU p) rfl (cH (rv:=.fz (cU p)) (ds:=[.list (p.map mD)]) (ai (dD (cs:=[nd L,.int (1+r2)]) (ds:=cs.map .int) (gz (d6 rfl) rfl rfl) rfl c4) aF) rfl E) rfl rfl Zw rfl) ⟨e++[p],_,_,by rw[PJ,A];rfl,AE z (by ext) (λm hm=>?_),by rw[Qb];rfl⟩;obtain⟨t,Y⟩:=Rf.mp hm;rw[A];exact S t m Y
  .rintro ρ ⟨e,y,w,A,z,rfl⟩;rw[dH,Qi]at A;obtain⟨u,H⟩:∃u,e[0]?=Bn u:=⟨_,PM (show 0<e.length by ext)⟩;have Z:=(z 0 u H).1;obtain⟨cs,C,O,I⟩:=B9 g u (by ext);have X:bc (.list (e.map cU)) (.int 0)=-(cU u):=Nr (by decide) (by show(e.map cU)[0]?=_;rw[PU,H];rfl);have E:ji [.list (e.map cU)]=-(.tuple (e.map cU)):=rfl;refine eh (pv:=.fz (bD ⟨1+r1,e,cs,1+r23⟩)) (ρ1:=[zf (.list (g.map .int)),zf (.int 5),zf (.int l),zf (.int (1+r1)),zf (.int (1+r2)),zo (e.map cU),y,w]) (fJ (ds:=[.int (1+r1),.tuple (e.map cU),.tuple (cs.map cV),.int (1+r23)]) (ai (af rfl) (ai (cH (rv:=.fz (.tuple (e.map cU))) (ds:=[.list (e.map cU)]) (ai (d6 rfl) aF) rfl E) (ai (eR (rv:=.fz (.tuple (cs.map cV))) (ds:=[.list (g.map .int),.int 16,cU u]) (ai (af rfl) (ai aG (ai (aE (rv:=.fz (cU u)) (dx:=.list (e.map cU)) (d6 rfl) aG rfl rfl X) aF))) rfl rfl I) (ai (aE (rv:=.fz (.int (1+r23))) aG (by fail "ev") rfl rfl (ii _ _)) aF)))) rfl (PB rfl)) rfl ⟨_,Jx (by ext) (by ext) (by ext) H (by rw[show((e.length:Nat):Int)=1+r2 by ext];exact z) C O (by ext) (by ext),rfl⟩
 obtain⟨rv,h,b,B,rfl⟩:=F;exact⟨b,B,h⟩
theorem No(i:Int)(k:Nat):DT (.int i) (nd k)=-(.int (i/2^k)):=by show(if Om i (k:Int)=Pr then Bn (RV.fz (.int (i/2^((k:Nat):Int).toNat)))else Pn)=_;rw[av (by unfold Om;exact aP (by ext)),Q8]
def Ct(x:Int)(k:Nat):Bool:=decide (Qe.bitAnd (x/2^k) 1=1)
abbrev RE(x n f w:Int)(b e d i a g h:bg PV):aO:=[zf (.int x),zf (.int 5),zf (.int 3),zf (.int 4),zf (.int n),zf (.int f),zf (.int w),b,e,d,i,a,g,h]
theorem IH(x:Int):∃b:Bd,VB b/\fx [.int x,.int 5,.int 3,.int 4]=.ok (.fz (bD b)):=by
 have m1:d8 (.int x) (.int 5)=-(.int (x % 5)):=fE (by decide);have m2:eW (.int x) (.int 5)=-(.int (x/5)):=fU ⟨by decide,by decide⟩;have m3:d8 (.int (x/5)) (.int 3)=-(.int (x/5 % 3)):=fE (by decide);have m4:eW (.int (x/5)) (.int 3)=-(.int (x/5/3)):=fU ⟨by decide,by decide⟩;have bn:1<=1+x % 5/\1+x % 5<=5:=by ext
 have bl:1<=1+x/5 % 3/\1+x/5 % 3<=3:=by ext
 have Q:∃rv,fC 14 fy [.int x,.int 5,.int 3,.int 4]=.ok rv/\∃b:Bd,VB b/\rv=.fz (bD b):=by
  refine jY (T:=λrv=>∃b:Bd,VB b/\rv=.fz (bD b)) (ρ:=[zf (.int x),zf (.int 5),zf (.int 3),zf (.int 4),Pn,Pn,Pn,Pn,Pn,Pn,Pn,Pn,Pn,Pn]) rfl ?_;unfold fy;refine bB (ρ3:=[zf (.int x),zf (.int 5),zf (.int 3),zf (.int 4),zf (.int (1+x % 5)),Pn,Pn,Pn,Pn,Pn,Pn,Pn,Pn,Pn]) (by fail "ev") rfl rfl ?_;refine bB (ρ3:=[zf (.int x),zf (.int 5),zf (.int 3),zf (.int 4),zf (.int (1+x % 5)),zf (.int (1+x/5 % 3)),Pn,Pn,Pn,Pn,Pn,Pn,Pn,Pn]) (by fail "ev") rfl rfl ?_;generalize 1+x % 5=n at bn;generalize 1+x/5 % 3=nl at bl;refine bB (ρ3:=[zf (.int (x/5/3)),zf (.int 5),zf (.int 3),zf (.int 4),zf (.int n),zf (.int nl),Pn,Pn,Pn,Pn,Pn,Pn,Pn,Pn]) (by fail "ev") rfl rfl ?_;generalize x/5/3=y;have m5:d8 (.int y) (.int 4)=-(.int (y % 4)):=fE (by decide);have m6:eW (.int y) (.int 4)=-(.int (y/4)):=fU ⟨by decide,by decide⟩;have bw:1<=1+y % 4/\1+y % 4<=4:=by ext
  refine bB (ρ3:=RE y n nl (1+y % 4) Pn Pn Pn Pn Pn Pn Pn) (by fail "ev") rfl rfl ?_;generalize 1+y % 4=w at bw;refine bB (ρ3:=RE (y/4) n nl w Pn Pn Pn Pn Pn Pn Pn) (by fail "ev") rfl rfl ?_;generalize y/4=z;refine bB (ρ3:=RE z n nl w (zo []) Pn Pn Pn Pn Pn Pn) (by fail "ev") rfl rfl ?_;have F:gQ [.int n]=Bn (aR (P0 n.toNat)):=wg (by ext) (by ext);have rgl:gQ [.int nl]=Bn (aR (P0 nl.toNat)):=wg (by ext) (by ext);have rg4:gQ [.int 4]=Bn (aR (P0 4)):=nF (n:=4) (by decide);refine l4 (λi ρ=>∃(z:Int) (a:bb (bb Mn)) (o g e:bg PV),a.length=i/\VL n nl a/\ρ=RE z n nl w (zo (a.map cU)) o g e Pn Pn Pn) (ds:=aR (P0 nl.toNat)) (ρ1:=RE z n nl w (zo []) Pn Pn Pn Pn Pn Pn) (by fail "ev") ⟨z,[],Pn,Pn,Pn,rfl,(λj r h=>by cases h),rfl⟩ ?_ ?_
  .rintro i d ρ hi ⟨z,a,o,g,e,K,J,rfl⟩
   obtain⟨L,hL,rfl⟩:=jQ hi;obtain⟨rfl,hin⟩:=jb hL;refine⟨RE z n nl w (zo (a.map cU)) (zf (nd L)) g e Pn Pn Pn,rfl,?_⟩;refine bB (ρ3:=RE z n nl w (zo (a.map cU)) (zf (nd L)) (zo []) e Pn Pn Pn) (by fail "ev") rfl rfl ?_;refine l4 (λi ρ=>∃(z:Int) (p:bb Mn) (e:bg PV),p.length=i/\(∀m∈p,VM L nl m)/\ρ=RE z n nl w (zo (a.map cU)) (zf (nd L)) (zo (p.map mD)) e Pn Pn Pn) (ds:=aR (P0 n.toNat)) (ρ1:=RE z n nl w (zo (a.map cU)) (zf (nd L)) (zo []) e Pn Pn Pn) (by fail "ev") ⟨z,[],e,rfl,(λm h=>by cases h),rfl⟩ ?_ ?_
   .rintro j d ρ U ⟨z,p,e,hm,R,rfl⟩
    obtain⟨k,G,rfl⟩:=jQ U;obtain⟨rfl,hjn⟩:=jb G;refine⟨RE z n nl w (zo (a.map cU)) (zf (nd L)) (zo (p.map mD)) (zf (nd k)) Pn Pn Pn,rfl,?_⟩;have Y:d8 (.int z) (.int 364)=-(.int (z % 364)):=fE (by decide);have e2:eW (.int z) (.int 364)=-(.int (z/364)):=fU ⟨by decide,by decide⟩;obtain⟨m,vm,em⟩:=EL (z % 364) L nl bl.1 bl.2;have Zw:(p.map mD).length<1000000:=by rw[Pp];ext
    refine vq (pv:=.fz .none) (ρ1:=RE z n nl w (zo (a.map cU)) (zf (nd L)) (zo (p.map mD++[mD m])) (zf (nd k)) Pn Pn Pn) (kG (pa:=.fz (mD m)) (d:=mD m) rfl (eR (rv:=.fz (mD m)) (ds:=[.int (z % 364),nd L,.int nl]) (ai (aE (rv:=.fz (.int (z % 364))) (af rfl) aG rfl rfl Y) (ai (af rfl) (ai (af rfl) aF))) rfl rfl em) rfl rfl Zw rfl) ?_;refine .eq (rB (ρ3:=RE (z/364) n nl w (zo (a.map cU)) (zf (nd L)) (zo (p.map mD++[mD m])) (zf (nd k)) Pn Pn Pn) (by fail "ev") rfl rfl) ⟨⟨z/364,p++[m],_,by rw[PJ,hm];rfl,λx hx=>(Qm.mp hx).elim (R x) λq=>by rw[PL.mp q];exact vm,by rw[Qb];rfl⟩⟩
   .rintro ρ ⟨z,p,e,hm,R,rfl⟩
    rw[dH,Qi]at hm;have Zw:(a.map cU).length<1000000:=by rw[Pp];ext
    have tu:ji [.list (p.map mD)]=-(cU p):=rfl;exact k6 (pv:=.fz .none) (ρ1:=RE z n nl w (zo (a.map cU++[cU p])) (zf (nd L)) (zo (p.map mD)) e Pn Pn Pn) (kG (pa:=.fz (cU p)) (d:=cU p) rfl (cH (rv:=.fz (cU p)) (ds:=[.list (p.map mD)]) (ai (d6 rfl) aF) rfl tu) rfl rfl Zw rfl) ⟨z,a++[p],_,_,_,by rw[PJ,K];rfl,AE J (by ext) (by rw[K];exact R),by rw[Qb];rfl⟩
  .rintro ρ ⟨z,a,o,g,e,K,J,rfl⟩
   rw[dH,Qi]at K;obtain⟨l0,X⟩:∃l0,a[0]?=Bn l0:=⟨_,PM (show 0<a.length by ext)⟩;have hl0:=(J 0 l0 X).1;have i0:bc (.list (a.map cU)) (.int 0)=-(cU l0):=Nr (by decide) (by show(a.map cU)[0]?=_;rw[PU,X];rfl);refine bB (ρ3:=RE z n nl w (zo (a.map cU)) o g e (zo []) Pn Pn) (by fail "ev") rfl rfl ?_;refine l4 (λi ρ=>∃(z:Int) (cs:bb (bb Nat×Nat)) (f v u:bg PV),Xt l0 cs/\cs.length<=i/\(f=zo (a.map cU)\/f=zf (.list (a.map cU)))/\ρ=RE z n nl w f o g e (zo (cs.map cV)) v u) (ds:=aR (P0 4)) (ρ1:=RE z n nl w (zo (a.map cU)) o g e (zo []) Pn Pn) (by fail "ev") ⟨z,[],_,Pn,Pn,Xt.nil _,PF _,.inl rfl,rfl⟩ ?_ ?_
   .rintro i d ρ hi ⟨z,cs,f,v,u,I,N,M,rfl⟩
    obtain⟨j,U,rfl⟩:=jQ hi;obtain⟨rfl,hil⟩:=jb U;refine⟨RE z n nl w f o g e (zo (cs.map cV)) (zf (nd j)) u,rfl,?_⟩;have A:kh (dG (gN 0) (ke (aA (ay cx (ay yn (ay DT (aa 1) (aa 0)) (~~~1)) (~~~1))) (aA (ay cx (ay bc (ay bc (ay bc (aa 2) (~~~0)) (aa 0)) (~~~0)) (pC (.str "letter"))))) (aa 0) (aR (P0 n.toNat)) [Pn,-(.int z),-(.list (a.map cU))] [])=.ok (((P0 n.toNat).filter λk=>Ct z k&&pB l0 k).map nd):=mC nd nd (λk=>Ct z k&&pB l0 k) (P0 n.toNat) (by rw[Qi];ext) rfl (λk G=>by have hk':=Rn.mp G;obtain⟨d,Y,wd,e2,e3⟩:=EX (l0:=l0) (k:=k) (by ext);have s1:=No z k;have s2:yn (.int (z/2^k)) (.int 1)=-(.int (Qe.bitAnd (z/2^k) 1)):=rfl;exact ny (bG (aE (rv:=.fz (.bool (Ct z k))) (aE (rv:=.fz (.int (Qe.bitAnd (z/2^k) 1))) (aE (rv:=.fz (.int (z/2^k))) (af rfl) (af rfl) rfl rfl s1) aG rfl rfl s2) aG rfl rfl (nu _ _)) rfl) λ_=>bG (aE (rv:=.fz (.bool (pB l0 k))) (aE (rv:=.fz (.str wd)) (aE (rv:=.fz d) (aE (rv:=.fz (cU l0)) (af rfl) aG rfl rfl i0) (af rfl) rfl rfl Y) aG rfl rfl e2) aG rfl rfl e3) rfl) λk _ _=>af rfl;have C:((P0 n.toNat).filter λk=>Ct z k&&pB l0 k).Pairwise (·<·):=Ua _ RA;have E:∀k∈(P0 n.toNat).filter (λk=>Ct z k&&pB l0 k),pB l0 k=Pr:=λk G=>(P2 _ _▸(Q9.mp G).2:_/\_).2;generalize (P0 n.toNat).filter (λk=>Ct z k&&pB l0 k)=s at A C E;have a2:eX ji {eu 1 [0,7] (lK gQ {aa 4}) (gN 0) (ke (aA (ay cx (ay yn (ay DT (aa 1) (aa 0)) (~~~1)) (~~~1))) (aA (ay cx (ay bc (ay bc (ay bc (aa 2) (~~~0)) (aa 0)) (~~~0)) (pC (.str "letter"))))) (aa 0)} (RE z n nl w f o g e (zo (cs.map cV)) (zf (nd j)) u)=.ok (.fz (.tuple (aR s)),RE z n nl w (zf (.list (a.map cU))) o g e (zo (cs.map cV)) (zf (nd j)) u):=by
     rcases M with rfl|rfl
     .exact cH (rv:=.fz (.tuple (aR s))) (ds:=[.list (aR s)]) (ai (dD (cs:=[.int z,.list (a.map cU)]) (ds:=aR (P0 n.toNat)) (mG (ds:=[.int n]) (ai (af rfl) aF) rfl F) rfl A) aF) rfl rfl
     .exact cH (rv:=.fz (.tuple (aR s))) (ds:=[.list (aR s)]) (ai (dD (cs:=[.int z,.list (a.map cU)]) (ds:=aR (P0 n.toNat)) (mG (ds:=[.int n]) (ai (af rfl) aF) rfl F) rfl A) aF) rfl rfl
    refine bB (ρ3:=RE z n nl w (zf (.list (a.map cU))) o g e (zo (cs.map cV)) (zf (nd j)) (zf (.tuple (aR s)))) a2 rfl rfl ?_;have S:gm [.tuple (aR s)]=-(nd s.length):=(ig _).trans (by rw[dH]);have P:=AU s (cs.map (·.1));have f1:eW (.int z) (.int 32)=-(.int (z/32)):=fU ⟨by decide,by decide⟩;have f2:d8 (.int (z/32)) (.int 26)=-(.int (z/32 % 26)):=fE (by decide);have f3:eW (.int z) (.int 832)=-(.int (z/832)):=fU ⟨by decide,by decide⟩;obtain⟨l,Z,el⟩:=D9 (r:=z/32 % 26) (by ext) (by ext);have H:∀(t:bb (bb Nat×Nat)),Xt l0 t->t.length<=j+1->Go (cQ (ay eW (aa 0) (~~~832)) (gN 0) (RE z n nl w (zf (.list (a.map cU))) o g e (zo (t.map cV)) (zf (nd j)) (zf (.tuple (aR s))))) (λρ=>∃(z:Int) (cs:bb (bb Nat×Nat)) (f v u:bg PV),Xt l0 cs/\cs.length<=j+1/\(f=zo (a.map cU)\/f=zf (.list (a.map cU)))/\ρ=RE z n nl w f o g e (zo (cs.map cV)) v u) (λρ=>∃(z:Int) (cs:bb (bb Nat×Nat)) (f v u:bg PV),Xt l0 cs/\cs.length<=j+1/\(f=zo (a.map cU)\/f=zf (.list (a.map cU)))/\ρ=RE z n nl w f o g e (zo (cs.map cV)) v u) (λrv=>∃b:Bd,VB b/\rv=.fz (bD b)):=λt h1 h2=>
     .eq (rB (ρ3:=RE (z/832) n nl w (zf (.list (a.map cU))) o g e (zo (t.map cV)) (zf (nd j)) (zf (.tuple (aR s)))) (by fail "ev") rfl rfl) ⟨⟨z/832,t,_,_,_,h1,h2,.inr rfl,rfl⟩⟩
    refine gK (b:=decide ((1:Int)<(s.length:Int))&& !decide (s∈cs.map (·.1))) (ρ1:=RE z n nl w (zf (.list (a.map cU))) o g e (zo (cs.map cV)) (zf (nd j)) (zf (.tuple (aR s))))
     (ny (bG (aE (rv:=.fz (.bool (decide ((1:Int)<(s.length:Int))))) (cH (rv:=.fz (nd s.length)) (ai (af rfl) aF) rfl S) aG rfl rfl (tU _ _)) rfl) λ_=>bG (aE (rv:=.fz (.bool (!decide (s∈cs.map (·.1))))) (af rfl) (dD (cs:=[]) (ds:=cs.map cV) (by unfold tG;rfl) rfl (tJ cs (by ext) [] rfl)) rfl rfl P) rfl) (λq=>?_) λ_=>cS (H cs I (by ext))
    have O:=(P2 _ _▸q:_/\_);have g1:=a4 O.1;have g2:s∉cs.map (·.1):=λz=>by rw[aP z]at O;cases O.2
    exact vq (pv:=.fz .none) (ρ1:=RE z n nl w (zf (.list (a.map cU))) o g e (zo ((cs++[(s,l)]).map cV)) (zf (nd j)) (zf (.tuple (aR s)))) (kG (ds:=cs.map cV) (d:=cV (s,l)) rfl (fJ (ds:=[.tuple (aR s),.str (cW l)]) (ai (af rfl) (ai (aE (rv:=.fz (.str (cW l))) aG (aE (rv:=.fz (.int (z/32 % 26))) (aE (rv:=.fz (.int (z/32))) (af rfl) aG rfl rfl f1) aG rfl rfl f2) rfl rfl el) aF)) rfl (PB rfl)) rfl rfl (by rw[Pp];ext) (by rw[Qb];rfl)) (H _ (I.add (by ext) C E Z g2) (by rw[PJ];show cs.length+1<=_;ext))
   .rintro ρ ⟨z,cs,f,v,u,I,N,M,rfl⟩
    rw[dH,Qi]at N;have vb:VB ⟨n,a,cs,w⟩:=Jx (by ext) (by ext) (by ext) X (by rw[show((a.length:Nat):Int)=nl by ext];exact J) I N (by ext) (by ext);have tr:∀f,(f=zo (a.map cU)\/f=zf (.list (a.map cU)))->bQ {aa 4,eX ji {aa 7},eX ji {aa 11},aa 6} (RE z n nl w f o g e (zo (cs.map cV)) v u)=.ok (.fz (.tuple [.int n,.tuple (a.map cU),.tuple (cs.map cV),.int w]),RE z n nl w f o g e (zo (cs.map cV)) v u):=by
     rintro f (rfl|rfl)
     .exact fJ (ai (af rfl) (ai (cH (rv:=.fz (.tuple (a.map cU))) (ds:=[.list (a.map cU)]) (ai (d6 rfl) aF) rfl rfl) (ai (cH (rv:=.fz (.tuple (cs.map cV))) (ds:=[.list (cs.map cV)]) (ai (d6 rfl) aF) rfl rfl) (ai (af rfl) aF)))) rfl (PB rfl)
     .exact fJ (ai (af rfl) (ai (cH (rv:=.fz (.tuple (a.map cU))) (ds:=[.list (a.map cU)]) (ai (af rfl) aF) rfl rfl) (ai (cH (rv:=.fz (.tuple (cs.map cV))) (ds:=[.list (cs.map cV)]) (ai (d6 rfl) aF) rfl rfl) (ai (af rfl) aF)))) rfl (PB rfl)
    exact eh (pv:=.fz (bD ⟨n,a,cs,w⟩)) (ρ1:=RE z n nl w f o g e (zo (cs.map cV)) v u) (tr f M) rfl ⟨_,vb,rfl⟩
 obtain⟨rv,h,b,B,rfl⟩:=Q;exact⟨b,B,h⟩
theorem Nz{n r:Int}(hn:1<=n/\n<=5)(a:0<=r/\r<2*n+1):r/n=0\/r/n=1\/r/n=2:=by
 have:n=1\/n=2\/n=3\/n=4\/n=5:=by ext
 rcases this with rfl|rfl|rfl|rfl|rfl<;>ext
abbrev VE(d:bb Int)(n:Int)(e:bb Sq)(b a:bg PV):aO:=[zf (.list (d.map .int)),zf (.int 20),zf (.int n),zo (e.map cy),b,a]
theorem CP{b:Bd}(B:VB b)(a:bb Int)(U:a.length<=63):∃es:bb Sq,es.length<=63/\(∀e∈es,EV b e)/\ff [.list (a.map .int),.int 20,.int b.n]=.ok (.ow (es.map cy)):=by
 have P:=B.n1;have O:=B.n5;obtain⟨l,E,v⟩:=Dj a (Bn 20) (Bn 63);have o:∃rv,fC 6 gx [.list (a.map .int),.int 20,.int b.n]=.ok rv/\∃es:bb Sq,es.length<=63/\(∀e∈es,EV b e)/\rv=.ow (es.map cy):=by
  refine jY (T:=λrv=>∃es:bb Sq,es.length<=63/\(∀e∈es,EV b e)/\rv=.ow (es.map cy)) (ρ:=[zf (.list (a.map .int)),zf (.int 20),zf (.int b.n),Pn,Pn,Pn]) rfl ?_;unfold gx;refine bB (ρ3:=VE a b.n [] Pn Pn) (by fail "ev") rfl rfl ?_;refine l4 (λi ρ=>∃(es:bb Sq) (j f:bg PV),es.length=i/\(∀e∈es,EV b e)/\ρ=VE a b.n es j f) (ds:=l.map .int) (ρ1:=VE a b.n [] Pn Pn) (gz (pa:=.ow (l.map .int)) (JR (rv:=.ow (l.map .int)) (af rfl) (xc (af rfl) rfl) (by fail "ev") rfl v) rfl rfl) ⟨[],Pn,Pn,rfl,(λe h=>by cases h),rfl⟩ ?_ ?_
  .rintro i d ρ hi ⟨es,j,f,p,t,rfl⟩
   have F:i<l.length:=by have:=(Pu.mp hi).1;rwa [Pp]at this
   obtain⟨x,rfl⟩:∃x:Int,d=.int x:=by
    rw[PU]at hi;cases q:l[i]? with
    |none=>rw[q]at hi;cases hi
    |some x=>rw[q]at hi;exact⟨x,(P4 hi).symm⟩
   refine⟨VE a b.n es (zf (.int x)) f,rfl,?_⟩;have A:dM (.int 5) (.int b.n)=-(.int (5*b.n)):=Mm ⟨by decide,by decide⟩;have R:dM (.int 2) (.int b.n)=-(.int (2*b.n)):=Mm ⟨by decide,by decide⟩;have Q:dM (.int 4) (.int b.n)=-(.int (4*b.n)):=Mm ⟨by decide,by decide⟩;have dd:=gC x (s:=29) (m:=5*b.n+3) (by decide) (by decide) (by ext);have K:=lV (x:=x) (s:=29) (m:=5*b.n+3) (by ext);generalize uB x 29 (5*b.n+3)=r at dd K;have S:eW (.int r) (.int 2)=-(.int (r/2)):=fU ⟨by ext,by ext⟩;have L:(es.map cy).length<1000000:=by rw[Pp];ext
   refine bB (ρ3:=VE a b.n es (zf (.int x)) (zf (.int r))) (eR (rv:=.fz (.int r)) (ds:=[.int x,.int 29,.int (5*b.n+3)]) (ai (af rfl) (ai aG (ai (aE (rv:=.fz (.int (5*b.n+3))) (aE (rv:=.fz (.int (5*b.n))) aG (af rfl) rfl rfl A) aG rfl rfl (ii _ _)) aF))) rfl rfl dd) rfl rfl ?_;have g:∀(e:Sq) (d:D) (u:FE),EV b e->d=cy e->u (VE a b.n es (zf (.int x)) (zf (.int r)))=.ok (.fz d,VE a b.n es (zf (.int x)) (zf (.int r)))->Go (gJ (mh 3 u) (VE a b.n es (zf (.int x)) (zf (.int r)))) (λρ=>∃(es:bb Sq) (j f:bg PV),es.length=i+1/\(∀e∈es,EV b e)/\ρ=VE a b.n es j f) (λρ=>∃(es:bb Sq) (j f:bg PV),es.length=i+1/\(∀e∈es,EV b e)/\ρ=VE a b.n es j f) (λrv=>∃es:bb Sq,es.length<=63/\(∀e∈es,EV b e)/\rv=.ow (es.map cy)):=λe d u M H G=>by subst H;exact k6 (pv:=.fz .none) (ρ1:=VE a b.n (es++[e]) (zf (.int x)) (zf (.int r))) (kG (pa:=.fz (cy e)) (d:=cy e) (ds:=es.map cy) rfl G rfl rfl L (by show[_,_,_,zo (es.map cy++[cy e]),_,_]=_;rw[show es.map cy++[cy e]=(es++[e]).map cy by rw[Qb];rfl])) ⟨es++[e],_,_,by rw[PJ,p];rfl,λx C=>(Qm.mp C).elim (t x) λz=>by rw[PL.mp z];exact M,rfl⟩
   refine yw (b:=decide (r<2*b.n)) (ρ1:=VE a b.n es (zf (.int x)) (zf (.int r))) (by fail "ev") (λq=>?_) λy=>yw (b:=decide (r<4*b.n)) (ρ1:=VE a b.n es (zf (.int x)) (zf (.int r))) (by fail "ev") (λq=>?_) λw=>yw (b:=decide (r<5*b.n)) (ρ1:=VE a b.n es (zf (.int x)) (zf (.int r))) (by fail "ev") (λq=>?_) λN=>?_
   .have q:=a4 q;exact g (.down (r/2).toNat) (.tuple [.str "down",.int (r/2)]) _ (by show(((r/2).toNat:Nat):Int)<b.n;ext) (by show _=Pw.tuple [.str "down",.int (((r/2).toNat:Nat):Int)];rw[SF (by ext)]) (by fail "ev")
   .have q:=a4 q;have y:=of_decide_eq_false y;exact g (.up (r/2 - b.n).toNat) (.tuple [.str "up",.int (r/2 - b.n)]) _ (by show(((r/2 - b.n).toNat:Nat):Int)<b.n;ext) (by show _=Pw.tuple [.str "up",.int (((r/2 - b.n).toNat:Nat):Int)];rw[SF (by ext)]) (by fail "ev")
   .have q:=a4 q;have w:=of_decide_eq_false w;exact g (.down (r - 4*b.n).toNat) (.tuple [.str "down",.int (r - 4*b.n)]) _ (by show(((r - 4*b.n).toNat:Nat):Int)<b.n;ext) (by show _=Pw.tuple [.str "down",.int (((r - 4*b.n).toNat:Nat):Int)];rw[SF (by ext)]) (by fail "ev")
   .exact g .turn (.tuple [.str "turn",.int 0]) _ trivial rfl (by fail "ev")
  .rintro ρ ⟨es,j,f,p,t,rfl⟩;rw[Pp]at p;exact eh (pv:=.pl 3) (ρ1:=VE a b.n es j f) (d6 rfl) rfl ⟨es,by ext,t,rfl⟩
 obtain⟨rv,h,es,J,I,rfl⟩:=o;exact⟨es,J,I,h⟩
abbrev WE(y n:Int)(d:bb Sq)(m:Int)(b a:bg PV):aO:=[zf (.int y),zf (.int n),zo (d.map cy),zf (.int m),b,a]
theorem zp{b:Bd}(B:VB b)(x:Int):∃es:bb Sq,es.length<=63/\(∀e∈es,EV b e)/\cP [.int x,.int b.n]=.ok (.ow (es.map cy)):=by
 have F:=B.n1;have E:=B.n5;have g:d8 (.int x) (.int 41)=-(.int (x % 41)):=fE (by decide);have R:eW (.int x) (.int 41)=-(.int (x/41)):=fU ⟨by decide,by decide⟩;have O:0<=x % 41/\x % 41<41:=by ext
 have l:∃rv,fC 6 dI [.int x,.int b.n]=.ok rv/\∃es:bb Sq,es.length<=63/\(∀e∈es,EV b e)/\rv=.ow (es.map cy):=by
  refine jY (T:=λrv=>∃es:bb Sq,es.length<=63/\(∀e∈es,EV b e)/\rv=.ow (es.map cy)) (ρ:=[zf (.int x),zf (.int b.n),Pn,Pn,Pn,Pn]) rfl ?_;unfold dI;refine bB (ρ3:=[zf (.int x),zf (.int b.n),zo [],Pn,Pn,Pn]) (by fail "ev") rfl rfl ?_;refine bB (ρ3:=WE x b.n [] (x % 41) Pn Pn) (by fail "ev") rfl rfl ?_;generalize x % 41=m at O;refine bB (ρ3:=WE (x/41) b.n [] m Pn Pn) (by fail "ev") rfl rfl ?_;generalize x/41=y;have Q:gQ [.int m]=Bn (aR (P0 m.toNat)):=wg (by ext) (by ext);refine l4 (λi ρ=>∃(y:Int) (es:bb Sq) (f a:bg PV),es.length=i/\(∀e∈es,EV b e)/\ρ=WE y b.n es m f a) (ds:=aR (P0 m.toNat)) (ρ1:=WE y b.n [] m Pn Pn) (by fail "ev") ⟨y,[],Pn,Pn,rfl,(λe h=>by cases h),rfl⟩ ?_ ?_
  .rintro i d ρ hi ⟨y,es,f,a,o,t,rfl⟩
   obtain⟨j,J,rfl⟩:=jQ hi;obtain⟨rfl,K⟩:=jb J;refine⟨WE y b.n es m (zf (nd j)) a,rfl,?_⟩;have u:dM (.int 2) (.int b.n)=-(.int (2*b.n)):=Mm ⟨by decide,by decide⟩;have w:d8 (.int y) (.int (2*b.n+1))=-(.int (y % (2*b.n+1))):=fE (by ext);have v:eW (.int y) (.int (2*b.n+1))=-(.int (y/(2*b.n+1))):=fU ⟨by ext,by ext⟩;have A:0<=y % (2*b.n+1)/\y % (2*b.n+1)<2*b.n+1:=⟨Tx _ (by ext),SQ _ (by ext)⟩;generalize y % (2*b.n+1)=r at w A;generalize y/(2*b.n+1)=y2 at v;have P:(es.map cy).length<1000000:=by rw[Pp];ext
   refine bB (ρ3:=WE y b.n es m (zf (nd j)) (zf (.int r))) (aE (rv:=.fz (.int r)) (af rfl) (aE (rv:=.fz (.int (2*b.n+1))) (aE (rv:=.fz (.int (2*b.n))) aG (af rfl) rfl rfl u) aG rfl rfl (ii _ _)) rfl rfl w) rfl rfl ?_;refine bB (ρ3:=WE y2 b.n es m (zf (nd j)) (zf (.int r))) (aE (rv:=.fz (.int y2)) (af rfl) (aE (rv:=.fz (.int (2*b.n+1))) (aE (rv:=.fz (.int (2*b.n))) aG (af rfl) rfl rfl u) aG rfl rfl (ii _ _)) rfl rfl v) rfl rfl ?_;have G:d8 (.int r) (.int b.n)=-(.int (r % b.n)):=fE (by ext);have S:eW (.int r) (.int b.n)=-(.int (r/b.n)):=fU ⟨by ext,by ext⟩;have H:=Tx r (show b.n≠0 by ext);have g:=SQ r (show 0<b.n by ext);generalize r % b.n=k at G H g;obtain⟨k,rfl⟩:∃j:Nat,k=(j:Int):=⟨k.toNat,by ext⟩;have C:=Nz (n:=b.n) (r:=r) ⟨F,E⟩ A;obtain⟨e,p,N⟩:∃e:Sq,EV b e/\bc (.list [.tuple [.str "down",.int (k:Int)],.tuple [.str "up",.int (k:Int)],.tuple [.str "turn",.int 0]]) (.int (r/b.n))=-(cy e):=by
    rcases C with q|q|q
    .exact⟨.down k,g,by rw[q];rfl⟩
    .exact⟨.up k,g,by rw[q];rfl⟩
    .exact⟨.turn,trivial,by rw[q];rfl⟩
   exact k6 (pv:=.fz .none) (ρ1:=[zf (.int y2),zf (.int b.n),zo (es.map cy++[cy e]),zf (.int m),zf (nd j),zf (.int r)]) (kG (pa:=.fz (cy e)) (d:=cy e) rfl (aE (rv:=.fz (cy e)) (show _=Res.ok (PV.ow [.tuple [.str "down",.int (k:Int)],.tuple [.str "up",.int (k:Int)],.tuple [.str "turn",.int 0]],_) by fail "ev") (by fail "ev") rfl rfl N) rfl rfl P rfl) ⟨y2,es++[e],_,_,by rw[PJ,o];rfl,λx I=>(Qm.mp I).elim (t x) λz=>by rw[PL.mp z];exact p,by unfold WE;rw[Qb];rfl⟩
  .rintro ρ ⟨y,es,f,a,o,t,rfl⟩;rw[dH,Qi]at o;exact eh (pv:=.pl 2) (ρ1:=WE y b.n es m f a) (d6 rfl) rfl ⟨es,by ext,t,rfl⟩
 obtain⟨rv,h,es,M,L,rfl⟩:=l;exact⟨es,M,L,h⟩
theorem FH(d:bb Int)(G:d.length<=63):∃(b:Bd) (a:bb Sq),VB b/\a.length<=63/\(∀e∈a,EV b e)/\gZ [.list (d.map .int)]=.ok (.fz (.tuple [bD b,.list (a.map cy)])):=by
 obtain⟨j,I,e0⟩:=KU d;obtain⟨g,K⟩:=mE d 1 (by decide);obtain⟨f,J⟩:=mE d 2 (by decide);obtain⟨m,H,C⟩:=IH (if g<0 then -g else g);have F:zI [.int g]=-(.int (if g<0 then -g else g)):=rfl;have E:zI [.int f]=-(.int (if f<0 then -f else f)):=rfl;have l:∃rv,fC 2 gb [.list (d.map .int)]=.ok rv/\∃(b:Bd) (a:bb Sq),VB b/\a.length<=63/\(∀e∈a,EV b e)/\rv=.fz (.tuple [bD b,.list (a.map cy)]):=by
  refine jY (T:=λrv=>∃(b:Bd) (a:bb Sq),VB b/\a.length<=63/\(∀e∈a,EV b e)/\rv=.fz (.tuple [bD b,.list (a.map cy)])) (ρ:=[zf (.list (d.map .int)),Pn]) rfl ?_;have i:∀b:Bd,VB b->Go ((bp (jv (zK (aA (oO M4 HB (~~~0) (dX bH 2 {aa 0,~~~2}) (ay CN (~~~10) (~~~18))))) (c9 (bQ {aa 1,dX cP 2 {eX zI {dX bH 2 {aa 0,~~~2}},ay bc (aa 1) (~~~0)}})) dw) (c9 (bQ {aa 1,dX ff 3 {aa 0,~~~20,ay bc (aa 1) (~~~0)}}))) [zf (.list (d.map .int)),zf (bD b)]) (λ_=>∃(b:Bd) (a:bb Sq),VB b/\a.length<=63/\(∀e∈a,EV b e)/\RV.fz .none=.fz (.tuple [bD b,.list (a.map cy)])) (λ_=>False) (λrv=>∃(b:Bd) (a:bb Sq),VB b/\a.length<=63/\(∀e∈a,EV b e)/\rv=.fz (.tuple [bD b,.list (a.map cy)])):=λb B=>by
   have p:bc (bD b) (.int 0)=-(.int b.n):=iG;obtain⟨o,w,v,u⟩:=zp B (if f<0 then -f else f);obtain⟨xp,t,r,q⟩:=CP B d G;refine gK (b:= !(decide (0<=f)&&decide (f<10^18))) (ρ1:=[zf (.list (d.map .int)),zf (bD b)]) (by fail "ev") (λ_=>?_) λ_=>cS ?_
   .exact fY (pv:=.fz (.tuple [bD b,.list (o.map cy)])) (ρ1:=[zf (.list (d.map .int)),zf (bD b)]) (fJ (ai (af rfl) (ai (eR (rv:=.ow (o.map cy)) (ds:=[.int (if f<0 then -f else f),.int b.n]) (ai (cH (rv:=.fz (.int (if f<0 then -f else f))) (by fail "ev") rfl E) (ai (aE (rv:=.fz (.int b.n)) (af rfl) aG rfl rfl p) aF)) rfl rfl u) aF)) rfl (PB rfl)) rfl ⟨b,o,B,w,v,rfl⟩
   .exact eh (pv:=.fz (.tuple [bD b,.list (xp.map cy)])) (ρ1:=[zf (.list (d.map .int)),zf (bD b)]) (fJ (ai (af rfl) (ai (eR (rv:=.ow (xp.map cy)) (ds:=[.list (d.map .int),.int 20,.int b.n]) (ai (af rfl) (ai aG (ai (aE (rv:=.fz (.int b.n)) (af rfl) aG rfl rfl p) aF))) rfl rfl q) aF)) rfl (PB rfl)) rfl ⟨b,xp,B,t,r,rfl⟩
  unfold gb;refine bB (ρ3:=[zf (.list (d.map .int)),zf (bD j)]) (eR (rv:=.fz (bD j)) (ds:=[.list (d.map .int),.int 5]) (ai (af rfl) (ai aG aF)) rfl rfl e0) rfl rfl ?_;refine gK (b:= !(decide (0<=g)&&decide (g<10^18))) (ρ1:=[zf (.list (d.map .int)),zf (bD j)]) (by fail "ev") (λ_=>?_) λ_=>cS (i j I);exact bB (ρ3:=[zf (.list (d.map .int)),zf (bD m)]) (eR (rv:=.fz (bD m)) (ds:=[.int (if g<0 then -g else g),.int 5,.int 3,.int 4]) (ai (cH (rv:=.fz (.int (if g<0 then -g else g))) (by fail "ev") rfl F) (ai aG (ai aG (ai aG aF)))) rfl rfl C) rfl rfl (i m H)
 obtain⟨rv,h,b,a,A,z,y,rfl⟩:=l;exact⟨b,a,A,z,y,h⟩
def l8:bb Nat->Sn->bg (bb Nat)
 |L,[]=>Bn L
 |L,(c,Pr)::r=>if c∈L then Pn else l8 (L++[c]) r
 |L,(c,Py)::r=>if c∈L then l8 (L.erase c) r else Pn
theorem jW:∀(x y:Sn) (L:bb Nat),l8 L (x++y)=(l8 L x).bind λM=>l8 M y
 |[],y,L=>rfl
 |(c,Pr)::r,y,L=>by
  show(if c∈L then Pn else l8 (L++[c]) (r++y))=aac (if c∈L then Pn else l8 (L++[c]) r) _;split
  .rfl
  .exact jW r y _
 |(c,Py)::r,y,L=>by
  show(if c∈L then l8 (L.erase c) (r++y)else Pn)=aac (if c∈L then l8 (L.erase c) r else Pn) _;split
  .exact jW r y _
  .rfl
structure Lt(ac:Ac)(L:bb Nat):Prop where
 nd:L.Nodup
 iff:∀c,c∈L↔gh ac (.Qa c)=Pr
def Tr(a:bb Nat)(p:RQ×Sn):Prop:=∃L,l8 a p.2=Bn L/\Lt p.1.ac L
theorem DR{ac:Ac}{k c:Nat}{o:bg Mn}(d:k<5):gh (iL ac k o) (.Qa c)=Pr↔o=Bn (.Qa c)\/∃j,j<5/\j≠k/\ac j=Bn (.Qa c):=by
 rw[ju];constructor
 .rintro⟨j,b,a⟩
  by_cases e:j=k
  .subst e;rw[cZ]at a;exact .inl a
  .rw[eB e]at a;exact .inr ⟨j,b,e,a⟩
 .rintro(h|⟨j,b,e,a⟩)
  .exact⟨k,d,by rw[cZ];exact h⟩
  .exact⟨j,b,by rw[eB e];exact a⟩
theorem EB{ac:Ac}{k c:Nat}(h:ac k=Pn):gh ac (.Qa c)=Pr↔∃j,j<5/\j≠k/\ac j=Bn (.Qa c):=by rw[ju];exact⟨λ⟨j,b,a⟩=>⟨j,b,(λe=>by rw[e,h]at a;cases a),a⟩,λ⟨j,b,_,a⟩=>⟨j,b,a⟩⟩
theorem j0{i:bb Nat}{p:RQ×Sn}{k:Nat}{a:Mn}(n:k<5)(o:p.1.ac k=Pn)(h:Tr i p):Tr i (eI p k a):=by
 obtain⟨L,j,f⟩:=h;have b:∀c,gh (iL p.1.ac k (Bn a)) (.Qa c)=Pr↔a=.Qa c\/c∈L:=λc=>by rw[DR n,f.iff,EB o];exact⟨λz=>z.imp (λe=>P4 e) id,λz=>z.imp (λe=>by rw[e]) id⟩
 cases a with
 |Qa c=>
  by_cases g:c∈L
  .refine⟨L,?_,f.nd,λd=>?_⟩
   .show l8 i (p.2++if gh p.1.ac (.Qa c)=Pr then[]else[(c,Pr)])=_;rw[av ((f.iff c).mp g),Qh];exact j
   .rw[show(eI p k (.Qa c)).1.ac=iL p.1.ac k (Bn (.Qa c))from rfl,b];exact⟨.inr,λz=>z.elim (λe=>by cases e;exact g) id⟩
  .refine⟨L++[c],?_,?_,λd=>?_⟩
   .show l8 i (p.2++if gh p.1.ac (.Qa c)=Pr then[]else[(c,Pr)])=_;rw[ax (λz=>g ((f.iff c).mpr z)),jW,j];show(if c∈L then Pn else l8 (L++[c]) [])=_;rw[ax g];rfl
   .rw[QU];exact⟨f.nd,QX _ _,λx m y l e=>g (by rw[<-PL.mp l,<-e];exact m)⟩
   .rw[show(eI p k (.Qa c)).1.ac=iL p.1.ac k (Bn (.Qa c))from rfl,b,Qm,PL];exact⟨λz=>z.elim .inr λe=>.inl (by rw[e]),λz=>z.elim (λe=>.inr (by cases e;rfl)) .inl⟩
 |_=>
  refine⟨L,?_,f.nd,λd=>?_⟩
  .show l8 i (p.2++[])=_;rw[Qh];exact j
  .show d∈L↔gh (iL p.1.ac k _) _=Pr;rw[b];exact⟨.inr,λz=>z.elim (λe=>by cases e) id⟩
theorem JX{b:Bd}{l:bb Nat}{p:RQ×Sn}{k:Nat}(t:k<5)(h:Tr l p):Tr l (go p k):=by
 unfold go;cases q:p.1.ac k with
 |none=>exact h
 |some a=>
  obtain⟨L,r,i⟩:=h;have f:∀c,c∈L↔a=.Qa c\/gh (iL p.1.ac k Pn) (.Qa c)=Pr:=λc=>by
   rw[i.iff,DR t,ju];constructor
   .rintro⟨j,o,g⟩
    by_cases e:j=k
    .subst e;rw[q]at g;exact .inl (P4 g)
    .exact .inr (.inr ⟨j,o,e,g⟩)
   .rintro(e|e|⟨j,o,_,g⟩)
    .exact⟨k,t,by rw[q,e]⟩
    .cases e
    .exact⟨j,o,g⟩
  cases a with
  |Qa c=>
   by_cases m:gh (iL p.1.ac k Pn) (.Qa c)=Pr
   .refine⟨L,?_,i.nd,λd=>?_⟩
    .show l8 l (p.2++if gh (iL p.1.ac k Pn) (.Qa c)=Pr then[]else[(c,Py)])=_;rw[av m,Qh];exact r
    .rw[f];exact⟨λz=>z.elim (λe=>by cases e;exact m) id,.inr⟩
   .have cm:c∈L:=(f c).mpr (.inl rfl)
    refine⟨L.erase c,?_,i.nd.erase _,λd=>?_⟩
    .show l8 l (p.2++if gh (iL p.1.ac k Pn) (.Qa c)=Pr then[]else[(c,Py)])=_;rw[ax m,jW,r];show(if c∈L then l8 (L.erase c) []else Pn)=_;rw[av cm];rfl
    .rw[i.nd.mem_erase_iff,f]
     constructor
     .rintro⟨n,e|e⟩
      .cases e;exact a5 rfl n
      .exact e
     .exact λe=>⟨λz=>m (by rw[<-z];exact e),.inr e⟩
  |_=>
   refine⟨L,?_,i.nd,λd=>?_⟩
   .show l8 l (p.2++[])=_;rw[Qh];exact r
   .rw[f];exact⟨λz=>z.elim (λe=>by cases e) id,.inr⟩
theorem ye{d:bb Nat}:∀(a:bb (Nat×Mn)) {p:RQ×Sn},(∀q∈a,q.1<5/\p.1.ac q.1=Pn)->(a.map (·.1)).Nodup->Tr d p->Tr d (gP p a)
 |[],p,_,_,h=>h
 |q::r,p,hq,hn,h=>by show Tr d (gP (eI p q.1 q.2) r);rw[PY,Q3]at hn;have f:=hq q PH;refine ye r (λx b=>⟨(hq x (PD _ b)).1,?_⟩) hn.2 (j0 f.1 f.2 h);show iL p.1.ac q.1 (Bn q.2) x.1=Pn;rw[eB λe=>hn.1 (by rw[<-e];exact Qo.mpr ⟨x,b,rfl⟩)];exact(hq x (PD _ b)).2
def Hd(s:RQ)(k:Nat):Prop:=s.ac k≠Pn\/lZ s.wt k=Pr
theorem j5{p:RQ×Sn}{k j:Nat}{a:Mn}:Hd (eI p k a).1 j↔j=k\/Hd p.1 j:=by
 show(iL p.1.ac k (Bn a) j≠Pn\/lZ p.1.wt j=Pr)↔_;by_cases e:j=k
 .subst e;exact⟨λ_=>.inl rfl,λ_=>.inl (by rw[cZ];intro z;cases z)⟩
 .rw[eB e];exact⟨.inr,λz=>z.elim (λy=>a5 y e) id⟩
theorem wL{j:Nat}:∀(a:bb (Nat×Mn)) {p:RQ×Sn},Hd (gP p a).1 j↔j∈a.map (·.1)\/Hd p.1 j
 |[],p=>⟨.inr,λz=>z.elim (λy=>by cases y) id⟩
 |q::r,p=>by show Hd (gP (eI p q.1 q.2) r).1 j↔_;rw[wL r,j5,PY,P1];exact⟨λz=>z.elim (λy=>.inl (.inr y)) λy=>y.elim (λe=>.inl (.inl e)) .inr,λz=>z.elim (λy=>y.elim (λe=>.inr (.inl e)) .inl) λy=>.inr (.inr y)⟩
section
variable{b:Bd}{s:RQ}{p:RQ×Sn}{ks:bb Nat}{g:Int}{w:bg (Nat×Int)}{k j:Nat}{Z:bb Nat}
theorem Gj(v:WV b ac ks g w):(fG b ks w).length=ks.length:=by
 cases w with
 |none=>exact IB b (by cases ks with|nil=>exact a5 rfl v.ne|cons _ _=>exact Zc (Qu _))
 |some q=>obtain⟨c,n⟩:=q;exact(v.tp c n rfl).2.2.symm
theorem vX(v:WV b ac ks g w):(ks.zip (fG b ks w)).map (·.1)=ks:=by have:=List.map_fst_zip (l₁:=ks) (l₂:=fG b ks w) (by rw[Gj v];exact PF _);exact this
theorem mQ(e:b.n<=5)(d:WD b p.1)(h:Tr Z p):Tr Z (cD b p):=by
 unfold cD;split
 .exact h
 .rename_i ks g w q
  have v:=d ks g w q;refine ye _ (λx a=>?_) (by rw[vX v];exact v.nd) h;have hm:x.1∈ks:=by rw[<-vX v];exact Qo.mpr ⟨x,a,rfl⟩
  have:=v.kn _ hm;exact⟨by ext,v.kf _ hm⟩
theorem nG(a:WD b p.1):Hd (cD b p).1 j↔Hd p.1 j:=by
 unfold cD;split
 .exact Iff.rfl
 .rename_i ks g w q;have v:=a ks g w q;rw[wL,vX v];show(j∈ks\/p.1.ac j≠Pn\/lZ Pn j=Pr)↔(p.1.ac j≠Pn\/lZ p.1.wt j=Pr);rw[q];show(j∈ks\/p.1.ac j≠Pn\/Py=Pr)↔(p.1.ac j≠Pn\/decide (j∈ks)=Pr);rw[decide_eq_true_iff];exact⟨λz=>z.elim .inr λy=>y.elim .inl (λy=>nomatch y),λz=>z.elim (λy=>.inr (.inl y)) .inl⟩
theorem xQ(f:WD b p.1):(cD b p).1.wt=Pn/\WD b (cD b p).1:=by
 have:(cD b p).1.wt=Pn:=by
  unfold cD;split
  .rename_i q;exact q
  .have:∀(a:bb (Nat×Mn)) (p:RQ×Sn),(gP p a).1.wt=p.1.wt:=by
    intro a
    induction a with
    |nil=>intro p;rfl
    |cons q r d=>intro p;exact d _
   exact this _ _
 exact⟨this,λks g w e=>by rw[this]at e;cases e⟩
theorem Ih{m:Mn}{L:Int}(d:k<5)(e:p.1.ac k=Pn)(h:Tr Z p):Tr Z (rS b L p k m):=by
 cases m with
 |U5 c n=>exact h
 |Qa c=>
  show Tr Z (if _ then _ else _);split
  .exact h
  .exact j0 d e h
 |once n=>exact j0 (a:=.none) d e h
 |RY n=>exact j0 d e h
 |none=>exact j0 d e h
 |below=>exact j0 d e h
theorem IT{m:Mn}{L:Int}(e:p.1.wt=Pn):Hd (rS b L p k m).1 j↔j=k\/Hd p.1 j:=by
 have d:∀{c:bg (Nat×Int)},Hd {p.1 with wt:=Bn ([k],0,c)} j↔j=k\/Hd p.1 j:=λ{c}=>by show(p.1.ac j≠Pn\/decide (j∈[k])=Pr)↔(j=k\/p.1.ac j≠Pn\/lZ p.1.wt j=Pr);rw[e,decide_eq_true_iff,PL];show(p.1.ac j≠Pn\/j=k)↔(j=k\/p.1.ac j≠Pn\/Py=Pr);exact⟨λz=>z.elim (λy=>.inr (.inl y)) .inl,λz=>z.elim .inr λy=>y.elim .inl λy=>nomatch y⟩
 cases m with
 |U5 c n=>exact d
 |Qa c=>
  show Hd (Prod.fst (if _ then _ else _)) j↔_;split
  .exact d
  .exact j5
 |once n=>exact j5 (a:=.none)
 |RY n=>exact j5
 |none=>exact j5
 |below=>exact j5
theorem zL(m:b.n<=5)(l:SW b p.1)(G:(k:Int)<b.n)(d:VB b)(h:Tr Z p):Tr Z (jc b p k)/\∀j,Hd (jc b p k).1 j↔j=k\/Hd p.1 j:=by
 unfold jc;split
 .rename_i c;refine⟨h,λj=>⟨.inr,λz=>z.elim (λe=>?_) id⟩⟩;rw[UH]at c;rw[e];exact c.imp (λy z=>by rw[z]at y;cases y) id
 .rename_i c
  have ha:p.1.ac k=Pn:=by
   cases q:p.1.ac k with
   |none=>rfl
   |some a=>rw[q]at c;exact a5 rfl c
  have hn:lZ p.1.wt k=Py:=by
   cases q:lZ p.1.wt k with
   |false=>rfl
   |true=>rw[q,aaW]at c;exact a5 rfl c
  split
  .rename_i cm
   obtain⟨ks,g,o,F,v,M⟩:=wA d l G ha hn cm;unfold sS;rw[o];dsimp only;have wd:WD b {p.1 with wt:=Bn (ks++[k],g,Pn)}:=λE N K e=>by cases e;exact v
   have r:∀j,Hd {p.1 with wt:=Bn (ks++[k],g,Pn)} j↔j=k\/Hd p.1 j:=λj=>by show(p.1.ac j≠Pn\/decide (j∈ks++[k])=Pr)↔(j=k\/p.1.ac j≠Pn\/lZ p.1.wt j=Pr);rw[o,decide_eq_true_iff,Qm,PL];show _↔(j=k\/p.1.ac j≠Pn\/decide (j∈ks)=Pr);rw[decide_eq_true_iff];exact⟨λz=>z.elim (λy=>.inr (.inl y)) λy=>y.elim (λy=>.inr (.inr y)) .inl,λz=>z.elim (λy=>.inr (.inr y)) λy=>y.elim .inl λy=>.inr (.inl y)⟩
   split
   .exact⟨mQ m wd h,λj=>(nG wd).trans (r j)⟩
   .exact⟨h,r⟩
  .have wd:=l.wd d
   have t:=mQ m wd h;obtain⟨B,H⟩:=xQ wd;have A:=rD (b:=b) ha hn;have u:=λj=>nG (j:=j) wd;unfold CA;generalize cD b p=q at t B H A u;obtain⟨f,i⟩:=vh q.1 (look b (lQ q.1.ac q.1.oc) k);have C:Tr Z (et q.1 (look b (lQ q.1.ac q.1.oc) k),q.2):=by obtain⟨L,J,I⟩:=t;exact⟨L,J,by show Lt (et _ _).ac L;rw[f];exact I⟩
   refine⟨Ih (by have:=d.n5;ext) (by show(et _ _).ac k=Pn;rw[f];exact A) C,λj=>(IT (by show(et _ _).wt=Pn;rw[i];exact B)).trans ?_⟩;rw[<-u j];show j=k\/((et _ _).ac j≠Pn\/lZ (et _ _).wt j=Pr)↔_;rw[f,i];exact Iff.rfl
theorem wV(d:VB b)(e:SW b p.1)(f:lZ p.1.wt k=Pr)(h:Tr Z p):Tr Z (cj b p k)/\∀j,Hd (cj b p k).1 j↔Hd p.1 j:=by
 have i:=d.n5;unfold STP.cj;split
 .exact⟨mQ i (e.wd d) h,λj=>nG (e.wd d)⟩
 .rename_i ks g c n q
  have v:=(e.wt _ _ _ q).1;rw[q]at f;have a:k∈ks:=a4 f;have m:ks=[k]:=by
   have l:=(v.tp c n rfl).2.2
   match ks,l,a with
   |[x],_,a=>rw[PL.mp a]
  have:=v.kn k a;refine⟨j0 (by ext) (v.kf k a) h,λj=>j5.trans ?_⟩;show(j=k\/p.1.ac j≠Pn\/lZ Pn j=Pr)↔(p.1.ac j≠Pn\/lZ p.1.wt j=Pr);rw[q,m];show(j=k\/p.1.ac j≠Pn\/Py=Pr)↔(p.1.ac j≠Pn\/decide (j∈[k])=Pr);rw[decide_eq_true_iff,PL];exact⟨λz=>z.elim .inr λy=>y.elim .inl (λy=>nomatch y),λz=>z.elim (λy=>.inr (.inl y)) .inl⟩
 .exact⟨h,λj=>Iff.rfl⟩
theorem J3(d:lZ p.1.wt k=Py):Hd (go p k).1 j↔j≠k/\Hd p.1 j:=by
 unfold go;cases q:p.1.ac k with
 |none=>refine⟨λz=>⟨λe=>?_,z⟩,λz=>z.2⟩;rw[e]at z;exact z.elim (λy=>y q) (λy=>by rw[d]at y;cases y)
 |some a=>
  show(iL p.1.ac k Pn j≠Pn\/lZ p.1.wt j=Pr)↔_;by_cases e:j=k
  .subst e;rw[cZ,d];exact⟨λz=>z.elim (λy=>a5 rfl y) (λy=>nomatch y),λz=>a5 rfl z.1⟩
  .rw[eB e];exact⟨λz=>⟨e,z⟩,λz=>z.2⟩
theorem Cd(a:VB b)(d:SW b p.1)(i:(k:Int)<b.n)(h:Tr Z p):Tr Z (pO b p k)/\∀j,Hd (pO b p k).1 j↔j≠k/\Hd p.1 j:=by
 have f:=a.n5;unfold pO;split
 .rename_i c
  obtain⟨t,e⟩:=wV a d c h;have wn:(cj b p k).1.wt=Pn:=by
   unfold STP.cj;split
   .exact(xQ (d.wd a)).1
   .rfl
   .rename_i q;exact q
  exact⟨JX (b:=b) (by ext) t,λj=>(J3 (by rw[wn];rfl)).trans (and_congr_right λ_=>e j)⟩
 .rename_i c;exact⟨JX (b:=b) (by ext) h,λj=>J3 (by cases q:lZ p.1.wt k with|false=>rfl|true=>exact a5 q c)⟩
theorem B8(d:VB b)(f:SW b p.1)(h:Tr Z p):Tr Z (ja b p)/\∀j,Hd (ja b p).1 j↔Hd p.1 j:=by
 unfold ja;split
 .exact⟨h,λj=>Iff.rfl⟩
 .rename_i ks g w q
  have v:=(f.wt _ _ _ q).1;have wd:WD b {p.1 with wt:=Bn (ks,g+1,w)}:=λi m l e=>by cases e;exact⟨v.ne,v.nd,v.kn,v.kf,by have:=v.g0;ext,v.tp,v.ch⟩
  have a:∀j,Hd {p.1 with wt:=Bn (ks,g+1,w)} j↔Hd p.1 j:=λj=>by show(p.1.ac j≠Pn\/lZ (Bn (ks,g+1,w)) j=Pr)↔(p.1.ac j≠Pn\/lZ p.1.wt j=Pr);rw[q];exact Iff.rfl
  split
  .exact⟨mQ d.n5 wd h,λj=>(nG wd).trans (a j)⟩
  .exact⟨h,a⟩
def tQ:bb Nat->Sq->bb Nat
 |T,.down k=>if k∈T then T else T++[k]
 |T,.up k=>T.erase k
 |T,.turn=>T
structure Th(s:RQ)(T:bb Nat):Prop where
 nd:T.Nodup
 iff:∀k,k∈T↔Hd s k
theorem Cv(f:VB b)(i:SW b s){e:Sq}(l:EV b e){L T:bb Nat}(o:Lt s.ac L)(a:Th s T):(∃L',l8 L (bN b s e).2=Bn L'/\Lt (bN b s e).1.ac L')/\Th (bN b s e).1 (tQ T e):=by
 have h:Tr L (s,[]):=⟨L,rfl,o⟩;cases e with
 |down k=>
  obtain⟨t,d⟩:=zL (p:=(s,[])) f.n5 i l f h;refine⟨t,?_⟩;show Th (jc b (s,[]) k).1 (if k∈T then T else T++[k]);split
  .rename_i c;exact⟨a.nd,λj=>(a.iff j).trans ⟨λz=>(d j).mpr (.inr z),λz=>((d j).mp z).elim (λe=>by rw[e];exact(a.iff k).mp c) id⟩⟩
  .rename_i c
   refine⟨?_,λj=>?_⟩
   .rw[QU];exact⟨a.nd,QX _ _,λx n y m e=>c (by rw[<-PL.mp m,<-e];exact n)⟩
   .rw[d j,Qm,PL,a.iff];exact⟨λz=>z.elim .inr .inl,λz=>z.elim .inr .inl⟩
 |up k=>obtain⟨t,d⟩:=Cd (p:=(s,[])) f i l h;refine⟨t,a.nd.erase _,λj=>?_⟩;rw[show tQ T (.up k)=T.erase k from rfl,a.nd.mem_erase_iff];show _↔Hd (pO b (s,[]) k).1 j;rw[d j,a.iff]
 |turn=>obtain⟨t,d⟩:=B8 (p:=(s,[])) f i h;exact⟨t,a.nd,λj=>(a.iff j).trans (d j).symm⟩
theorem Fy(f:SW b s){L:bb Nat}(i:Th s [])(l:Lt s.ac L):s.wt=Pn/\L=[]/\∀k,s.ac k=Pn:=by
 have d:∀k,¬Hd s k:=λk z=>by have:=(i.iff k).mpr z;cases this
 have e:∀k,s.ac k=Pn:=λk=>by
  cases q:s.ac k with
  |none=>rfl
  |some a=>exact a5 (.inl (by rw[q];intro z;cases z)) (d k)
 refine⟨?_,?_,e⟩
 .cases q:s.wt with
  |none=>rfl
  |some w=>
   obtain⟨ks,g,w⟩:=w;have v:=(f.wt _ _ _ q).1;cases ks with
   |nil=>exact a5 rfl v.ne
   |cons k r=>exact a5 (.inr (by rw[q];exact aP PH)) (d k)
 .cases L with
  |nil=>rfl
  |cons c r=>obtain⟨k,_,h⟩:=ju.mp ((l.iff c).mp PH);rw[e k]at h;cases h
end
def lD(c:Nat):D:=.str (cW c)
section
variable{Z:Type}{f:Z->D}
theorem Fz[DecidableEq Z](b:∀x y,Pw.eqv (f x) (f y)=decide (x=y))(a:Z):∀l:bb Z,((l.map f).any λe=>Pw.eqv e (f a))=decide (a∈l)
 |[]=>rfl
 |m::r=>by rw[PY,Rm,Fz b a r,b,<-ZI];exact decide_eq_decide.mpr (by rw[P1];exact⟨λh=>h.imp (λz=>z.symm) id,λh=>h.imp (λz=>z.symm) id⟩)
theorem Lz[DecidableEq Z](d:∀x y,Pw.eqv (f x) (f y)=decide (x=y)){a:Z}{l:bb Z}(ha:iE (f a)=Pr)(b:Pw.canLayAll0 (l.map f)=Pr):Aq (f a) (.list (l.map f))=-(.bool (decide (a∈l)))/\mx (f a) (.list (l.map f))=-(.bool (!decide (a∈l))):=by
 constructor
 .show(if(iE (f a)&&Pw.canLayAll0 (l.map f))=Pr then _ else _)=_;rw[ha,b,RU,av rfl,Fz d]
 .show(if(iE (f a)&&Pw.canLayAll0 (l.map f))=Pr then _ else _)=_;rw[ha,b,RU,av rfl,Fz d]
theorem ET[DecidableEq Z](b:∀x y,Jn (f x) (f y)=decide (x=y)){a:Z}:∀{l:bb Z},a∈l->∃j,tf (f a) (l.map f)=Bn j/\(l.map f).eraseIdx j=(l.erase a).map f
 |m::r,h=>by
  unfold tf;rw[PY];dsimp only;rw[b];by_cases e:m=a
  .subst e;rw[aP rfl,av rfl,List.erase_cons_head];exact⟨0,rfl,rfl⟩
  .rw[a3 e,ax P7,List.erase_cons_tail (by simpa using e)];obtain⟨j,g,d⟩:=ET b ((P1.mp h).resolve_left λz=>e z.symm);refine⟨j+1,by rw[g];rfl,?_⟩;rw[List.eraseIdx_cons_succ,d,PY]
end
theorem rh(x y:Nat):Pw.eqv (nd x) (nd y)=decide (x=y):=by show decide ((x:Int)=(y:Int))=_;exact decide_eq_decide.mpr (by ext)
theorem Mj(x y:Nat):Jn (nd x) (nd y)=decide (x=y):=by show((x:Int)==(y:Int))=_;rw[SH,beq_iff_eq,decide_eq_true_iff];ext
theorem NR(x y:Nat):Pw.eqv (lD x) (lD y)=decide (x=y):=by show(cW x==cW y)=_;rw[SH,beq_iff_eq,decide_eq_true_iff];exact⟨vf,λe=>by rw[e]⟩
theorem Nh(x y:Nat):Jn (lD x) (lD y)=decide (x=y):=by show((cW x).cps.toList==(cW y).cps.toList)=_;rw[SH,beq_iff_eq,decide_eq_true_iff];exact⟨λe=>by have e:[97+x]=[97+y]:=e;injection e with e;ext,λe=>by rw[e]⟩
theorem On(h:c<26):iE (lD c)=Pr:=rL (by unfold lD Pw.canLay0;exact lU h) (Qu _)
theorem LO{L:bb Nat}(h:∀c∈L,c<26):Pw.canLayAll0 (L.map lD)=Pr:=jG λc a=>by unfold lD Pw.canLay0;exact lU (h c a)
theorem Mw{a b:Str}{c:Bool}(h:(Pw.strOk a&&Pw.strOk b&&((a==b)==c))=Pr):cx (.str a) (.str b)=-(.bool c):=by rw[P2,P2]at h;rw[NX h.1.1 h.1.2,beq_iff_eq.mp h.2]
theorem Mc:cx (.str "down") (.str "down")=-(.bool Pr):=Mw (by left)
theorem Nq:cx (.str "down") (.str "up")=-(.bool Py):=Mw (by left)
theorem Lb:cx (.str "up") (.str "down")=-(.bool Py):=Mw (by left)
theorem Kn:cx (.str "up") (.str "up")=-(.bool Pr):=Mw (by left)
theorem Oj:cx (.str "turn") (.str "down")=-(.bool Py):=Mw (by left)
theorem Ov:cx (.str "turn") (.str "up")=-(.bool Py):=Mw (by left)
def kC(T:bb Nat):Cell:=.lst ((T.map nd).map .fz)
def lC(L:bb Nat):Cell:=.lst ((L.map lD).map .fz)
theorem EY{e:Sq}{T:bb Nat}{Z:aZ}{i:Nat}(h:Z[i]?=Bn (kC T))(z:T.length<=1000):gX [.fz (cy e),.rf i] Z=.ok (.fz .none) (Z.set i (kC (tQ T e))):=by
 have t:=(Pu.mp h).1;have b:∀{x y:D} {w:Str} {c:Bool} {Z:aZ},cx x (.str w)=-(.bool c)->bT (aA (ay cx (ay bc (aa 0) (~~~0)) (pC (.str w)))) [-(.tuple [x,y]),Bn (.rf i)] Z=.ok c Z:=λ{x y w c Z} q=>bU (bG (aE (rv:=.fz (.bool c)) (aE (rv:=.fz x) (af rfl) aG rfl rfl iG) aG rfl rfl q) rfl);have g:∀{x y:D} {Z:aZ},ag (ay bc (aa 0) (~~~1)) [-(.tuple [x,y]),Bn (.rf i)] Z=.ok (.fz y) Z:=λ{x y Z}=>ah (aE (rv:=.fz y) (af rfl) aG rfl rfl lH);have same:Z.set i (kC T)=Z:=VJ λj=>by
  by_cases q:j=i
  .subst q;rw[QI t,h]
  .rw[Qv (da q)]
 have n:sh Z (.rf i)=Bn (.list (T.map nd)):=eS h;refine lg (ρ:=[-(cy e),Bn (.rf i)]) (ρ1:=[-(cy e),Bn (.rf i)]) rfl ?_;unfold jN;cases e with
 |turn=>rw[show tQ T .turn=T from rfl,same];exact dR (cO (cF (b Oj)) cK) (cO (cF (b Ov)) cK)
 |down k=>
  have m:=(Lz rh (a:=k) (l:=T) rfl (gB T)).2;have f:bM (kg mx (ag (ay bc (aa 0) (~~~1))) (az 1)) [-(.tuple [.str "down",nd k]),Bn (.rf i)] Z=.ok (!decide (k∈T)) Z:=aV (cR g (bC rfl) (iV rfl n m));by_cases q:k∈T
  .rw[aP q]at f;rw[show tQ T (.down k)=T from av q,same];exact dR (cO (cX (b Mc) f) cK) (cO (cF (b Nq)) cK)
  .rw[a3 q]at f;have v:=ou (fo:=az 1) (fe:=ag (ay bc (aa 0) (~~~1))) (ρ:=[-(.tuple [.str "down",nd k]),Bn (.rf i)]) (x:=.fz (nd k)) (bC rfl) h g h (by rw[Pp,Pp];ext);rw[show tQ T (.down k)=T++[k]from ax q,show kC (T++[k])=.lst ((T.map nd).map SV.fz++[.fz (nd k)]) by unfold kC;rw[Qb,Qb];rfl];exact dR (fO (cX (b Mc) f) (eJ v)) (cO (cF (b Nq)) cK)
 |up k=>
  have m:=(Lz rh (a:=k) (l:=T) rfl (gB T)).1;have f:bM (kg Aq (ag (ay bc (aa 0) (~~~1))) (az 1)) [-(.tuple [.str "up",nd k]),Bn (.rf i)] Z=.ok (decide (k∈T)) Z:=aV (cR g (bC rfl) (iV rfl n m));by_cases q:k∈T
  .rw[aP q]at f;obtain⟨j,r,p⟩:=ET Mj q;have o:=Gd (fo:=az 1) (fe:=ag (ay bc (aa 0) (~~~1))) (ρ:=[-(.tuple [.str "up",nd k]),Bn (.rf i)]) (bC rfl) h g h (λd u=>by obtain⟨x,_,rfl⟩:=Qo.mp u;rfl) r;rw[p]at o;exact dR (cO (cF (b Lb)) cK) (fO (cX (b Kn) f) (eJ o))
  .rw[a3 q]at f;rw[show tQ T (.up k)=T.erase k from rfl,List.erase_of_not_mem q,same];exact dR (cO (cF (b Lb)) cK) (cO (cX (b Kn) f) cK)
theorem yL:∀{sn:Sn} {L M:bb Nat},l8 L sn=Bn M->Te sn->(∀c∈L,c<26)->∀c∈M,c<26
 |[],L,M,h,_,hL=>by cases h;exact hL
 |(c,Pr)::r,L,M,h,hs,hL=>by
  have h:(if c∈L then Pn else l8 (L++[c]) r)=Bn M:=h;split at h
  .cases h
  .refine yL h (λq b=>hs q (PD _ b)) λx a=>?_
   rcases Qm.mp a with a|a
   .exact hL x a
   .rw[PL.mp a];exact hs _ PH
 |(c,Py)::r,L,M,h,hs,hL=>by
  have h:(if c∈L then l8 (L.erase c) r else Pn)=Bn M:=h;split at h
  .exact yL h (λq b=>hs q (PD _ b)) λx a=>hL x (XB a)
  .cases h
theorem yP:∀{sn:Sn} {L M:bb Nat},l8 L sn=Bn M->L.Nodup->M.Nodup
 |[],L,M,h,hn=>by cases h;exact hn
 |(c,Pr)::r,L,M,h,hn=>by
  have h:(if c∈L then Pn else l8 (L++[c]) r)=Bn M:=h;split at h
  .cases h
  .rename_i q;exact yP h (by rw[QU];exact⟨hn,QX _ _,λx b y a e=>q (by rw[<-PL.mp a,<-e];exact b)⟩)
 |(c,Py)::r,L,M,h,hn=>by
  have h:(if c∈L then l8 (L.erase c) r else Pn)=Bn M:=h;split at h
  .exact yP h (hn.erase c)
  .cases h
theorem HU{sn:Sn}{L M:bb Nat}{Z:aZ}{i:Nat}(h:Z[i]?=Bn (lC L))(N:Te sn)(U:∀c∈L,c<26)(hn:L.Nodup)(G:l8 L sn=Bn M):gG [.fz (.list (sn.map iC)),.rf i] Z=.ok (.fz (.bool Pr)) (Z.set i (lC M)):=by
 have K:=(Pu.mp h).1;have F:Out (gG [.fz (.list (sn.map iC)),.rf i] Z) (λv p=>v=.fz (.bool Pr)/\p=Z.set i (lC M)) (λ_=>False):=by
  refine zt rfl ?_;unfold kS;refine uW (zg (λj ρ p=>∃(E C:bg SV) (n:bb Nat),ρ=[-(.list (sn.map iC)),Bn (.rf i),E,C]/\p=Z.set i (lC n)/\l8 L (sn.take j)=Bn n) (na (gz (d:=.list (sn.map iC)) (af rfl) rfl rfl)) ⟨Pn,Pn,L,rfl,?_,rfl⟩ ?_ ?_)
  .refine(VJ λj=>?_)
   by_cases q:j=i
   .subst q;rw[QI K,h]
   .rw[Qv (da q)]
  .rintro j d ρ p o ⟨E,C,n,rfl,rfl,hj⟩
   rw[PU]at o;cases qe:sn[j]? with
   |none=>rw[qe]at o;cases o
   |some q=>
    rw[qe]at o;cases P4 o;obtain⟨c,u⟩:=q;have H:c<26:=N _ (Qs qe);have X:=(Pu.mp qe).1;have t:=yL hj (λq T=>N q (U2 T)) U;have len:=uT (yP hj hn) t;have A:l8 L (sn.take (j+1))=l8 n [(c,u)]:=by rw[SY,qe,jW,hj];rfl
    have g:(Z.set i (lC n))[i]?=Bn (lC n):=QI K;have I:sh (Z.set i (lC n)) (.rf i)=Bn (.list (n.map lD)):=eS g;obtain⟨Q,P⟩:=Lz NR (a:=c) (l:=n) (On H) (LO t);refine⟨[-(.list (sn.map iC)),Bn (.rf i),-(lD c),-(.str (if u=Pr then "down" else "up"))],Z.set i (lC n),rfl,?_⟩;have B:∀{w:Str} {b:Bool},cx (.str (if u=Pr then "down" else "up")) (.str w)=-(.bool b)->bT (aA (ay cx (aa 3) (pC (.str w)))) [-(.list (sn.map iC)),Bn (.rf i),-(lD c),-(.str (if u=Pr then "down" else "up"))] (Z.set i (lC n))=.ok b (Z.set i (lC n)):=λ{w b} e=>bU (bG (aE (rv:=.fz (.bool b)) (af rfl) aG rfl rfl e) rfl);have y:∀{Z:aZ} {x:SV},ag (aa 2) [-(.list (sn.map iC)),Bn (.rf i),-(lD c),Bn x] Z=.ok (.fz (lD c)) Z:=ah (af rfl);rw[A];cases u with
    |true=>
     have fz:c∉n:=λz=>by have:l8 L (sn.take (j+1))=Pn:=A.trans (av z);have w:=G;rw[<-Tc (j+1) sn,jW,this]at w;cases w
     have r:=aV (cR (f:=mx) (y (Z:=Z.set i (lC n)) (x:=.fz (.str "down"))) (bC (i:=1) rfl) (iV rfl I P));rw[a3 fz]at r;have O:=ou (fo:=az 1) (fe:=ag (aa 2)) (ρ:=[-(.list (sn.map iC)),Bn (.rf i),-(lD c),-(.str "down")]) (x:=.fz (lD c)) (bC rfl) g y g (by rw[Pp,Pp];ext);rw[aa1]at O;refine rp (fO (cX (B Mc) r) (eJ O)) ⟨_,_,n++[c],rfl,?_,ax fz⟩;unfold lC;rw[Qb,Qb];rfl
    |false=>
     have fz:c∈n:=Decidable.byContradiction λz=>by have:l8 L (sn.take (j+1))=Pn:=A.trans (ax z);have w:=G;rw[<-Tc (j+1) sn,jW,this]at w;cases w
     have r:=aV (cR (f:=Aq) (y (Z:=Z.set i (lC n)) (x:=.fz (.str "up"))) (bC (i:=1) rfl) (iV rfl I Q));rw[aP fz]at r;obtain⟨m,S,R⟩:=ET Nh fz;have J:=Gd (fo:=az 1) (fe:=ag (aa 2)) (ρ:=[-(.list (sn.map iC)),Bn (.rf i),-(lD c),-(.str "up")]) (bC rfl) g y g (λd o=>by obtain⟨x,_,rfl⟩:=Qo.mp o;rfl) S;rw[R,aa1]at J;exact rp (cO (cF (B Lb)) (fO (cX (B Kn) r) (eJ J))) ⟨_,_,n.erase c,rfl,rfl,av fz⟩
  .rintro ρ p ⟨E,C,n,rfl,rfl,hj⟩;rw[Pp,Sw,G]at hj;cases hj;exact yO (ah aG) ⟨rfl,rfl⟩
 obtain⟨v,p,e,rfl,rfl⟩:=F.all;exact e
theorem BV:∀(b a:bb Int),(a++b).Nodup->b.foldl TJ a=a++b
 |[],a,_=>by rw[Qh];rfl
 |n::r,a,h=>by
  rw[QO];have d:¬a.any (·==n)=Pr:=λz=>by obtain⟨x,f,e⟩:=RD.mp z;rw[QU]at h;exact h.2.2 x f n PH (beq_iff_eq.mp e)
  have e:TJ a n=a++[n]:=by unfold TJ;exact ax d
  rw[e,BV r (a++[n]) (by rw[QS];exact h),QS];rfl
theorem um{a:bb Int}(h:a.Nodup):oH a=a:=BV a [] h
theorem za{a:bb Int}(h:a.Pairwise (·<=·)):dr a=a:=gk (cN a) (cw a) h
theorem D6{l m:bb Int}(p:l.Perm m):dr l=dr m:=gk ((cN l).trans (p.trans (cN m).symm)) (cw l) (cw m)
theorem LU{x y:Str}(h:(x.cps.toList==y.cps.toList)=Pr):x=y:=by cases x;cases y;exact di Str.mk (abD (beq_iff_eq.mp h))
theorem vD:∀(ss a:bb Str),a.Nodup->(ss.foldl (λa x=>if a.any (λy=>y.cps.toList==x.cps.toList)=Pr then a else a++[x]) a).Nodup/\∀x,x∈ss.foldl (λa x=>if a.any (λy=>y.cps.toList==x.cps.toList)=Pr then a else a++[x]) a↔x∈a\/x∈ss
 |[],a,h=>⟨h,λx=>⟨.inl,λz=>z.elim id λw=>nomatch w⟩⟩
 |n::r,a,h=>by
  rw[QO];split
  .rename_i q
   obtain⟨y,b,e⟩:=RD.mp q;have e:=LU e;subst e;obtain⟨f,d⟩:=vD r a h;refine⟨f,λx=>(d x).trans ⟨λz=>z.imp id (PD _),λz=>?_⟩⟩;rcases z with z|z
   .exact .inl z
   .rcases P1.mp z with rfl|z
    .exact .inl b
    .exact .inr z
  .rename_i q;obtain⟨f,d⟩:=vD r (a++[n]) (by rw[QU];exact⟨h,QX _ _,λx g y b e=>q (RD.mpr ⟨x,g,by rw[e,PL.mp b];exact dn _⟩)⟩);refine⟨f,λx=>(d x).trans ?_⟩;rw[Qm,PL,P1,or_assoc]
theorem pU{α:Type}[DecidableEq α]:∀{l m:bb α},l.Nodup->m.Nodup->(∀x,x∈l↔x∈m)->l.Perm m
 |[],m,_,_,h=>by
  cases m with
  |nil=>exact .rfl
  |cons a r=>exact a5 ((h a).mpr PH) (λz=>nomatch z)
 |a::r,m,h1,h2,h=>by have g:=(h a).mp PH;obtain⟨f,d⟩:=Q3.mp h1;refine((pU d (h2.erase a) λx=>?_).cons a).trans (List.perm_cons_erase g).symm;rw[h2.mem_erase_iff];exact⟨λb=>⟨λe=>f (e▸b),(h x).mp (PD _ b)⟩,λ⟨ne,b⟩=>(P1.mp ((h x).mpr b)).resolve_left ne⟩
def Ox(p:Nat×Mn):bg Nat:=match p.2 with
 |.Qa c=>Bn c
 |_=>Pn
def wC(s:RQ):bb Nat:=(c7 s.ac).filterMap Ox
theorem BM{s:RQ}{c:Nat}:c∈wC s↔gh s.ac (.Qa c)=Pr:=by
 rw[ju];unfold wC;rw[SK];constructor
 .rintro⟨⟨k,m⟩,b,a⟩;obtain⟨e,d⟩:=eE.mp b;cases m<;>first|(cases a;done)|(cases a;exact⟨k,e,d⟩)
 .rintro⟨k,b,a⟩;exact⟨(k,.Qa c),eE.mpr ⟨b,a⟩,rfl⟩
theorem yS(s:RQ):fN [dA s]=.ok (.ow ((dZ (nR ((wC s).map cW))).map .str)):=by
 have e0:bc (dA s) (.int 0)=-(.tuple ((c7 s.ac).map pD)):=iG;have cm:kh (dG (gT 2 (xY (gN 0) (xY (gN 1) Hl))) (aA (ay cx (ay bc (aa 1) (~~~0)) (pC (.str "letter")))) (ay bc (aa 1) (~~~1)) ((c7 s.ac).map pD) [Pn,Pn] [])=.ok (((wC s).map cW).map .str):=by
  rw[p9 pD (λp=>(Ox p).map λc=>.str (cW c)) (λρ=>∃d b,ρ=[d,b]) (c7 s.ac) ⟨Pn,Pn,rfl⟩ (Qz (lz s.ac) (by decide)) ?_]
  .unfold wC;rw[Qy,TV];rfl
  .rintro⟨k,m⟩ n ρ ⟨d,b,rfl⟩
   refine⟨[-(nd k),-(mD m)],?_,_,_,rfl⟩;have g:=rZ m;have f:=jm m;have e:aA (ay cx (ay bc (aa 1) (~~~0)) (pC (.str "letter"))) [-(nd k),-(mD m)]=.ok (m.Zt,[-(nd k),-(mD m)]):=bG (aE (rv:=.fz (.bool m.Zt)) (aE (rv:=.fz (.str (wd m))) (af rfl) aG rfl rfl g) aG rfl rfl f) rfl;cases m with
   |Qa c=>exact C0 (ρ1:=[-(nd k),-(mD (.Qa c))]) rfl e (aE (rv:=.fz (.str (cW c))) (af rfl) aG rfl rfl lH) rfl rfl
   |_=>exact K4 rfl e rfl
 have h:jZ [.list (((wC s).map cW).map .str)]=Bn (.ow ((dZ (nR ((wC s).map cW))).map .str)):=by
  have i:(((wC s).map cW).map Pw.str).length<64:=by rw[Pp,Pp];have:=W6 Ox (c7 s.ac);have:=lz s.ac;unfold wC;ext
  show(if(((wC s).map cW).map Pw.str).length<64 then _ else _)=_;rw[av i];cases(wC s).map cW with
  |nil=>rfl
  |cons x r=>
   show(match nZ ((x::r).map Pw.str)with|some ss=>Bn (RV.ow ((dZ (nR ss)).map Pw.str))|none=>Pn)=_;have:∀l:bb Str,nZ (l.map .str)=Bn l:=λl=>by
    induction l with
    |nil=>rfl
    |cons a l j=>show(nZ (l.map .str)).map (a::·)=_;rw[j];rfl
   rw[this]
 refine jD (ρ:=[-(dA s)]) rfl ?_;unfold iA;exact eh (pv:=.ow ((dZ (nR ((wC s).map cW))).map .str)) (rv:=.ow ((dZ (nR ((wC s).map cW))).map .str)) (cH (rv:=.ow ((dZ (nR ((wC s).map cW))).map .str)) (ds:=[.list (((wC s).map cW).map .str)]) (ai (dD (ds:=(c7 s.ac).map pD) (cs:=[]) (gz (aE (af rfl) aG rfl rfl e0) rfl rfl) rfl cm) aF) rfl h) rfl rfl
theorem kE(ac:Ac):((c7 ac).map λp=>((p.1:Nat):Int)).Pairwise (·<·):=by
 have h:(c7 ac).Pairwise λp q=>p.1<q.1:=by
  unfold c7;refine Xg.mpr (RA.imp λ{a b} ab x hx y hy=>?_);cases q1:ac a with
  |none=>rw[q1]at hx;cases hx
  |some m=>
   cases q2:ac b with
   |none=>rw[q2]at hy;cases hy
   |some d=>rw[q1]at hx;rw[q2]at hy;cases hx;cases hy;exact ab
 exact RP.mpr (h.imp λh=>by ext)
def kI(ks:bb Nat):bb Int:=ks.map λk=>((k:Nat):Int)
theorem Li(ks:bb Nat):(kI ks).map Pw.int=ks.map nd:=by unfold kI;rw[Qy];rfl
theorem E9(ks:bb Nat):i9 (ks.map nd)=Bn (kI ks):=by rw[<-Li];exact L3.kL _
theorem JZ{ks:bb Nat}(h:ks.length<64):iU [.list (ks.map nd)]=Bn (.ow ((dr (kI ks)).map .int)):=by show(match i9 (ks.map nd)with|some a=>if a.length<64 then Bn (RV.ow ((dr a).map .int))else Pn|none=>Pn)=_;rw[E9];exact av (by unfold kI;rw[Pp];exact h)
theorem Jv{ks:bb Nat}(h:ks.length<64):jZ [.list (ks.map nd)]=Bn (.ow ((dr (oH (kI ks))).map .int))/\k8 [.list (ks.map nd)]=-(.int (oH (kI ks)).length):=by
 constructor
 .show(if(ks.map nd).length<64 then _ else _)=_;rw[av (by rw[Pp];exact h),E9]
 .show(if(ks.map nd).length<64 then _ else _)=_;rw[av (by rw[Pp];exact h),E9]
theorem Ng{ks:bb Nat}(h:ks.Nodup):(kI ks).Nodup:=Wu _ (λa b n e=>n (by ext)) h
theorem qV(b:bb Int):iE (.list (b.map .int))=Pr:=rL (by unfold Pw.canLay0;exact jG λa _=>rfl) (by show Pw.depthAll (b.map Pw.int)+1<=64;have:=gq (f:=Pw.int) (n:=0) (l:=b) λa _=>PF _;ext)
abbrev E6(s:RQ)(T:bb Nat)(l:bb Nat):aO:=[-(dA s),-(.list (T.map nd)),-(.tuple ((c7 s.ac).map pD)),-(hG s.wt),-(nN s.oc),Bn (.ow (l.map nd))]
theorem Hg{b:Bd}(t:VB b){s:RQ}(u:SW b s){T:bb Nat}(G:Th s T):gL [dA s,.list (T.map nd)]=.ok (.fz (.bool Pr)):=by
 have U:=lz s.ac;have cm:kh (dG (gT 2 (xY (gN 0) (xY (gN 1) Hl))) fT (aa 0) ((c7 s.ac).map pD) [Pn,Pn] [])=.ok (((c7 s.ac).map (·.1)).map nd):=by
  rw[p9 pD (λp=>Bn (nd p.1)) (λρ=>∃B A,ρ=[B,A]) (c7 s.ac) ⟨Pn,Pn,rfl⟩ (by ext) ?_]
  .show Res.ok (List.filterMap (Bn∘λp:Nat×Mn=>nd p.1) (c7 s.ac))=_;rw[List.filterMap_eq_map,Qy];rfl
  .rintro⟨k,m⟩ F ρ ⟨B,A,rfl⟩;exact⟨[-(nd k),-(mD m)],C0 (ρ1:=[-(nd k),-(mD m)]) rfl rfl (af rfl) rfl rfl,_,_,rfl⟩
 have n:=kE s.ac;have E:kI ((c7 s.ac).map (·.1))=(c7 s.ac).map λp=>((p.1:Nat):Int):=by unfold kI;rw[Qy];rfl
 have r:∀k,k∈(c7 s.ac).map (·.1)↔s.ac k≠Pn:=λk=>by
  rw[Qo];constructor
  .rintro⟨p,F,rfl⟩;rw[(eE.mp F).2];intro z;cases z
  .intro h
   cases q:s.ac k with
   |none=>exact a5 q h
   |some a=>exact⟨(k,a),eE.mpr ⟨(SA.ak t u.sa k a q).1,q⟩,rfl⟩
 have K:(kI ((c7 s.ac).map (·.1))).Nodup:=by rw[E];exact n.imp λh e=>by ext
 have f:((c7 s.ac).map (·.1)).Nodup:=by
  have:((c7 s.ac).map (·.1)).Pairwise (·<·):=by refine RP.mpr ((RP.mp n).imp λh=>by ext)
  exact this.imp λh e=>by ext
 have J:dr (oH (kI ((c7 s.ac).map (·.1))))=kI ((c7 s.ac).map (·.1)):=by rw[um K,E];exact za (n.imp λh=>by ext)
 have d:((c7 s.ac).map (·.1)).length<64:=by rw[Pp];ext
 have ne:n6 (.list (((c7 s.ac).map (·.1)).map nd)) (.list ((dr (oH (kI ((c7 s.ac).map (·.1))))).map .int))=-(.bool Py):=by rw[J,<-Li];exact kZ (qV _)
 have i:∀{N C:aO->Prop} {all:bb Nat},all.Nodup->(∀k,k∈all↔Hd s k)->all.length<64->Go (c9 (Cf (ay cx (eX iU {aa 5}) (eX iU {aa 1})) (ay cx (eX k8 {aa 5}) (eX gm {aa 5}))) (E6 s T all)) N C (λrv=>rv=.fz (.bool Pr)):=λ{N C all} hn hm hl=>by
  have v:all.Perm T:=pU hn G.nd λk=>(hm k).trans (G.iff k).symm;have H:T.length<64:=by rw[<-v.length_eq];exact hl
  have Q:cx (.list ((dr (kI all)).map .int)) (.list ((dr (kI T)).map .int))=-(.bool Pr):=by rw[D6 (l:=kI all) (m:=kI T) (v.map _)];exact STP.qC (qV _)
  have P:cx (.int (oH (kI all)).length) (nd all.length)=-(.bool Pr):=by rw[um (Ng hn),show(kI all).length=all.length by unfold kI;rw[Pp]];exact STP.qC rfl
  have I:gm [.list (all.map nd)]=-(nd all.length):=by show Bn (RV.fz (.int (all.map nd).length))=_;rw[Pp]
  exact eh (pv:=.fz (.bool Pr)) (u9 (a:=Pr) (b:=Pr) (bG (aE (rv:=.fz (.bool Pr)) (cH (rv:=.ow ((dr (kI all)).map .int)) (ds:=[.list (all.map nd)]) (ai (d6 rfl) aF) rfl (JZ hl)) (cH (rv:=.ow ((dr (kI T)).map .int)) (ds:=[.list (T.map nd)]) (ai (af rfl) aF) rfl (JZ H)) rfl rfl Q) rfl) λ_=>aE (rv:=.fz (.bool Pr)) (cH (rv:=.fz (.int (oH (kI all)).length)) (ds:=[.list (all.map nd)]) (ai (d6 rfl) aF) rfl (Jv hl).2) (cH (rv:=.fz (nd all.length)) (ds:=[.list (all.map nd)]) (ai (d6 rfl) aF) rfl I) rfl rfl P) rfl rfl
 refine jD (ρ:=[-(dA s),-(.list (T.map nd)),Pn,Pn,Pn,Pn]) rfl ?_;unfold kq;refine bB (ρ3:=[-(dA s),-(.list (T.map nd)),-(.tuple ((c7 s.ac).map pD)),-(hG s.wt),-(nN s.oc),Pn]) (af rfl) rfl rfl ?_;refine bB (ρ3:=E6 s T ((c7 s.ac).map (·.1))) (dD (ds:=(c7 s.ac).map pD) (cs:=[]) (gz (af rfl) rfl rfl) rfl cm) rfl rfl ?_;refine gK (bG (aE (rv:=.fz (.bool Py)) (d6 rfl) (cH (rv:=.ow ((dr (oH (kI ((c7 s.ac).map (·.1))))).map .int)) (ds:=[.list (((c7 s.ac).map (·.1)).map nd)]) (ai (d6 rfl) aF) rfl (Jv d).1) rfl rfl ne) rfl) (λz=>nomatch z) (λ_=>cS ?_);cases qw:s.wt with
 |none=>
  have o:kR (hG s.wt) .none=-(.bool Py):=by rw[qw];rfl
  refine gK (bG (aE (rv:=.fz (.bool Py)) (af rfl) aG rfl rfl o) rfl) (λz=>nomatch z) (λ_=>cS ?_);refine i f (λk=>(r k).trans ⟨.inl,λz=>z.elim id λw=>?_⟩) d;rw[qw]at w;cases w
 |some x=>
  obtain⟨ws,g,w⟩:=x;obtain⟨j,_⟩:=u.wt ws g w qw;have S:=WV.len t j;have o:kR (hG s.wt) .none=-(.bool Pr):=by rw[qw];rfl
  have L:bc (hG s.wt) (.int 0)=-(.tuple (aR ws)):=by rw[qw];exact iG
  refine gK (bG (aE (rv:=.fz (.bool Pr)) (af rfl) aG rfl rfl o) rfl) (λ_=>?_) (λz=>nomatch z);have R:de (.list (((c7 s.ac).map (·.1)).map nd)) (.list (aR ws))=Bn (.ow (((c7 s.ac).map (·.1)++ws).map nd)):=by rw[Qb];exact av (show(((c7 s.ac).map (·.1)).map nd).length+(aR ws).length<=1000000 by unfold aR;rw[Pp,Pp,Pp];ext)
  refine bB (ρ3:=E6 s T ((c7 s.ac).map (·.1)++ws)) (aE (rv:=.ow (((c7 s.ac).map (·.1)++ws).map nd)) (d6 rfl) (cH (rv:=.ow (aR ws)) (ds:=[.tuple (aR ws)]) (ai (aE (rv:=.fz (.tuple (aR ws))) (af rfl) aG rfl rfl L) aF) rfl rfl) rfl rfl R) rfl rfl ?_;refine i ?_ (λk=>?_) (by rw[PJ,Pp];ext)
  .rw[QU];exact⟨f,j.nd,λx O y M e=>(r x).mp O (by rw[e];exact j.kf y M)⟩
  .rw[Qm,r];refine or_congr Iff.rfl ?_;show _↔lZ s.wt k=Pr;rw[qw];exact(decide_eq_true_iff (p:=k∈ws)).symm
section
variable{ρ:bv}{Z Z1 Z2:aZ}{x:SV}
theorem xf(ha:fa ρ Z=.ok xs Z1)(a:tI F n xs Z1=.ok x Z2):ui F n fa ρ Z=.ok x Z2:=by unfold ui;rw[ha,dP,a];rfl
theorem E5(sn:bb D)(st:D):frz 4 (Z++[.lst (sn.map .fz)]) (.tp [.rf Z.length,.fz st])=Bn (.tuple [.list sn,st],Z++[.dead]):=by
 have b:frz 3 (Z++[.lst (sn.map .fz)]) (.rf Z.length)=Bn (.list sn,Z++[.dead]):=by unfold frz;rw[bf];dsimp only;rw[vR];dsimp only;rw[jp]
 have a:pM (frz 3) (Z++[.lst (sn.map .fz)]) [.rf Z.length,.fz st]=Bn ([.list sn,st],Z++[.dead]):=by unfold pM;rw[b];rfl
 unfold frz;rw[show([AV.rf Z.length,AV.fz st].map AV.sv)=[.rf Z.length,.fz st]from rfl,a]
theorem Jb(a:VB b)(d:SW b s)(f:EV b e)(h1:fa ρ Z=.ok (.fz (bD b)) Z)(h:fb ρ Z=.ok (.fz (dA s)) Z)(g:fc ρ Z=.ok (.fz (cy e)) Z):sY (ui STP.kO 3 (au fa (au fb (au fc bi)))) ρ Z=.ok (.fz (.tuple [.list ((bN b s e).2.map iC),dA (bN b s e).1])) (Z++[.dead]):=
 qE (xf (aw h1 (aw h (aw g aQ))) (Jr a d f)) (E5 _ _)
end
section
variable{ρ:bv}{Z Z1 Z2:aZ}{y:SV}{fa fb:eK}{l:bb AV}{a:AV}{i:Int}
theorem Bu(ha:fa ρ Z=.ok (.tp l) Z1)(d:fb ρ Z1=.ok y Z2)(hn:CC y=Bn i)(b:lO l i=Bn a):L10.kx fa fb ρ Z=.ok a.sv Z2:=by unfold L10.kx;rw[ha,dP,d,dP];unfold Ho;dsimp only;rw[hn];show RS.QL Z2 ((lO l i).map AV.sv)=_;rw[b];rfl
end
def sC(sn:Sn):Cell:=.lst ((sn.map iC).map .fz)
def pX:Nat->Nat->bb SV
 |_,0=>[]
 |a,n+1=>.rf a::pX (a+1) n
theorem yp:∀a n,pX a (n+1)=pX a n++[.rf (a+n)]
 |a,0=>rfl
 |a,n+1=>by show SV.rf a::pX (a+1) (n+1)=SV.rf a::(pX (a+1) n++[.rf (a+(n+1))]);rw[yp (a+1) n,Um,VQ 1 n]
theorem Ae:∀a n,(pX a n).length=n
 |_,0=>rfl
 |a,n+1=>di (·+1) (Ae (a+1) n)
theorem OA{l r:aZ}{t:Nat}:(l++r)[l.length+t]?=r[t]? :=by rw[Qq (by ext),Uw]
theorem Pd{l r:aZ}{t:Nat}{c:Cell}:(l++r).set (l.length+t) c=l++r.set t c:=by rw[List.set_append_right _ _ (by ext),Uw]
def uU(b:Bd)(a:bb Sq)(Z:aZ):aZ:=Z++(.lst (pX (Z.length+1) a.length)::(ck b bJ a).2.map sC)
theorem Je(b:Bd)(a:bb Sq)(Z:aZ):(uU b a Z).length=Z.length+1+a.length:=by unfold uU;rw[PJ,PN,Pp,kF];ext
theorem GZ{b:Bd}{a:bb Sq}{i:Nat}{e:Sq}{Z:aZ}(h:a[i]?=Bn e):(uU b (a.take i) Z++[sC (bN b (ck b bJ (a.take i)).1 e).2]).set Z.length (.lst (pX (Z.length+1) i++[.rf (Z.length+1+i)]))=uU b (a.take (i+1)) Z:=by
 have g:=(Pu.mp h).1;have d:a.take (i+1)=a.take i++[e]:=by rw[SY,h];rfl
 have f:(a.take i).length=i:=by rw[QH];ext
 unfold uU;rw[d,sH,PJ,f,show i+[e].length=i+1 from rfl,yp,QS];have:=Pd (l:=Z) (r:=(.lst (pX (Z.length+1) i)::(ck b bJ (a.take i)).2.map sC)++[sC (bN b (ck b bJ (a.take i)).1 e).2]) (t:=0) (c:=.lst (pX (Z.length+1) i++[.rf (Z.length+1+i)]));refine(show _=_ from this).trans ?_;rw[Qb];rfl
theorem Hz{b:Bd}(u:VB b)(f:bb Sq)(G:f.length<=1000)(z:∀e∈f,EV b e)(Z:aZ):nV [.fz (bD b),.fz (.list (f.map cy))] Z=.ok (.tp [.rf Z.length,.fz (dA (ck b bJ f).1)]) (uU b f Z):=by
 have p:Out (nV [.fz (bD b),.fz (.list (f.map cy))] Z) (λv j=>v=.tp [.rf Z.length,.fz (dA (ck b bJ f).1)]/\j=uU b f Z) (λ_=>False):=by
  refine zt rfl ?_;unfold uL;refine iw (x:=.fz (dA bJ)) (ρ1:=[-(bD b),-(.list (f.map cy)),-(dA bJ),Pn,Pn,Pn]) (ah (d:=dA bJ) (show _=Res.ok (PV.fz (.tuple [.tuple [],.none,.none]),_)from aG)) rfl ?_;refine iw (x:=.rf Z.length) (Z1:=Z++[.lst []]) (ρ1:=[-(bD b),-(.list (f.map cy)),-(dA bJ),Bn (.rf Z.length),Pn,Pn]) (dY (ds:=[]) (by fail "ev")) rfl ?_;refine uW (zg (λi ρ j=>∃(o n:bg SV),ρ=[-(bD b),-(.list (f.map cy)),-(dA (ck b bJ (f.take i)).1),Bn (.rf Z.length),o,n]/\j=uU b (f.take i) Z) (na (gz (d:=.list (f.map cy)) (af rfl) rfl rfl)) ⟨Pn,Pn,rfl,rfl⟩ ?_ ?_)
  .rintro i d ρ j m ⟨o,n,rfl,rfl⟩
   rw[PU]at m;cases q:f[i]? with
   |none=>rw[q]at m;cases m
   |some e=>
    rw[q]at m;cases P4 m;have F:=(Pu.mp q).1;have E:=z e (Qs q);have B:SW b (ck b bJ (f.take i)).1:=p7 u _ (qh b) λe h=>z e (U2 h);obtain⟨C,_⟩:=Af b f bJ i e q;have y:(f.take i).length=i:=by rw[QH];ext
    have pl:=Je b (f.take i) Z;rw[y]at pl;have w:=Jr u B E (Z:=uU b (f.take i) Z);have nx:=GZ (b:=b) (Z:=Z) q;have g:(uU b (f.take i) Z++[sC (bN b (ck b bJ (f.take i)).1 e).2])[Z.length]?=Bn (.lst (pX (Z.length+1) i)):=by rw[P9 (by ext)];have:=OA (l:=Z) (r:=.lst (pX (Z.length+1) i)::(ck b bJ (f.take i)).2.map sC) (t:=0);unfold uU;rw[y];exact this
    rw[pl]at w;rw[C];refine⟨[-(bD b),-(.list (f.map cy)),-(dA (ck b bJ (f.take i)).1),Bn (.rf Z.length),-(cy e),n],_,rfl,?_⟩;refine iw (x:=.tp [.rf (Z.length+1+i),.fz (dA (bN b (ck b bJ (f.take i)).1 e).1)]) (Z1:=uU b (f.take i) Z++[sC (bN b (ck b bJ (f.take i)).1 e).2]) (ρ1:=[-(bD b),-(.list (f.map cy)),-(dA (ck b bJ (f.take i)).1),Bn (.rf Z.length),-(cy e),Bn (.tp [.rf (Z.length+1+i),.fz (dA (bN b (ck b bJ (f.take i)).1 e).1)])]) (xf (xs:=[.fz (bD b),.fz (dA (ck b bJ (f.take i)).1),.fz (cy e)]) (aw (ah (af rfl)) (aw (ah (af rfl)) (aw (ah (af rfl)) aQ))) w) rfl ?_;generalize (bN b (ck b bJ (f.take i)).1 e).1=s' at*;generalize sC (bN b (ck b bJ (f.take i)).1 e).2=cc at*;have A:=ou (fo:=az 3) (fe:=kx (az 5) (ag (~~~0))) (ρ:=[-(bD b),-(.list (f.map cy)),-(dA (ck b bJ (f.take i)).1),Bn (.rf Z.length),-(cy e),Bn (.tp [.rf (Z.length+1+i),.fz (dA s')])]) (x:=.rf (Z.length+1+i)) (bC rfl) g (Bu (i:=0) (a:=.rf (Z.length+1+i)) (bC rfl) (ah (d:=.int 0) aG) rfl rfl) g (by rw[Ae];ext);rw[nx]at A;refine pp (eJ A) ?_;exact rp (ρ1:=[-(bD b),-(.list (f.map cy)),-(dA s'),Bn (.rf Z.length),-(cy e),Bn (.tp [.rf (Z.length+1+i),.fz (dA s')])]) (uG (Bu (i:=1) (a:=.fz (dA s')) (bC rfl) (ah (d:=.int 1) aG) rfl rfl) rfl) ⟨_,_,rfl,rfl⟩
  .rintro ρ j ⟨o,n,rfl,rfl⟩;rw[Pp,Sw];exact yO (Dm (xs:=[.rf Z.length,.fz (dA (ck b bJ f).1)]) (aw (bC rfl) (aw (bC rfl) aQ)) (PB rfl) rfl rfl) ⟨rfl,rfl⟩
 obtain⟨v,j,e,rfl,rfl⟩:=p.all;exact e
theorem F2(Z:aZ)(n:Nat):∀l:bb D,aC (jw n Z) (l.map .fz)=Bn l
 |[]=>rfl
 |a::r=>by rw[PY];unfold aC;rw[show jw n Z (.fz a)=Bn a by cases n<;>rfl,F2 Z n r]
theorem vO{Z:aZ}(n:Nat):∀(S:bb Sn) (a:Nat),(∀(m:Nat) sn,S[m]?=Bn sn->Z[a+m]?=Bn (sC sn))->aC (jw (n+1) Z) (pX a S.length)=Bn (pL S)
 |[],_,_=>rfl
 |sn::r,a,h=>by
  have d:jw (n+1) Z (.rf a)=Bn (.list (sn.map iC)):=by unfold jw;rw[show Z[a]?=Bn (sC sn)from h 0 sn rfl];show(aC (jw n Z) ((sn.map iC).map .fz)).map Pw.list=_;rw[F2];rfl
  show aC (jw (n+1) Z) (.rf a::pX (a+1) r.length)=_;unfold aC;rw[d,vO n r (a+1) λm s b=>by rw[Um,VQ 1 m];exact h (m+1) s b];rfl
theorem v9{Z:aZ}{n i:Nat}{xs:bb SV}{ds:bb D}(h:Z[i]?=Bn (.lst xs))(k:aC (jw n Z) xs=Bn ds):jw (n+1) Z (.rf i)=Bn (.list ds):=by show(match Z[i]? with|some (Cell.lst xs)=>(aC (jw n Z) xs).map Pw.list|_=>Pn)=_;rw[h];show(aC (jw n Z) xs).map Pw.list=_;rw[k];rfl
theorem Ea{Z:aZ}{i a n:Nat}(h:Z[i]?=Bn (.lst (pX a (n+1)))):sh Z (.rf i)=Pn:=by show(match Z[i]? with|some (Cell.lst xs)=>(aC sB xs).map Pw.list|_=>Pn)=Pn;rw[h];rfl
theorem zi{dl:bb Sn}(h:∀sn∈dl,Te sn):iE (.list (pL dl))=Pr:=by
 refine rL (by unfold Pw.canLay0;exact jG λsn a=>md (Lh (h sn a))) ?_;show Pw.depthAll (pL dl)+1<=64;have:=gq (f:=λsn:Sn=>Pw.list (sn.map iC)) (n:=3) (l:=dl) λsn _=>by show Pw.depthAll (sn.map iC)+1<=3;have:=gq (l:=sn) λq _=>uI q;ext
 unfold pL;ext
theorem Dp{fa:eK}{ρ:bv}{Z:aZ}{i:Nat}{x:SV}{xs:bb SV}(ha:fa ρ Z=.ok (.rf i) Z)(h:Z[i]?=Bn (.lst (x::xs))):E3 fa (AZ (ag (~~~1))) Bg ρ Z=.ok (.rf Z.length) (Z++[.lst xs]):=by
 unfold E3;rw[ha,dP];show((RS.QL Z (LD.Wz Z (.rf i))).bind λxs a=>RS.ok (SV.rf a.length) (a++[.lst (zG xs (Bn 1) Pn)]))=_;have e:LD.Wz Z (.rf i)=Bn (x::xs):=by unfold LD.Wz;dsimp only;rw[h]
 rw[e];show RS.ok _ (Z++[.lst (zG (x::xs) (Bn 1) Pn)])=_;have c:zG (x::xs) (Bn 1) Pn=xs:=by unfold zG;rw[show HT.sIx (x::xs).length 0 (Bn 1)=1 from(HT.sIx_nat _ _ 1).trans (by rw[PN];ext),show HT.sIx (x::xs).length (x::xs).length Pn=(x::xs).length from rfl];show(xs.take (xs.length+1 - 1))=xs;rw[Nat.add_sub_cancel,Sw]
 rw[c]
def xp(b:Bd)(a:bb Sq):bb Sq:=a++(P0 b.n.toNat).map .up++PK b.wt.toNat .turn
def wE(T:bb Nat)(a:bb Sq):bb Nat:=a.foldl tQ T
theorem qp(T:bb Nat)(xs ys:bb Sq):wE T (xs++ys)=wE (wE T xs) ys:=YI
theorem K3{T:bb Nat}(h:T.Nodup)(e:Sq):(tQ T e).Nodup:=by
 cases e with
 |down k=>
  show(if k∈T then T else T++[k]).Nodup;split
  .exact h
  .rename_i q;rw[QU];exact⟨h,QX _ _,λx b y a e=>q (by rw[<-PL.mp a,<-e];exact b)⟩
 |up k=>exact h.erase k
 |turn=>exact h
theorem zE:∀(a:bb Sq) {T:bb Nat},T.Nodup->(wE T a).Nodup
 |[],_,h=>h
 |e::r,_,h=>zE r (K3 h e)
theorem Ft{b:Bd}:∀(d:bb Sq) {T:bb Nat},(∀e∈d,EV b e)->(∀k∈T,(k:Int)<b.n)->∀k∈wE T d,(k:Int)<b.n
 |[],_,_,h=>h
 |e::r,T,he,h=>Ft r (λx f=>he x (PD _ f)) (by
  have ev:=he e PH;cases e with
  |down k=>
   show∀j∈(if k∈T then T else T++[k]),_;split
   .exact h
   .intro j a
    rcases Qm.mp a with a|a
    .exact h j a
    .rw[PL.mp a];exact ev
  |up k=>exact λj a=>h j (XB a)
  |turn=>exact h)
theorem AJ:∀(b:bb Sq) (T:bb Nat),(wE T b).length<=T.length+b.length
 |[],_=>PF _
 |e::r,T=>by
  have:=AJ r (tQ T e);have h:(tQ T e).length<=T.length+1:=by
   cases e with
   |down k=>
    show(if k∈T then T else T++[k]).length<=_;split
    .omega
    .rw[PJ];exact PF _
   |up k=>have:=List.length_erase_le (a:=k) (l:=T);show(T.erase k).length<=_;ext
   |turn=>exact Rp _
  rw[PN];show(wE (tQ T e) r).length<=_;ext
theorem AH:∀(m:Nat) {T:bb Nat},T.Nodup->∀k∈wE T ((P0 m).map .up),k∈T/\m<=k
 |0,T,_,k,h=>⟨h,Qu _⟩
 |m+1,T,hn,k,h=>by rw[List.range_succ,Qb,qp]at h;have h:k∈(wE T ((P0 m).map .up)).erase m:=h;rw[(zE _ hn).mem_erase_iff]at h;obtain⟨a,b⟩:=AH m hn k h.2;exact⟨a,by ext⟩
theorem wY(T:bb Nat):∀n,wE T (PK n .turn)=T
 |0=>rfl
 |n+1=>by rw[QF];exact wY T n
theorem G0{b:Bd}{a:bb Sq}(d:VB b)(g:∀e∈a,EV b e):wE [] (xp b a)=[]:=by have j:=d.n1;unfold xp;rw[qp,qp,wY];refine VZ.mpr λk f=>?_;obtain⟨i,l⟩:=AH _ (zE a Sb) k f;have:=Ft a g (λk h=>by cases h) k i;ext
theorem HF{b:Bd}{d:bb Sq}(a:VB b)(e:d.length<=63):2<=(xp b d).length/\(xp b d).length<=72:=by have:=a.n1;have:=a.n5;have:=a.w1;have:=a.w4;unfold xp;rw[PJ,PJ,Pp,Qi,Qg];ext
theorem K5{b:Bd}{a:bb Sq}(g:∀e∈a,EV b e)(d:VB b):∀e∈xp b a,EV b e:=λe h=>by
 have i:=d.n1;unfold xp at h;rcases Qm.mp h with h|h
 .rcases Qm.mp h with h|h
  .exact g e h
  .obtain⟨k,f,rfl⟩:=Qo.mp h;have:=Rn.mp f;show(k:Int)<b.n;ext
 .rw[(YC.mp h).2];exact True.intro
structure S3(Z:aZ)(a:Nat)(T L:bb Nat)(S:bb Sn):Prop where
 t:Z[a]?=Bn (kC T)
 l:Z[a+1]?=Bn (lC L)
 s:Z[a+2]?=Bn (.lst ((pL S).map .fz))
section
variable{Z X:aZ}{a:Nat}{T L T' L':bb Nat}{S S':bb Sn}
theorem S3.app(h:S3 Z a T L S):S3 (Z++X) a T L S:=by
 have k:∀{i:Nat} {c:Cell},Z[i]?=Bn c->(Z++X)[i]?=Bn c:=λ{i c} e=>by rw[P9 (Pu.mp e).1];exact e
 exact⟨k h.t,k h.l,k h.s⟩
theorem S3.st(h:S3 Z a T L S):S3 (Z.set a (kC T')) a T' L S:=⟨QI (Pu.mp h.t).1,by rw[Qv (by ext)];exact h.l,by rw[Qv (by ext)];exact h.s⟩
theorem S3.sl(h:S3 Z a T L S):S3 (Z.set (a+1) (lC L')) a T L' S:=⟨by rw[Qv (by ext)];exact h.t,QI (Pu.mp h.l).1,by rw[Qv (by ext)];exact h.s⟩
theorem S3.ss(h:S3 Z a T L S):S3 (Z.set (a+2) (.lst ((pL S').map .fz))) a T L S':=⟨by rw[Qv (by ext)];exact h.t,by rw[Qv (by ext)];exact h.l,QI (Pu.mp h.s).1⟩
end
theorem Dc{ss:bb Str}(h:∀x∈ss,Pw.strOk x=Pr):iE (.list (ss.map .str))=Pr:=rL (by unfold Pw.canLay0;exact jG λx b=>by unfold Pw.canLay0;exact h x b) (by show Pw.depthAll (ss.map Pw.str)+1<=64;have:=gq (f:=Pw.str) (n:=0) (l:=ss) λa _=>PF _;ext)
theorem BS{s:RQ}{L:bb Nat}(h:Lt s.ac L):dZ (L.map cW)=dZ (nR ((wC s).map cW)):=by
 obtain⟨g,f⟩:=vD ((wC s).map cW) [] Sb;refine DU (pU (Wu _ (λa b n e=>n (vf e)) h.nd) g λx=>?_);rw[Qo];constructor
 .rintro⟨c,d,rfl⟩;exact(f _).mpr (.inr (Qo.mpr ⟨c,BM.mpr ((h.iff c).mp d),rfl⟩))
 .intro z
  rcases(f x).mp z with w|w
  .cases w
  .obtain⟨c,d,rfl⟩:=Qo.mp w;exact⟨c,(h.iff c).mpr (BM.mp d),rfl⟩
theorem Ji{b:Bd}{s:RQ}(a:SW b s){L:bb Nat}(h:Lt s.ac L):∀c∈L,c<26:=λc e=>by obtain⟨k,_,d⟩:=ju.mp ((h.iff c).mp e);exact(a.sa.ac k _ d).2.lb
theorem Nm(L:bb Nat):nZ (L.map lD)=Bn (L.map cW):=by
 induction L with
 |nil=>rfl
 |cons a l b=>show(nZ (l.map lD)).map (cW a::·)=_;rw[b];rfl
theorem NH{L:bb Nat}(h:L.length<64):yi [.list (L.map lD)]=Bn (.ow ((dZ (L.map cW)).map .str)):=by show(if(L.map lD).length<64 then _ else _)=_;rw[av (by rw[Pp];exact h),Nm]
theorem Kx{l:bb D}(h:iE (.list l)=Pr):cx (.list l) (.list [])=-(.bool l.isEmpty)/\n6 (.list l) (.list [])=-(.bool !l.isEmpty):=by
 constructor
 .unfold cx;rw[h];cases l<;>rfl
 .unfold n6;rw[h];cases l<;>rfl
theorem IE(T:bb Nat):iE (.list (T.map nd))=Pr:=by rw[<-Li];exact qV _
theorem Hj{ac:Ac}(h:∀k,ac k=Pn):c7 ac=[]:=by refine VZ.mpr λp a=>?_;have:=(eE.mp a).2;rw[h]at this;cases this
theorem Ic{f:FE}{ρ:bv}{Z:aZ}{ρ':aO}{ds:bb D}(h:f (cB ρ)=.ok (.ow ds,ρ')):sY (ag f) ρ Z=.ok (.fz (.list ds)) (Z++[.dead]):=qE (dY h) (by rw[qv bf,jp])
theorem KL{f:bb D->bg RV}{fa:xy}{ρ:bv}{Z Z1:aZ}{xs:bb SV}{a ds:bb D}(ha:fa ρ Z=.ok xs Z1)(b:aC (sh Z1) xs=Bn ds)(h:f ds=Bn (.ow a)):J1 f fa ρ Z=.ok (.rf Z1.length) (Z1++[.lst (a.map .fz)]):=by unfold J1;rw[ha,dP];unfold II;rw[b];dsimp only;rw[h];rfl
theorem LV{b:Bd}(e:VB b){d:bb Sq}(t:d.length<=63){x0:bg PV}{ρ:aO}:(ay de (ay de (aa 2) (eu 1 [] (lK gQ {ay bc (aa 1) (~~~0)}) (gN 0) fT (bQ {pC (.str "up"),aa 0}))) (ay dM (dg {bQ {pC (.str "turn"),~~~0}}) (ay bc (aa 1) (~~~3)))) (x0::-(bD b)::-(.list (d.map cy))::ρ)=.ok (.ow ((xp b d).map cy),x0::-(bD b)::-(.list (d.map cy))::ρ):=by
 have r:=e.n1;have q:=e.n5;have p:=e.w1;have o:=e.w4;have j:bc (bD b) (.int 0)=-(.int b.n):=iG;have h:bc (bD b) (.int 3)=-(.int b.wt):=GC (i:=3) rfl;have g:gQ [.int b.n]=Bn (aR (P0 b.n.toNat)):=wg (by ext) (by ext);have cm:kh (dG (gN 0) fT (bQ {pC (.str "up"),aa 0}) (aR (P0 b.n.toNat)) [Pn] [])=.ok (((P0 b.n.toNat).map Sq.up).map cy):=(qA nd (λk=>cy (.up k)) (P0 b.n.toNat) (by rw[Qi];ext) rfl λk _=>fJ (ai aG (ai (af rfl) aF)) rfl (PB rfl)).trans (by rw[Qy];rfl);have f:dM (.list [.tuple [.str "turn",.int 0]]) (.int b.wt)=Bn (.ow ((PK b.wt.toNat Sq.turn).map cy)):=by have:=KW b.wt.toNat (by ext);rwa [show nd b.wt.toNat=.int b.wt by show Pw.int _=_;congr 1;ext]at this
 have m:=E4 (a:=d) (c:=(P0 b.n.toNat).map Sq.up) (by rw[Pp,Qi];ext);have l:=E4 (a:=d++(P0 b.n.toNat).map Sq.up) (c:=PK b.wt.toNat Sq.turn) (by rw[PJ,Pp,Qi,Qg];ext);exact aE (rv:=.ow ((xp b d).map cy)) (aE (rv:=.ow ((d++(P0 b.n.toNat).map Sq.up).map cy)) (af rfl) (dD (ds:=aR (P0 b.n.toNat)) (cs:=[]) (mG (ai (aE (rv:=.fz (.int b.n)) (af rfl) aG rfl rfl j) aF) rfl g) rfl cm) rfl rfl m) (aE (rv:=.ow ((PK b.wt.toNat Sq.turn).map cy)) (sG (ai (fJ (ai aG (ai aG aF)) rfl (PB rfl)) aF) rfl (PB rfl)) (aE (rv:=.fz (.int b.wt)) (af rfl) aG rfl rfl h) rfl rfl f) rfl rfl l
abbrev Av(g:bb Int)(b:Bd)(h:bb Sq)(s:RQ)(a:Nat)(f e d i:bg SV):bv:=[-(.list (g.map .int)),-(bD b),-(.list (h.map cy)),-(dA s),Bn (.rf a),Bn (.rf (a+1)),Bn (.rf (a+2)),f,e,d,i]
theorem qk{F:lB}{n:Nat}{fa:xy}{xs:bb SV}{ρ:bv}{Z Z1 Z2:aZ}{x:SV}(ha:fa ρ Z=.ok xs Z1)(hn:xs.length=n)(a:F xs Z1=.ok x Z2):rj F n fa ρ Z=.ok x Z2:=by unfold rj;rw[ha,dP,av hn,a];rfl
theorem Bk{b:Bd}(a:VB b):∀(xs:bb Sq) {s:RQ},SW b s->(∀e∈xs,EV b e)->∀sn∈(ck b s xs).2,Te sn
 |[],_,_,_,_,h=>by cases h
 |e::r,s,sw,he,sn,h=>by
  have h:sn∈(bN b s e).2::(ck b (bN b s e).1 r).2:=h;rcases P1.mp h with rfl|h
  .exact A9 a sw (he e PH)
  .exact Bk a r (vL a sw (he e PH)) (λx d=>he x (PD _ d)) sn h
theorem Np{M:bb Nat}(h:M.Nodup)(k:∀c∈M,c<26):M.length<64:=by
 have p:M.Perm ((P0 26).filter λc=>decide (c∈M)):=pU h (List.nodup_range.filter _) λx=>by rw[Q9,Rn,decide_eq_true_eq];exact⟨λq=>⟨k x q,q⟩,λq=>q.2⟩
 have:=p.length_eq;have:=Tb (λc=>decide (c∈M)) (P0 26);rw[Qi]at this;ext
theorem HD(s:RQ):Pw.depth (dA s)<=4:=by
 have b:∀m:Mn,Pw.depth (mD m)<=1:=λm=>by cases m<;>exact PB rfl
 have f:Pw.depthAll ((c7 s.ac).map pD)<=2:=gq λq _=>by show max 0 (max (Pw.depth (mD q.2)) 0)+1<=2;have:=b q.2;ext
 have e:Pw.depth (hG s.wt)<=2:=by
  cases s.wt with
  |none=>exact Qu _
  |some x=>
   obtain⟨a,g,w⟩:=x;show max (Pw.depthAll (aR a)+1) (max 0 (max (Pw.depth (sQ w)) 0))+1<=2;rw[lm];cases w with
   |none=>exact PB rfl
   |some h=>exact PB rfl
 have d:Pw.depth (nN s.oc)=0:=by cases s.oc<;>rfl
 show max (Pw.depthAll ((c7 s.ac).map pD)+1) (max (Pw.depth (hG s.wt)) (max (Pw.depth (nN s.oc)) 0))+1<=4;ext
theorem Kk{b:Bd}{s:RQ}{S:bb Sn}(a:SW b s)(h:∀sn∈S,Te sn):iE (.tuple [.list (pL S),dA s])=Pr:=by
 refine rL ?_ ?_
 .show(Pw.canLay0 (.list (pL S))&&(Pw.canLay0 (dA s)&&Pr))=Pr;rw[md (zi h),md (Gn a)];rfl
 .show max (Pw.depthAll (pL S)+1) (max (Pw.depth (dA s)) 0)+1<=64
  have:=gq (f:=λsn:Sn=>Pw.list (sn.map iC)) (n:=3) (l:=S) λsn _=>by show Pw.depthAll (sn.map iC)+1<=3;have:=gq (l:=sn) λq _=>uI q;ext
  have:=HD s;unfold pL;ext
theorem Jy{Z:aZ}{f:Nat}{S:D}{st:D}(h:jw 5 Z (.rf f)=Bn S):jw 6 Z (.tp [.rf f,.fz st])=Bn (.tuple [S,st]):=by show(aC (λx:AV=>jw 5 Z x.sv) [AV.rf f,AV.fz st]).map Pw.tuple=_;unfold aC;rw[show jw 5 Z (AV.rf f).sv=_ from h];rfl
structure PR(Z:aZ)(l:Nat)(S:bb Sn):Prop where
 r:Z[l]?=Bn (.lst (pX (l+1) S.length))
 c:∀(m:Nat) sn,S[m]?=Bn sn->Z[l+1+m]?=Bn (sC sn)
theorem PR.app{Z X:aZ}{l:Nat}{S:bb Sn}(h:PR Z l S):PR (Z++X) l S:=by
 have k:∀{i:Nat} {c:Cell},Z[i]?=Bn c->(Z++X)[i]?=Bn c:=λ{i c} e=>by rw[P9 (Pu.mp e).1];exact e
 exact⟨k h.r,λm a q=>k (h.c m a q)⟩
theorem PR.of(b:Bd)(a:bb Sq)(Z:aZ):PR (uU b a Z) Z.length (ck b bJ a).2:=by
 refine⟨?_,λm d q=>?_⟩
 .have:=OA (l:=Z) (r:=.lst (pX (Z.length+1) a.length)::(ck b bJ a).2.map sC) (t:=0);unfold uU;rw[kF];exact this
 .have:=OA (l:=Z) (r:=.lst (pX (Z.length+1) a.length)::(ck b bJ a).2.map sC) (t:=1+m);unfold uU;rw[Um];refine this.trans ?_;rw[VQ 1 m,Us,PU,q];rfl
theorem PR.rd{Z:aZ}{l:Nat}{S:bb Sn}(h:PR Z l S)(n:Nat):jw (n+2) Z (.rf l)=Bn (.list (pL S)):=v9 h.r (vO n S (l+1) h.c)
theorem IR(n:Nat){Z:aZ}{i:Nat}{ds:bb D}(h:Z[i]?=Bn (.lst (ds.map .fz))):jw (n+1) Z (.rf i)=Bn (.list ds):=v9 h (F2 Z n ds)
theorem CT(b:Bd)(e:Sq):(bN b bJ e).2.length<=1:=by
 cases e with
 |turn=>exact Qu _
 |up k=>exact Qu _
 |down k=>
  show(CA b (bJ,[]) k).2.length<=1;have d:CA b (bJ,[]) k=rS b (lQ bJ.ac bJ.oc) (et bJ (look b (lQ bJ.ac bJ.oc) k),[]) k (look b (lQ bJ.ac bJ.oc) k):=rfl;rw[d];generalize look b (lQ bJ.ac bJ.oc) k=m;generalize lQ bJ.ac bJ.oc=L;have cm:∀a,(eI (et bJ m,[]) k a).2.length<=1:=λa=>mM (p:=(et bJ m,[]));cases m with
  |U5 c n=>exact Rp _
  |Qa c=>
   show(if(decide (L=0)&& !(fA b [k]).isEmpty)=Pr then({et bJ (.Qa c)with wt:=Bn ([k],0,Pn)},[])else eI (et bJ (.Qa c),[]) k (.Qa c)).2.length<=_;split
   .exact Rp _
   .exact cm _
  |once n=>exact cm .none
  |RY n=>exact cm _
  |none=>exact cm _
  |below=>exact cm _
theorem yF(b:Bd):∀(a:bb Sq) (x:Sn),(ck b bJ a).2[0]?=Bn x->x.length<=1
 |[],_,h=>by cases h
 |e::_,x,h=>by have h:Bn (bN b bJ e).2=Bn x:=h;cases h;exact CT b e
theorem main(u:bb Int)(Yo:u.length<=63):L10.Nc F_law [.list (u.map .int)]=.ok (.fz (.bool Pr)):=by
 obtain⟨b,J,A,abQ,he0,eg⟩:=FH u Yo;have R:=λ(x0:bg PV) (ρ:aO)=>LV A abQ (x0:=x0) (ρ:=ρ);have U:=G0 A he0;have eln:=HF A abQ;have he:=K5 he0 A;have key:Out (F_law [.fz (.list (u.map .int))] []) (λx _=>x=.fz (.bool Pr)) (λ_=>False):=by
  refine zt (ρ:=[-(.list (u.map .int)),Pn,Pn,Pn,Pn,Pn,Pn,Pn,Pn,Pn,Pn]) rfl ?_;unfold Gy;refine iw (x:=.fz (.tuple [bD b,.list (J.map cy)])) (Z1:=[]) (Z2:=[]) (ρ1:=[-(.list (u.map .int)),-(bD b),-(.list (J.map cy)),Pn,Pn,Pn,Pn,Pn,Pn,Pn,Pn]) (ah (eR (rv:=.fz (.tuple [bD b,.list (J.map cy)])) (ds:=[.list (u.map .int)]) (ai (af rfl) aF) rfl rfl eg)) rfl ?_;generalize xp b J=es at R U eln he;refine iw (x:=.fz (.list (es.map cy))) (Z1:=[.dead]) (Z2:=[.dead]) (ρ1:=[-(.list (u.map .int)),-(bD b),-(.list (es.map cy)),Pn,Pn,Pn,Pn,Pn,Pn,Pn,Pn]) (Ic (R _ _)) rfl ?_;refine iw (x:=.fz (dA bJ)) (Z1:=[.dead]) (Z2:=[.dead]) (ρ1:=[-(.list (u.map .int)),-(bD b),-(.list (es.map cy)),-(dA bJ),Pn,Pn,Pn,Pn,Pn,Pn,Pn]) (qE (x:=.fz (dA bJ)) (ah (show _=Res.ok (PV.fz (.tuple [.tuple [],.none,.none]),_) by fail "ev")) rfl) rfl ?_;refine iw (x:=.rf 1) (Z1:=[.dead,.lst []]) (Z2:=[.dead,.lst []]) (ρ1:=[-(.list (u.map .int)),-(bD b),-(.list (es.map cy)),-(dA bJ),Bn (.rf 1),Pn,Pn,Pn,Pn,Pn,Pn]) (dY (ds:=[]) (by fail "ev")) rfl ?_;refine iw (x:=.rf 2) (Z1:=[.dead,.lst [],.lst []]) (Z2:=[.dead,.lst [],.lst []]) (ρ1:=[-(.list (u.map .int)),-(bD b),-(.list (es.map cy)),-(dA bJ),Bn (.rf 1),Bn (.rf 2),Pn,Pn,Pn,Pn,Pn]) (dY (ds:=[]) (by fail "ev")) rfl ?_;refine iw (x:=.rf 3) (Z1:=[.dead,.lst [],.lst [],.lst []]) (Z2:=[.dead,.lst [],.lst [],.lst []]) (ρ1:=Av u b es bJ 1 Pn Pn Pn Pn) (dY (ds:=[]) (by fail "ev")) rfl ?_;refine uW (zg (λi ρ Z=>∃(I G:bg SV) (L:bb Nat),ρ=Av u b es (ck b bJ (es.take i)).1 1 I G Pn Pn/\S3 Z 1 (wE [] (es.take i)) L (ck b bJ (es.take i)).2/\Lt (ck b bJ (es.take i)).1.ac L/\Th (ck b bJ (es.take i)).1 (wE [] (es.take i))) (na (gz (d:=.list (es.map cy)) (af rfl) rfl rfl)) ⟨Pn,Pn,[],rfl,⟨rfl,rfl,rfl⟩,⟨Sb,λc=>⟨λh=>(by cases h),λh=>by cases h⟩⟩,⟨Sb,λk=>⟨λh=>(by cases h),λh=>by rcases h with h|h;exact a5 rfl h;cases h⟩⟩⟩ ?_ ?_)
  .rintro i d ρ Z hd ⟨I,G,L,rfl,o,hL,hT⟩
   rw[PU]at hd;cases q:es[i]? with
   |none=>rw[q]at hd;cases hd
   |some e=>
    rw[q]at hd;cases P4 hd;have il:=(Pu.mp q).1;have YD:=he e (Qs q);have E:SW b (ck b bJ (es.take i)).1:=p7 A _ (qh b) λe h=>he e (U2 h);have tk:es.take (i+1)=es.take i++[e]:=by rw[SY,q];rfl
    have Tl:=AJ (es.take i) [];have Sl:=kF b (es.take i) bJ;have l1:(es.take i).length=i:=by rw[QH];ext
    have T1:wE [] (es.take i++[e])=tQ (wE [] (es.take i)) e:=qp _ _ _;rw[tk,sH,T1];show∃ρ1 Z1,_/\wF _ (λρ Z=>∃(I G:bg SV) (L:bb Nat),ρ=Av u b es (bN b (ck b bJ (es.take i)).1 e).1 1 I G Pn Pn/\S3 Z 1 (tQ (wE [] (es.take i)) e) L ((ck b bJ (es.take i)).2++[(bN b (ck b bJ (es.take i)).1 e).2])/\Lt (bN b (ck b bJ (es.take i)).1 e).1.ac L/\Th (bN b (ck b bJ (es.take i)).1 e).1 (tQ (wE [] (es.take i)) e)) _ _;rw[l1]at Tl Sl;rw[QA]at Tl;clear tk T1 U R eg;generalize wE [] (es.take i)=T at Tl hT o⊢;generalize (ck b bJ (es.take i)).2=S at Sl o⊢;generalize (ck b bJ (es.take i)).1=s at E hL hT⊢;obtain⟨⟨M,hM,N⟩,Y⟩:=Cv A E YD hL hT;have H:=vL A E YD;have sn1:=A9 A E YD;have sf:=λ(ρ:bv) (h1:az 1 ρ Z=.ok (.fz (bD b)) Z)=>Jb A E YD (ρ:=ρ) (Z:=Z) (fa:=ag (aa 1)) (fb:=ag (aa 3)) (fc:=ag (aa 7));generalize bN b s e=p at hM N Y H sn1 sf⊢;refine⟨Av u b es s 1 (-(cy e)) G Pn Pn,Z,rfl,?_⟩;refine iw (x:=.fz (.tuple [.list (p.2.map iC),dA p.1])) (Z1:=Z++[.dead]) (Z2:=Z++[.dead]) (ρ1:=Av u b es p.1 1 (-(cy e)) (-(.list (p.2.map iC))) Pn Pn) (sf _ rfl (ah (af rfl)) (ah (af rfl)) (ah (af rfl))) rfl ?_;clear sf;have o:=o.app (X:=[.dead]);generalize Z++[Cell.dead]=Z at o⊢;have ap:=ou (fo:=az 6) (fe:=ag (aa 8)) (ρ:=Av u b es p.1 1 (-(cy e)) (-(.list (p.2.map iC))) Pn Pn) (x:=.fz (.list (p.2.map iC))) (bC rfl) o.s (ah (af rfl)) o.s (by rw[Pp,Ml];ext);rw[show(pL S).map SV.fz++[SV.fz (.list (p.2.map iC))]=(pL (S++[p.2])).map .fz by unfold pL;rw[Qb,Qb];rfl]at ap;have o:=o.ss (S':=S++[p.2]);refine pp (eJ ap) ?_;clear ap;generalize Z.set (1+2) (.lst ((pL (S++[p.2])).map .fz))=Z at o⊢;refine pp (eJ (qk (xs:=[.fz (cy e),.rf 1]) (aw (ah (af rfl)) (aw (bC rfl) aQ)) rfl (EY o.t (by ext)))) ?_;have o:=o.st (T':=tQ T e);generalize Z.set 1 (kC (tQ T e))=Z at o⊢;have XD:=Ji E hL;have so:=HU (i:=2) o.l sn1 XD hL.nd hM;have o:=o.sl (L':=M);generalize Z.set 2 (lC M)=Z2 at so o;have M26:=Ji H N;have M64:=Np N.nd M26;have cb:=KL (f:=yi) (fa:=au (az 5) bi) (ρ:=Av u b es p.1 1 (-(cy e)) (-(.list (p.2.map iC))) Pn Pn) (Z:=Z2) (aw (bC rfl) aQ) (mw (eS o.l)) (NH M64);rw[BS N]at cb;have lo:=yS p.1;have ok1:iE (.list ((dZ (nR ((wC p.1).map cW))).map .str))=Pr:=Dc λx hx=>by rw[<-BS N]at hx;have:=(j6 (M.map cW)).mem_iff.mp hx;obtain⟨c,hc,rfl⟩:=Qo.mp this;exact lU (M26 c hc)
    generalize (dZ (nR ((wC p.1).map cW))).map Pw.str=ds at cb lo ok1;have n0:=kZ ok1;have hA:(Z2++[Cell.lst (ds.map .fz)])[Z2.length]?=Bn (.lst (ds.map .fz)):=bf;have o:=o.app (X:=[Cell.lst (ds.map .fz)]);generalize Z2.length=j at cb hA;generalize Z2++[Cell.lst (ds.map .fz)]=Z3 at cb hA o;have hA':(Z3++[Cell.lst (ds.map .fz)])[j]?=Bn (.lst (ds.map .fz)):=by rw[P9 (Pu.mp hA).1];exact hA
    have hB:(Z3++[Cell.lst (ds.map .fz)])[Z3.length]?=Bn (.lst (ds.map .fz)):=bf;refine zB (Z1:=Z3++[Cell.lst (ds.map .fz)]) (fW (Z1:=Z2) (mY (b:=Pr) (aV (qk (xs:=[.fz (.list (p.2.map iC)),.rf 2]) (aw (ah (af rfl)) (aw (bC rfl) aQ)) rfl so))) (aV (cR (x:=.rf j) (y:=.rf Z3.length) cb (dY (eR (rv:=.ow ds) (ds:=[dA p.1]) (ai (af rfl) aF) rfl rfl lo)) (iV (eS hA') (eS hB) n0)))) (pp cK ?_);have o:=o.app (X:=[Cell.lst (ds.map .fz)]);generalize Z3++[Cell.lst (ds.map .fz)]=Z4 at o⊢;clear cb so hA hA' hB lo;have kp:=Hg A H Y;have rdT:aC (jw 6 Z4) [.fz (dA p.1),.rf 1]=Bn [dA p.1,.list ((tQ T e).map nd)]:=by unfold aC;rw[show jw 6 Z4 (.fz (dA p.1))=Bn (dA p.1)from rfl,mw (IR 5 o.t)]
    have eT:=(Kx (IE (tQ T e))).1;have hC:(Z4++[Cell.lst (([]:bb D).map .fz)])[Z4.length]?=Bn (.lst (([]:bb D).map .fz)):=bf;have B:=o.app (X:=[Cell.lst (([]:bb D).map .fz)]);have eo:=aV (cR (f:=cx) (fa:=az 4) (fb:=ag (dg ao)) (ρ:=Av u b es p.1 1 (-(cy e)) (-(.list (p.2.map iC))) Pn Pn) (Z:=Z4) (x:=.rf 1) (y:=.rf Z4.length) (bC rfl) (dY (ds:=[]) (by fail "ev")) (iV (eS B.t) (eS hC) eT));have kv:=mY (aV (HN (F:=gL) (n:=2) (fa:=au (ag (aa 3)) (au (az 4) bi)) (ρ:=Av u b es p.1 1 (-(cy e)) (-(.list (p.2.map iC))) Pn Pn) (aw (ah (af rfl)) (aw (bC rfl) aQ)) rdT rfl kp rfl));generalize Z4++[Cell.lst (([]:bb D).map .fz)]=Z5 at eo B hC;cases qT:tQ T e with
    |cons t r=>rw[qT]at eo B Y;exact rp (cO (fW kv (cF eo)) cK) ⟨_,_,M,rfl,B,N,Y⟩
    |nil=>
     rw[qT]at eo B Y;obtain⟨w0,m0,_⟩:=Fy H Y N;have h5:=B.app (X:=[Cell.lst (([]:bb D).map .fz)]);have hD:(Z5++[Cell.lst (([]:bb D).map .fz)])[Z5.length]?=Bn (.lst (([]:bb D).map .fz)):=bf;have nn:n6 (.list (M.map lD)) (.list [])=-(.bool Py):=by rw[m0];exact kZ rfl
     have no:(bT (aA (ay kR (ay bc (aa 3) (~~~1)) (pC .none)))) (Av u b es p.1 1 (-(cy e)) (-(.list (p.2.map iC))) Pn Pn) Z5=.ok Py Z5:=by
      have i1:bc (dA p.1) (.int 1)=-(.none):=by show bc (.tuple [.tuple ((c7 p.1.ac).map pD),hG p.1.wt,nN p.1.oc]) (.int 1)=_;rw[w0];exact GC (i:=1) rfl
      exact bU (bG (aE (rv:=.fz (.bool Py)) (aE (rv:=.fz .none) (af rfl) aG rfl rfl i1) aG rfl rfl rfl) rfl)
     exact rp (cO (fW kv (cX eo (fW no (aV (cR (x:=.rf 2) (y:=.rf Z5.length) (bC rfl) (dY (ds:=[]) (by fail "ev")) (iV (eS h5.l) (eS hD) nn)))))) cK) ⟨_,_,M,rfl,h5,N,Y⟩
  .rintro ρ Z ⟨I,G,L,rfl,o,hL,hT⟩
   rw[Pp,Sw]at o hL hT;rw[Pp,Sw];rw[U]at o hT;have E:=p7 A es (qh b) he;have w:=Bk A es (qh b) he;have po:=λZ=>Hz A es (by ext) he Z;have pr:=λZ=>PR.of b es Z;have Sl:=kF b es bJ;have fl:=yF b es;obtain⟨w0,_,a0⟩:=Fy E hT hL;have k0:=Hj a0;generalize (ck b bJ es).2=S at*;generalize (ck b bJ es).1=s at*;have i0:bc (dA s) (.int 0)=-(.tuple []):=by show bc (.tuple [.tuple ((c7 s.ac).map pD),hG s.wt,nN s.oc]) (.int 0)=_;rw[k0];exact iG
   have i1:bc (dA s) (.int 1)=-(.none):=by show bc (.tuple [.tuple ((c7 s.ac).map pD),hG s.wt,nN s.oc]) (.int 1)=_;rw[w0];exact GC (i:=1) rfl
   have n0:n6 (.tuple []) (.tuple [])=-(.bool Py):=kZ rfl;refine zB (Z1:=Z) (bU (Eo (a:=Py) (b:=Py) (bG (aE (rv:=.fz (.bool Py)) (aE (rv:=.fz (.tuple [])) (af rfl) aG rfl rfl i0) (fJ aF rfl (Qu _)) rfl rfl n0) rfl) λ_=>bG (aE (rv:=.fz (.bool Py)) (aE (rv:=.fz .none) (af rfl) aG rfl rfl i1) aG rfl rfl rfl) rfl)) (pp cK ?_);obtain⟨l,hl⟩:∃l,l=Z.length:=⟨_,rfl⟩;have p1:=po Z;have Q:=pr Z;have h4:S3 (uU b es Z) 1 [] L S:=o.app;have l3:1+2<Z.length:=(Pu.mp o.s).1;rw[<-hl]at p1 Q l3;generalize uU b es Z=Z1 at p1 Q h4;refine iw (x:=.tp [.rf l,.fz (dA s)]) (Z1:=Z1) (Z2:=Z1) (ρ1:=Av u b es s 1 I G (Bn (.rf l)) (-(dA s))) (qk (xs:=[.fz (bD b),.fz (.list (es.map cy))]) (aw (ah (af rfl)) (aw (ah (af rfl)) aQ)) rfl p1) rfl ?_;obtain⟨C,z,S',rfl⟩:∃C z S',S=C::z::S':=by
    cases S with
    |nil=>rw[QA]at Sl;ext
    |cons C S=>
     cases S with
     |nil=>rw[PN,QA]at Sl;ext
     |cons z S'=>exact⟨_,_,_,rfl⟩
   have nS:=kZ (zi w);have nT:=kZ (Gn E);have shn:sh Z1 (.rf l)=Pn:=Ea (a:=l+1) (n:=S'.length+1) Q.r;refine zB (Z1:=Z1) (fW (aV (cR (x:=.rf l) (y:=.rf 3) (bC rfl) (bC rfl) (z8 (.inl shn) (Q.rd 4) (IR 5 h4.s) nS rfl))) (bU (bG (aE (rv:=.fz (.bool Py)) (af rfl) (af rfl) rfl rfl nT) rfl))) (pp cK ?_);have c0:Z1[l+1]?=Bn (sC C):=Q.c 0 C rfl;have rr:Z1[l]?=Bn (.lst (.rf (l+1)::pX (l+1+1) (S'.length+1))):=Q.r;have ap:=ou (fo:=kx (az 9) (ag (~~~0))) (fe:=ag (pC .none)) (ρ:=Av u b es s 1 I G (Bn (.rf l)) (-(dA s))) (Z:=Z1) (i:=l+1) (x:=.fz .none) (Ma (n:=0) (bC rfl) (ah (d:=.int 0) aG) rfl rr (zZ (i:=0) rfl)) c0 (ah aG) c0 (by have:=fl C rfl;rw[Pp,Pp];ext);refine pp (eJ ap) ?_;clear ap;have g:∀{i:Nat} (c:Cell),i≠l+1->(Z1.set (l+1) c)[i]?=Z1[i]? :=λc h=>Qv (da h);have r2:=(g (.lst ((C.map iC).map .fz++[.fz .none])) (i:=l) (by ext)).trans rr;have r3:∀(m:Nat) w,(z::S')[m]?=Bn w->(Z1.set (l+1) (.lst ((C.map iC).map .fz++[.fz .none])))[l+1+1+m]?=Bn (sC w):=λm w q=>(g _ (by ext)).trans ((by rw[show l+1+1+m=l+1+(m+1) by ext];exact Q.c (m+1) w q));have K:=(g (.lst ((C.map iC).map .fz++[.fz .none])) (i:=3) (by ext)).trans h4.s;generalize Z1.set (l+1) (.lst ((C.map iC).map .fz++[.fz .none]))=Z2 at r2 r3 K⊢;have k:∀{Z:aZ} {X:aZ} {i:Nat} {c:Cell},Z[i]?=Bn c->(Z++X)[i]?=Bn c:=λ{Z X i c} e=>by rw[P9 (Pu.mp e).1];exact e
   have a1:=Dp (fa:=az 9) (ρ:=Av u b es s 1 I G (Bn (.rf l)) (-(dA s))) (bC rfl) r2;have O:(Z2++[Cell.lst (pX (l+1+1) (S'.length+1))])[Z2.length]?=Bn (.lst (pX (l+1+1) (S'.length+1))):=bf;have r3':∀(m:Nat) w,(z::S')[m]?=Bn w->(Z2++[Cell.lst (pX (l+1+1) (S'.length+1))])[l+1+1+m]?=Bn (sC w):=λm w q=>k (r3 m w q);have P:(Z2++[Cell.lst (pX (l+1+1) (S'.length+1))])[3]?=Bn (.lst (.fz (.list (C.map iC))::(pL (z::S')).map .fz)):=k K;generalize Z2++[Cell.lst (pX (l+1+1) (S'.length+1))]=Z3 at a1 O r3' P;generalize Z2.length=j at a1 O;have a2:=Dp (fa:=az 6) (ρ:=Av u b es s 1 I G (Bn (.rf l)) (-(dA s))) (bC rfl) P;have r6:(Z3++[Cell.lst ((pL (z::S')).map .fz)])[Z3.length]?=Bn (.lst ((pL (z::S')).map .fz)):=bf;have O:(Z3++[Cell.lst ((pL (z::S')).map .fz)])[j]?=_:=k O;have r3:∀(m:Nat) w,(z::S')[m]?=Bn w->(Z3++[Cell.lst ((pL (z::S')).map .fz)])[l+1+1+m]?=Bn (sC w):=λm w q=>k (r3' m w q);have K:(Z3++[Cell.lst ((pL (z::S')).map .fz)])[3]?=Bn (.lst ((pL (C::z::S')).map .fz)):=k P;generalize Z3++[Cell.lst ((pL (z::S')).map .fz)]=Z4 at a2 r6 O r3 K;generalize Z3.length=j2 at a2 r6;have p2:=po Z4;have q2:=pr Z4;have K:(uU b es Z4)[3]?=_:=k K;have eT:=STP.qC (zi (dl:=z::S') λx hx=>w x (PD _ hx));have eP:=STP.qC (Kk E w);generalize uU b es Z4=Z5 at p2 q2 K;exact yO (tO (Z1:=Z4) (aV (cR (x:=.rf j) (y:=.rf j2) a1 a2 (z8 (.inl (Ea O)) (v9 O (vO 4 (z::S') _ r3)) (IR 5 r6) eT rfl))) (cR (x:=.tp [.rf Z4.length,.fz (dA s)]) (y:=.tp [.rf 3,.fz (dA s)]) (qk (xs:=[.fz (bD b),.fz (.list (es.map cy))]) (aw (ah (af rfl)) (aw (ah (af rfl)) aQ)) rfl p2) (Dm (xs:=[.rf 3,.fz (dA s)]) (aw (bC rfl) (aw (ah (af rfl)) aQ)) (PB rfl) rfl rfl) (z8 (.inl rfl) (Jy (q2.rd 3)) (Jy (IR 4 K)) eP rfl))) rfl
 obtain⟨v,Z',e,rfl⟩:=key.all;unfold L10.Nc;rw[show([Pw.list (u.map .int)].map SV.fz)=[.fz (.list (u.map .int))]from rfl,e]
end K36
local macro_rules| `(tactic|fail "sc")=> `(tactic|exact⟨rfl,rfl,rfl,by left,rfl,by left,by left⟩)| `(tactic|fail "me")=> `(tactic|first
 |exact .head _
 |(apply List.Mem.tail;fail "me"))
local macro_rules| `(tactic|fail "cm")=> `(tactic|first
 |change L3.eO
 |change L3.mj
 |change L3.FW
 |change L3.KK
 |change L3.sk
 |change L3.n9
 |change L3.mL
 |change L3.GN
 |change L3.nv)
local macro_rules| `(tactic|fail "sp")=> `(tactic|first
 |fail "cm"
 |change L3.bO
 |change L3.jC
 |change L3.GG
 |change L3.AB
 |change L3.mH
 |change L3.IG
 |change L3.HX
 |change L3.BH
 |change L3.AN
 |change L3.Hw
 |change L3.kW
 |change L3.kB
 |change L3.Bj
 |change L3.k9
 |change L3.Dw
 |change L3.GV
 |change L3.Me
 |change L3.HQ
 |change L9.zV
 |change L10.A3
 |change L3.AB)
local macro_rules| `(tactic|fail "eo")=> `(tactic|first
 |change L3.aj
 |change L3.aM
 |(exists L3.aK);(·fail "sp");(·fail "eo");(·fail "eo")
 |change L3.io
 |(exists L3.mf);(·fail "ao")
 |(exists L3.gj);(·fail "sp");(·fail "ao")
 |(exists L3.oS);(·fail "ao")
 |(exists L3.jM);(·fail "ao")
 |(exists L3.Du);(·fail "eo")
 |change L3.jE
 |change L3.oX
 |(exists L3.JC);(·fail "tt");(·fail "eo");(·fail "eo")
 |(exists L3.ML);(·fail "sp");(·fail "eo");(·fail "oo");(·fail "oo")
 |(exists L3.xL);(·fail "sp");(·fail "sp");(·fail "eo");(·fail "eo");(·fail "eo")
 |(exists L3.Dr);(·fail "eo");(·fail "eo")
 |(exists L3.Gg);(·assumption))
local macro_rules| `(tactic|fail "ao")=> `(tactic|first
 |(exists L3.aH);(·fail "eo");(·fail "ao")
 |change L3.aX)
local macro_rules| `(tactic|fail "tt")=> `(tactic|first
 |(exists L3.bt);(exists L3.aK);(·fail "cm");(·fail "eo");(·fail "eo")
 |(exists L3.bt);(exists L3.xL);(·fail "cm");(·fail "cm");(·fail "eo");(·fail "eo");(·fail "eo")
 |(exists L3.ni);(·fail "tt");(·fail "tt")
 |(exists L3.Ep);(·fail "tt");(·fail "tt")
 |(exists L3.IQ);(·fail "tt")
 |(exists L3.JS);(·fail "eo")
 |change L3.fZ)
local macro_rules| `(tactic|fail "gg")=> `(tactic|first
 |change L3.bu
 |(exists L3.gu);(·fail "gg");(·fail "gg")
 |change L3.re
 |(exists L3.rc);(·fail "gg")
 |change L10.cC
 |(exists L10.fS);(·fail "gg");(·fail "gg")
 |change L10.nh
 |(exists L10.nw);(·fail "gg"))
local macro_rules| `(tactic|fail "io")=> `(tactic|first
 |(exists L3.iK);(·fail "ao")
 |(exists L3.ij);(·fail "eo")
 |(exists L3.KM);(·fail "ao")
 |change L3.qK
 |(exists L10.sE);(·fail "io")
 |(exists L10.uS);(·fail "es"))
local macro_rules| `(tactic|fail "oo")=> `(tactic|first
 |(exists L3.F4);(·fail "eo"))
local macro_rules| `(tactic|fail "es")=> `(tactic|first
 |(exists L10.aB);(·fail "eo")
 |change L10.bj
 |(exists L10.xg);(·fail "es");(·fail "es")
 |(exists L10.eU);(·fail "sp");(·fail "es");(·fail "es")
 |(exists L10.gY);(·assumption);(·fail "me");(·fail "es")
 |(exists L10.jg);(·fail "as")
 |(exists L10.tX);(·fail "as")
 |(exists L10.Ba);(·fail "as")
 |(exists L10.mI);(·fail "es");(·fail "es")
 |(exists L10.pZ);(·fail "as")
 |(exists L10.zz);(·fail "es");(·fail "es")
 |(exists L10.AY);(·assumption);(·fail "es");(·fail "as")
 |(exists L10.yx);(·fail "es")
 |(exists L10.wJ);(·fail "es")
 |(exists L10.Dh);(·fail "es");(·fail "es")
 |(exists L10.Hi);(·fail "es");(·fail "es")
 |(exists L10.zN);(·fail "sp");(·fail "as")
 |(exists L10.pY);(·fail "es")
 |(exists L10.wf);(·fail "es");(·fail "es")
 |(exists L10.xn);(·fail "as")
 |(exists L10.Kt);(·fail "ts");(·fail "es");(·fail "es")
 |(exists L10.G1);(·assumption);(·fail "as")
 |(exists L10.FC);(·fail "es"))
local macro_rules| `(tactic|fail "as")=> `(tactic|first
 |(exists L10.bx);(·fail "es");(·fail "as")
 |change L10.ei)
local macro_rules| `(tactic|fail "ts")=> `(tactic|first
 |(exists L10.dW);(exists L10.eU);(·fail "cm");(·fail "es");(·fail "es")
 |(exists L10.gI);(·fail "tt")
 |(exists L10.lF);(·fail "ts");(·fail "ts")
 |(exists L10.qM);(·fail "ts");(·fail "ts")
 |(exists L10.wB);(·fail "ts")
 |(exists L10.DG);(·fail "es"))
local macro_rules| `(tactic|fail "so")=> `(tactic|first
 |(exists L3.bA);(·fail "so");(·fail "so")
 |(exists L3.j8);(·fail "eo");(·fail "gg")
 |(exists L3.xB);(·fail "tt");(·fail "so");(·fail "so")
 |(exists L3.ip);(·fail "eo")
 |(exists L3.Bt);(·fail "eo")
 |change L3.nJ
 |(exists L3.vp);(·fail "io");(·fail "gg");(·fail "so")
 |(exists L10.bE);(·fail "so");(·fail "so")
 |(exists L10.gU);(·fail "es");(·fail "gg")
 |(exists L10.iX);(·fail "ts");(·fail "so");(·fail "so")
 |(exists L10.fX);(·fail "es")
 |(exists L10.fQ);(·fail "es")
 |(exists L10.F6);(·fail "es");(·fail "es");(·fail "es")
 |(exists L10.vV);(·assumption);(·fail "me");(·fail "es");(·fail "es")
 |change L10.gO
 |(exists L10.vG);(·fail "io");(·fail "gg");(·fail "so")
 |change L10.Eb)
local macro_rules| `(tactic|fail "to")=> `(tactic|first
 |exact L2.bI
 |exact L2.eN (by assumption)
 |exact L2.mB (by assumption)
 |exact L3.om (by assumption)
 |exact L3.nc (by assumption)
 |exact L9.vt
 |exact L3.j4
 |exact L3.vS
 |exact L2.Kv
 |exact L2.x8
 |exact L2.JK
 |exact L3.pS
 |exact L2.KC
 |exact L2.D0
 |exact L2.LH
 |exact L2.mZ
 |exact L2.NL
 |exact L2.KG
 |exact L2.EH
 |exact L2.El
 |exact L2.gM
 |exact L2.eY
 |exact L2.nj
 |exact L3.Cm
 |exact L2.gn
 |exact L10.uw
 |exact L3.FR
 |exact L2.EG
 |exact aad
 |exact L2.mN
 |exact L2.nz
 |exact L2.yD
 |exact L2.Jw
 |exact L2.iq
 |exact L2.JY
 |exact L3.MN
 |exact L10.K8
 |change QV
 |change Rg
 |change Rh
 |change PySem.F.slot_list_insert
 |change PySem.F.type_list_insert
 |change PySem.F.slot_list_extend
 |change PySem.F.type_list_extend
 |change T9
 |change T2
 |change Wk
 |exact L2.Ch rfl
 |exact L3.yo rfl
 |exact L10.sM rfl
 |exact L10.sA rfl
 |exact L10.yT rfl
 |rfl)
local macro_rules| `(tactic|fail "pe")=> `(tactic|first
 |(exists L2.pv);(·rfl);(·(first|exact a6 rfl|exact a7 (a6 rfl)|exact a7 (a7 rfl)));(·decide);(·decide)
 |change L2.aN
 |(exists L2.cA);(·fail "to");(·fail "pe");(·fail "pe");(·exact λ_ _=>rfl)
 |change L2.ix
 |(exists L2.j9);(·fail "to");(·fail "pe");(·fail "pe")
 |(exists L2.Bb);(·assumption);(·fail "pe");(·fail "pe");(·exact λ_ _=>rfl)
 |(exists L2.gf);(·assumption);(·assumption);(·fail "pa");(·decide);(·rfl);(·decide);(·rfl);(·rfl)
 |(exists L2.jU);(·fail "pa")
 |change L2.jK
 |(exists L2.jX);(·fail "pa")
 |(exists L2.cI);(·fail "to");(·rfl);(·assumption);(·fail "to");(·fail "pa");(·decide);(·decide);(·rfl);(·rfl)
 |(exists L2.d4);(·fail "to");(·rfl);(·assumption);(·fail "to");(·fail "pa");(·decide);(·decide);(·rfl);(·rfl)
 |(exists L2.GR);(·rfl);(·assumption);(·(first|rfl|exact⟨_,rfl⟩));(·decide)
 |change L2.oZ
 |(exists L2.hV);(·fail "to");(·fail "pe");(·fail "pe");(·(first|rfl|with_unfolding_all rfl))
 |(apply L2.jT);(·fail "pe");(·rfl)
 |(apply L2.oW);(·fail "to");(·fail "to");(·fail "to");(·fail "to");(·fail "pe");(·fail "pa");(·rfl);(·rfl);(·decide);(·rfl);(·rfl)
 |(exists L2.xD);(·fail "pt");(·fail "pe");(·fail "pe")
 |(apply L2.Gv);(·fail "to");(·fail "to");(·fail "to");(·fail "to");(·fail "pe");(·rfl);(·decide)
 |(exists L2.wb);(·fail "pe")
 |(exists L2.v5);(·fail "pe");(·fail "pe")
 |(apply L2.ro);(·fail "to");(·fail "pe");(·fail "po");(·fail "po")
 |(apply L2.FJ);(·fail "pe");(·fail "pe");(·exact⟨rfl,rfl,rfl,rfl⟩)
 |(apply L10.Nd);(·assumption);(·fail "to");(·assumption);(·fail "pe");(·fail "pa");(·decide);(·rfl);(·rfl);(·rfl)
 |(apply L10.FU);(·assumption);(·fail "to");(·assumption);(·fail "pe");(·decide);(·rfl)
 |(apply L10.Nj);(·assumption);(·fail "to");(·assumption);(·fail "pa");(·decide);(·rfl);(·decide);(·rfl);(·rfl)
 |(apply L10.Bw);(·rfl);(·rfl);(·assumption);(·fail "pa");(·rfl))
local macro_rules| `(tactic|fail "pa")=> `(tactic|first
 |(exists L2.aq);(·fail "pe");(·fail "pa");(·rfl)
 |change L2.aD)
local macro_rules| `(tactic|fail "pt")=> `(tactic|first
 |(exists L2.bq);(·fail "to");(·fail "pe");(·fail "pe");(·(first|rfl|with_unfolding_all rfl))
 |(exists L2.yK);(·fail "pt")
 |(exists L2.LN);(·fail "pc");(·(first|rfl|with_unfolding_all rfl))
 |(exists L2.D3);(·fail "to");(·fail "to");(·fail "pe");(·fail "pe");(·fail "pe");(·rfl)
 |(exists L2.PW.pt);(·fail "pw")
 |(exists L2.vd);(·fail "pe");(·(intro _;rfl)))
local macro_rules| `(tactic|fail "pw")=> `(tactic|first
 |(exists L2.gW);(·fail "pt")
 |(exists L2.i8);(·fail "pt");(·fail "pw")
 |(exists L2.nU);(·fail "pt")
 |(exists L2.uc);(·fail "pt");(·fail "pw"))
local macro_rules| `(tactic|fail "pc")=> `(tactic|first
 |(exists L2.Kw);(·assumption);(·fail "pe");(·fail "pe"))
local macro_rules| `(tactic|fail "pg")=> `(tactic|first
 |(exists L2.a8);(·(first|assumption|left));(·rfl);(·(first|exact a6 rfl|exact a7 rfl|assumption|rfl));(·(first|exact a6 rfl|exact a7 rfl|assumption|rfl))
 |(exists L2.cr);(·fail "pg");(·fail "pg");(·rfl)
 |change L2.ib
 |(apply L2.j3);(·rfl);(·fail "pg");(·rfl);(·rfl))
local macro_rules| `(tactic|fail "pi")=> `(tactic|first
 |(exists L2.fM);(·rfl);(·assumption);(·fail "pa");(·rfl)
 |(apply L3.KH);(·rfl);(·assumption);(·fail "pa");(·rfl);(·rfl)
 |(apply L3.fD);(·fail "pe"))
local macro_rules| `(tactic|fail "po")=> `(tactic|first
 |change L2.uP
 |(exists L2.vv);(·fail "pe"))
local macro_rules| `(tactic|fail "te")=> `(tactic|first
 |(exists L2.aI);(·fail "te")
 |change L2.fu
 |(exists L2.ar);(·fail "te");(·fail "te")
 |(exists L2.i7);(·(first|assumption|left));(·rfl);(·(first|exact a6 rfl|exact a7 rfl|assumption|rfl));(·fail "pe");(·rfl);(·(first|exact a6 rfl|exact a7 rfl|assumption|rfl))
 |(exists L2.gD);(·fail "pe");(·rfl)
 |(exists L2.dk);(·fail "pe")
 |(exists L2.iI);(·fail "pt");(·fail "te");(·fail "te")
 |(exists L2.nQ);(·fail "to");(·rfl);(·fail "pi");(·fail "pg");(·fail "te");(·(intro _;rfl))
 |(apply L2.zW);(·fail "pe");(·fail "pe");(·rfl)
 |(exists L2.Hu);(·assumption);(·fail "pe");(·fail "pe");(·fail "pe");(·rfl)
 |(exists L2.sK);(·fail "pe");(·fail "pg");(·rfl);(·rfl);(·rfl)
 |change L2.Hs)
local macro_rules| `(tactic|fail "ok")=> `(tactic|(intros;refine L3.GB (by fail "so") ?_;first|(apply L2.ar);(·fail "te");(·fail "te")|(apply L2.aI);(·fail "te")))| `(tactic|fail "os")=> `(tactic|(intros;refine L3.CQ (by fail "so") ?_;first|(apply L2.ar);(·fail "te");(·fail "te")|(apply L2.aI);(·fail "te")))
namespace K36
open PySem L2 L3 STP
def top(i:Nat):Sr:=PySem.Challenge.pw_chordbed_k36_whole_downs_and_ups_in_turn.main.body.getD i (.Pass ⟨0,0,0,0⟩)
def fb:Sr->bb Sr
 |.For _ _ b _ _=>b
 |.If _ b _ _=>b
 |_=>[]
def ss:QK->QK
 |.Subscript _ v _=>v
 |e=>e
def lp:QK->Pos
 |.List _ p=>p
 |_=>⟨0,0,0,0⟩
def fI:Sr->QK
 |.For _ i _ _ _=>i
 |_=>.Name "" ⟨0,0,0,0⟩
def nP:Sr->Pos
 |.Assign [.Name _ p] _ _=>p
 |_=>⟨0,0,0,0⟩
def sv:QK->QK
 |.Subscript v _ _=>v
 |e=>e
def le:QK->bb QK
 |.List l _=>l
 |_=>[]
def bl:QK->QK
 |.BinOp a _ _ _=>a
 |e=>e
def dK:QK->bb (bg QK)
 |.Dict k _ _=>k
 |_=>[]
def dV:QK->bb QK
 |.Dict _ v _=>v
 |_=>[]
section
variable{P:Qc}{w:Qt}{K:Po}{mg:Str->bg Pq}{base:Heap}{f:Pz}{Z:Q6}
theorem xx(F:S9 K "layer_of" "layer_of" (top 4) f Z)(d:mg "max"=Pn):FnOk P w K mg base dL 1 f Z ["standing"] (mK K 1 dQ):=lI (N:=["standing"]) (g:=lX) F (by fail "sc") rfl rfl rfl λl A a s H E nd h b j e=>CQ (bA (by fail "so")
   (ip (gj L10.A3 (aH (fw rfl rfl (ij (aK bO aj aM)) (rc (gu bu (gu bu re))) (bt (aK eO (aK bO aj aM) io)) (aK bO aj aM)) aX)))) (ar (by fail "te")
   (aI (dk (L10.Bw rfl rfl d (aq (eG ["key","act"] [] rfl (fD (cA bI (pv 0) aN (λ_ _=>rfl))) (λ_ _ _ _=>(j3 rfl (cr (a8 (i:=0) (show QQ (["key","act"]:bb Str) by left) rfl (a6 rfl)) (cr (a8 (i:=1) (show QQ (["key","act"]:bb Str) by left) rfl (a6 rfl)) ib)))) (λ_ _ _ _=>(jn (bq (eN b) (cA bI (pv 1) aN (λ_ _=>rfl)) ix (bX _)))) (λ_ _ _ _=>(cA bI (pv 1) aN (λ_ _=>rfl))) trivial rfl) aD)))))
theorem u0(F:S9 K "looked_up" "looked_up" (top 8) f Z):FnOk P w K mg base dL 1 f Z ["bed","layer","key"] (mK K 3 iQ):=lI (N:=["bed","layer","key","meaning"]) (g:=kA) F (by fail "sc") rfl rfl rfl λi A a s H E nd e d h b=>CQ (bA (by fail "so")
   (bA (by fail "so")
   (ip aj))) (ar (by fail "te")
   (ar (by fail "te")
   (aI (dk (pv 3)))))
theorem qS(F:S9 K "chords_over" "chords_over" (top 9) f Z)(d:mg "all"=Pn):FnOk P w K mg base dL 1 f Z ["bed","keys"] (mK K 2 bK):=lI (N:=["bed","keys"]) (g:=i6) F (by fail "sc") rfl rfl rfl λl A a s H E nd h e j b=>CQ (ip (fw rfl rfl (ij (aK bO aj aM)) bu (JS (gj Dw (aH (fw rfl rfl (ij aj) bu fZ (aK n9 aj (aK bO aj aM))) aX))) aj)) (aI (dk (eG ["chord"] [("keys",1)] rfl (fD (cA bI (pv 0) aN (λ_ _=>rfl))) (λ_ _ _ _=>(a8 (i:=0) (show QQ (["chord","keys"]:bb Str) by left) rfl (a7 rfl))) (λ_ _ _ _=>(jn (vd (cI (yo rfl) rfl d JY (aq (eG ["key"] [("chord",0)] rfl (fD (pv 1)) (λ_ _ _ _=>(a8 (i:=0) (show QQ (["key","chord"]:bb Str) by left) rfl (a6 rfl))) (λ_ _ _ _=>eZ) (λ_ _ _ _=>(hV (om b) (pv 0) (cA bI (pv 1) aN (λ_ _=>rfl)) (by with_unfolding_all rfl))) ⟨⟨rfl,rfl,a6 rfl⟩,trivial⟩ rfl) aD))))) (λ_ _ _ _=>(pv 0)) ⟨⟨rfl,rfl,a6 rfl⟩,trivial⟩ rfl)))
theorem tq(F:S9 K "chord_acts" "chord_acts" (top 10) f Z)(n:mg "list"=Pn)(p:mg "sorted"=Pn)(o:mg "len"=Pn){b:Pz}(l:mg "NONE"=Bn (.ref b))(m:∀O H,DV O K H (.ref b) (.tuple [(.str "none")])):FnOk P w K mg base dL 1 f Z ["bed","keys"] (mK K 2 fV):=lI (N:=["bed","keys","chord"]) (g:=jx) F (by fail "sc") rfl rfl rfl λq A a s H E nd h e j d=>CQ (bA (by fail "so")
   (ip (fw rfl rfl (ij aj) bu fZ (aK bO (aK bO (aK bO aj aM) aM) aj)))) (ar (by fail "te")
   (aI (dk (eG ["key"] [("bed",0)] rfl (fD (pv 1)) (λ_ _ _ _=>(a8 (i:=0) (show QQ (["key","bed"]:bb Str) by left) rfl (a6 rfl))) (λ_ _ _ _=>eZ) (λ_ _ _ _=>(cA bI (cA bI (cA bI (pv 1) aN (λ_ _=>rfl)) aN (λ_ _=>rfl)) (pv 0) (λ_ _=>rfl))) ⟨⟨rfl,rfl,a6 rfl⟩,trivial⟩ rfl))))
theorem vF(F:S9 K "_law_cell" "_law_cell" (top 12) f Z)(b:mg "len"=Pn):FnOk P w K mg base dL 1 f Z ["_law_script","_law_k"] (mK K 2 bH):=lI (N:=["_law_script","_law_k"]) (g:=oV) F (by fail "sc") rfl rfl rfl λj A a s H E nd h e i d=>CQ (ip (JC (bt (aK FW aj (gj kW (aH aj aX)))) (aK bO aj aj) aM)) (aI (dk (xD (bq JK (pv 1) (cI gM rfl b mN (aq (pv 0) aD)) (bX _)) (cA bI (pv 0) (pv 1) (λ_ _=>rfl)) aN)))
theorem wx(F:S9 K "_law_draw" "_law_draw" (top 13) f Z):FnOk P w K mg base dL 1 f Z ["_law_cell_here","_law_salt","_law_many"] (mK K 3 bh):=lI (N:=["_law_cell_here","_law_salt","_law_many","_law_number"]) (g:=kM) F (by fail "sc") rfl rfl rfl (by delta kM;fail "os")
theorem pP(F:S9 K "_law_meaning" "_law_meaning" (top 14) f Z)(b:hW P w K mg base 1 "_law_draw" ["_law_cell_here","_law_salt","_law_many"] 3 bh)(a:mg "max"=Pn):FnOk P w K mg base dL 2 f Z ["_law_cell_here","_law_layer","_law_layers"] (mK K 3 eD):=lI (N:=["_law_cell_here","_law_layer","_law_layers","_law_letter","_law_other","_law_kind"]) (g:=eA) F (by fail "sc") rfl rfl rfl (by delta eA;fail "os")
theorem se(F:S9 K "_law_chords" "_law_chords" (top 15) f Z)(o:hW P w K mg base 1 "_law_cell" ["_law_script","_law_k"] 2 bH)(e:hW P w K mg base 1 "_law_draw" ["_law_cell_here","_law_salt","_law_many"] 3 bh)(h:mg "range"=Pn)(d:mg "len"=Pn)(m:mg "tuple"=Pn):FnOk P w K mg base dL 2 f Z ["_law_script","_law_at","_law_first"] (mK K 3 gF):=lI (N:=["_law_script","_law_at","_law_first","_law_some","_law_found","_law_k","_law_cell_here","_law_keys"]) (g:=gr) F (by fail "sc") rfl rfl rfl λp A a s H E nd b l n j=>CQ (bA (j8 (fw rfl rfl (iK (aH (gj kW (aH aj aX)) aX)) bu (bt (aK eO (aK bO (aK bO aj aj) aM) io)) aj) bu)
   (bA (by fail "so")
   (bA (vp (iK (aH aM aX)) bu (bA (by fail "so")
   (bA (j8 (gj kB (aH (fw rfl rfl (ij aj) bu (bt (aK sk (mf (aH (aK jC aj (aK mH aM aj)) (aH aM (aH aM aX)))) aM)) aj) aX)) bu)
   (xB (ni (bt (aK sk (gj kW (aH aj aX)) aM)) (ni (bt (aK sk (mf (aH aj (aH aM (aH aM aX)))) aM)) (bt (aK mL aj (qD rfl rfl qK bu fZ (aK bO aj aM)))))) (by fail "so") nJ))))
   (by fail "so")))) (ar (vC (i:=3) ["_law_k"] [("_law_first",2)] nd rfl rfl rfl (fM rfl h (aq (cI gM rfl d mN (aq (pv 2) aD)) aD)) (λ_ _ _ _=>(a8 (i:=0) (show QQ (["_law_k","_law_first"]:bb Str) by left) rfl (a6 rfl))) (λ_ _ _ _=>(jn (bq (eN l) (cA bI (cA bI (pv 1) (pv 0) (λ_ _=>rfl)) aN (λ_ _=>rfl)) ix (bX _)))) (λ_ _ _ _=>(pv 0)) ⟨⟨rfl,rfl,a6 rfl⟩,trivial⟩ rfl)
   (ar (by fail "te")
   (ar (nQ VD.never rfl (fM rfl h (aq aN aD)) (a8 (i:=5) nd rfl (a6 rfl)) (ar (by fail "te")
   (ar (i7 (i:=7) nd rfl (a6 rfl) (d4 eY rfl m nz (aq (eG ["_law_key"] [("_law_cell_here",6)] rfl (fD (pv 3)) (λ_ _ _ _=>(a8 (i:=0) (show QQ (["_law_key","_law_cell_here"]:bb Str) by left) rfl (a6 rfl))) (λ_ _ _ _=>(jn (bq x8 (gf e b (aq (j9 j4 (pv 1) (j9 pS aN (pv 0))) (aq aN (aq aN aD)))) aN (bX _)))) (λ_ _ _ _=>(pv 0)) ⟨⟨rfl,rfl,a6 rfl⟩,trivial⟩ rfl) aD)))
   (aI (iI (PW.pt (i8 (bq x8 (cI gM rfl d mN (aq (pv 7) aD)) aN (bX _)) (i8 (bq x8 (gf e b (aq (pv 6) (aq aN (aq aN aD)))) aN (bX _)) (gW (bq (nc j) (pv 7) (eG ["_law_chord"] [] rfl (fD (pv 4)) (λ_ _ _ _=>(a8 (i:=0) (show QQ (["_law_chord"]:bb Str) by left) rfl (a6 rfl))) (λ_ _ _ _=>eZ) (λ_ _ _ _=>(cA bI (pv 0) aN (λ_ _=>rfl))) trivial rfl) (by with_unfolding_all rfl)))))) (aI (by fail "te")) fu)))))
   (aI (by fail "te")))))
theorem wM(F:S9 K "_law_bed" "_law_bed" (top 16) f Z)(j:hW P w K mg base 1 "_law_cell" ["_law_script","_law_k"] 2 bH)(p:hW P w K mg base 1 "_law_draw" ["_law_cell_here","_law_salt","_law_many"] 3 bh)(e:hW P w K mg base 2 "_law_meaning" ["_law_cell_here","_law_layer","_law_layers"] 3 eD)(o:hW P w K mg base 2 "_law_chords" ["_law_script","_law_at","_law_first"] 3 gF)(d:mg "range"=Pn)(h:mg "tuple"=Pn):FnOk P w K mg base dL 3 f Z ["_law_script","_law_most"] (mK K 2 jH):=lI (N:=["_law_script","_law_most","_law_cell_here","_law_keys","_law_layers","_law_rows","_law_layer","_law_cells"]) (g:=jL) F (by fail "sc") rfl rfl rfl λq A a s H E nd b m n l=>CQ (bA (by fail "so")
   (bA (by fail "so")
   (bA (by fail "so")
   (bA (j8 (jM aX) bu)
   (bA (vp (iK (aH aj aX)) bu (bA (j8 (fw rfl rfl (iK (aH aj aX)) bu fZ (mf (aH aj (aH (aK jC (aK jC aM (aK mH aj aj)) aj) aX)))) bu)
   (Bt (Du (gj kB (aH (fw rfl rfl (ij aj) bu fZ (mf (aH aj (aH aj (aH aj aX))))) aX))))))
   (by fail "so")))))) (ar (by fail "te")
   (ar (by fail "te")
   (ar (by fail "te")
   (ar (i7 (i:=5) nd rfl (a6 rfl) (jX aD))
   (ar (nQ VD.never rfl (fM rfl d (aq (pv 4) aD)) (a8 (i:=6) nd rfl (a7 rfl)) (ar (vC (i:=7) ["_law_key"] [("_law_script",0),("_law_keys",3),("_law_layer",6)] nd rfl rfl rfl (fM rfl d (aq (pv 3) aD)) (λ_ _ _ _=>(a8 (i:=0) (show QQ (["_law_key","_law_script","_law_keys","_law_layer"]:bb Str) by left) rfl (a6 rfl))) (λ_ _ _ _=>eZ) (λ_ _ _ _=>(gf j b (aq (pv 1) (aq (j9 j4 (j9 j4 aN (j9 pS (pv 2) (pv 3))) (pv 0)) aD)))) ⟨⟨rfl,rfl,a6 rfl⟩,⟨⟨rfl,rfl,a6 rfl⟩,⟨⟨rfl,rfl,a6 rfl⟩,trivial⟩⟩⟩ rfl)
   (aI (gD (oW QV Rg Rh gn (pv 5) (aq (d4 eY rfl h nz (aq (eG ["_law_one"] [("_law_layer",6),("_law_layers",4)] rfl (fD (pv 7)) (λ_ _ _ _=>(a8 (i:=0) (show QQ (["_law_one","_law_layer","_law_layers"]:bb Str) by left) rfl (a6 rfl))) (λ_ _ _ _=>eZ) (λ_ _ _ _=>(gf e b (aq (pv 0) (aq (pv 1) (aq (pv 2) aD))))) ⟨⟨rfl,rfl,a6 rfl⟩,⟨⟨rfl,rfl,a6 rfl⟩,trivial⟩⟩ rfl) aD)) aD))))))
   (aI (by fail "te")))))))
theorem kr(F:S9 K "_law_read_meaning" "_law_read_meaning" (top 18) f Z)(a:mg "max"=Pn):FnOk P w K mg base dL 1 f Z ["_law_number","_law_layer","_law_layers"] (mK K 3 dC):=lI (N:=["_law_number","_law_layer","_law_layers","_law_letter","_law_other"]) (g:=cJ) F (by fail "sc") rfl rfl rfl (by delta cJ;fail "os")
theorem oG(F:S9 K "_law_read_bed" "_law_read_bed" (top 19) f Z)(n:hW P w K mg base 1 "_law_read_meaning" ["_law_number","_law_layer","_law_layers"] 3 dC)(d:mg "range"=Pn)(h:mg "tuple"=Pn)(j:mg "len"=Pn):FnOk P w K mg base dL 2 f Z ["_law_number","_law_most_keys","_law_most_layers","_law_most_wait"] (mK K 4 fx):=lI (N:=["_law_number","_law_most_keys","_law_most_layers","_law_most_wait","_law_keys","_law_layers","_law_wait","_law_rows","_law_layer","_law_row","_law_key","_law_chords_here","_law_k","_law_some"]) (g:=fy) F (by fail "sc") rfl rfl rfl λo A a s H E nd l b m e=>CQ (bA (by fail "so")
   (bA (by fail "so")
   (bA (by fail "so")
   (bA (by fail "so")
   (bA (by fail "so")
   (bA (by fail "so")
   (bA (by fail "so")
   (bA (by fail "so")
   (bA (vp (iK (aH aM aX)) bu (bA (j8 (gj kB (aH (fw rfl rfl (iK (aH aj aX)) bu (ni (bt (aK eO (aK BH (aK AN aj aj) aM) aM)) (bt (aK eO (aK bO (aK bO (aK bO aj aM) aj) aM) io))) aj) aX)) bu)
   (bA (xB (ni (bt (aK sk (gj kW (aH aj aX)) aM)) (bt (aK mL aj (qD rfl rfl qK bu fZ (aK bO aj aM))))) (by fail "so") nJ)
   (by fail "so"))))
   (by fail "so")))))))))) (ar (by fail "te")
   (ar (by fail "te")
   (ar (by fail "te")
   (ar (by fail "te")
   (ar (by fail "te")
   (ar (by fail "te")
   (ar (by fail "te")
   (ar (by fail "te")
   (ar (nQ VD.never rfl (fM rfl d (aq aN aD)) (a8 (i:=12) nd rfl (a6 rfl)) (ar (i7 (i:=13) nd rfl (a6 rfl) (d4 eY rfl h nz (aq (eG ["_law_key"] [("_law_number",0),("_law_rows",7)] rfl (fM rfl d (aq (pv 4) aD)) (λ_ _ _ _=>(a8 (i:=0) (show QQ (["_law_key","_law_number","_law_rows"]:bb Str) by left) rfl (a6 rfl))) (λ_ _ _ _=>(jn (PW.pt (i8 (bq (eN b) (j9 El (j9 EH (pv 1) (pv 0)) aN) aN (bX _)) (gW (bq (eN b) (cA bI (cA bI (cA bI (pv 2) aN (λ_ _=>rfl)) (pv 0) (λ_ _=>rfl)) aN (λ_ _=>rfl)) ix (bX _))))))) (λ_ _ _ _=>(pv 0)) ⟨⟨rfl,rfl,a6 rfl⟩,⟨⟨rfl,rfl,a6 rfl⟩,trivial⟩⟩ rfl) aD)))
   (ar (iI (PW.pt (i8 (bq x8 (cI gM rfl j mN (aq (pv 13) aD)) aN (bX _)) (gW (bq (nc e) (pv 13) (eG ["_law_chord"] [] rfl (fD (pv 11)) (λ_ _ _ _=>(a8 (i:=0) (show QQ (["_law_chord"]:bb Str) by left) rfl (a6 rfl))) (λ_ _ _ _=>eZ) (λ_ _ _ _=>(cA bI (pv 0) aN (λ_ _=>rfl))) trivial rfl) (by with_unfolding_all rfl))))) (aI (by fail "te")) fu)
   (aI (by fail "te")))))
   (aI (by fail "te")))))))))))
theorem lL(F:S9 K "_law_read_events" "_law_read_events" (top 20) f Z)(i:mg "range"=Pn):FnOk P w K mg base dL 1 f Z ["_law_number","_law_keys"] (mK K 2 cP):=lI (N:=["_law_number","_law_keys","_law_found","_law_many","_law_k","_law_pick"]) (g:=dI) F (by fail "sc") rfl rfl rfl λj A a s H E nd e d h b=>CQ (bA (by fail "so")
   (bA (by fail "so")
   (bA (by fail "so")
   (bA (by fail "so")
   (ip aj))))) (ar (by fail "te")
   (ar (by fail "te")
   (ar (by fail "te")
   (ar (by fail "te")
   (aI (dk (pv 2)))))))
theorem rG(F:S9 K "_law_events" "_law_events" (top 17) f Z)(i:hW P w K mg base 1 "_law_draw" ["_law_cell_here","_law_salt","_law_many"] 3 bh):FnOk P w K mg base dL 2 f Z ["_law_script","_law_at","_law_keys"] (mK K 3 ff):=lI (N:=["_law_script","_law_at","_law_keys","_law_found","_law_cell_here","_law_pick"]) (g:=gx) F (by fail "sc") rfl rfl rfl λj A a s H E nd e d h b=>CQ (bA (by fail "so")
   (bA (by fail "so")
   (ip aj))) (ar (by fail "te")
   (ar (by fail "te")
   (aI (dk (pv 3)))))
theorem sZ(F:S9 K "_law_given" "_law_given" (top 21) f Z)(b:hW P w K mg base 3 "_law_bed" ["_law_script","_law_most"] 2 jH)(i:hW P w K mg base 1 "_law_cell" ["_law_script","_law_k"] 2 bH)(d:hW P w K mg base 2 "_law_read_bed" ["_law_number","_law_most_keys","_law_most_layers","_law_most_wait"] 4 fx)(h:hW P w K mg base 1 "_law_read_events" ["_law_number","_law_keys"] 2 cP)(e:hW P w K mg base 2 "_law_events" ["_law_script","_law_at","_law_keys"] 3 ff)(a:mg "abs"=Pn):FnOk P w K mg base dL 4 f Z ["_law_script"] (mK K 1 gZ):=lI (N:=["_law_script","_law_bed_here"]) (g:=gb) F (by fail "sc") rfl rfl rfl (by delta gb;fail "os")
theorem vH(F:S9 K "_law_kept" "_law_kept" (top 22) f Z)(d:mg "sorted"=Pn)(e:mg "set"=Pn)(j:mg "list"=Pn)(h:mg "len"=Pn):FnOk P w K mg base dL 1 f Z ["_law_standing","_law_truly_here"] (mK K 2 gL):=lI (N:=["_law_standing","_law_truly_here","_law_acts","_law_waiting","_law_once","_law_keys"]) (g:=kq) F (by fail "sc") rfl rfl rfl λo A a s H E nd m b n l=>CQ (bA (j8 aj (rc (gu bu (gu bu (gu bu re)))))
   (bA (j8 (fw rfl rfl (ij aj) (rc (gu bu (gu bu re))) fZ aj) bu)
   (bA (xB (bt (aK mj aj (L10.ue (aH aj aX)))) (ip oX) nJ)
   (bA (xB (bt (aK nv aj jE)) (j8 (aK jC aj (gj Bj (aH (aK bO aj aM) aX))) bu) nJ)
   (ip (Dr (aK eO (gj k9 (aH aj aX)) (gj k9 (aH aj aX))) (aK eO (L10.GY (aH aj aX)) (gj kW (aH aj aX))))))))) (ar (sK (pv 0) (j3 rfl (cr (a8 (i:=2) nd rfl (a6 rfl)) (cr (a8 (i:=3) nd rfl (a6 rfl)) (cr (a8 (i:=4) nd rfl (a6 rfl)) ib)))))
   (ar (vC (i:=5) ["_law_key","_law_act"] [] nd rfl rfl rfl (fD (pv 2)) (λ_ _ _ _=>(j3 rfl (cr (a8 (i:=0) (show QQ (["_law_key","_law_act"]:bb Str) by left) rfl (a6 rfl)) (cr (a8 (i:=1) (show QQ (["_law_key","_law_act"]:bb Str) by left) rfl (a6 rfl)) ib)))) (λ_ _ _ _=>eZ) (λ_ _ _ _=>(pv 0)) trivial rfl)
   (ar (iI (bq (mB b) (pv 5) (cI (L10.pd rfl) rfl d iq (aq (d4 (L10.oQ rfl) rfl e L9.FX (aq (pv 5) aD)) aD)) (bX _)) (aI (dk oZ)) fu)
   (ar (iI (bq mZ (pv 3) jK (bX _)) (aI (i7 (i:=5) nd rfl (a6 rfl) (j9 j4 (pv 5) (d4 nj rfl j yD (aq (cA bI (pv 3) aN (λ_ _=>rfl)) aD))))) fu)
   (aI (dk (v5 (hV (eN b) (cI ko rfl d iq (aq (pv 5) aD)) (cI ko rfl d iq (aq (pv 1) aD)) (bX _)) (wb (hV (eN b) (cI L10.Cr rfl h mN (aq (d4 (L10.oQ rfl) rfl e L9.FX (aq (pv 5) aD)) aD)) (cI gM rfl h mN (aq (pv 5) aD)) (bX _))))))))))
theorem pK(F:S9 K "_law_letters" "_law_letters" (top 24) f Z)(e:mg "sorted"=Pn)(d:mg "set"=Pn):FnOk P w K mg base dL 1 f Z ["_law_standing"] (mK K 1 fN):=lI (N:=["_law_standing"]) (g:=iA) F (by fail "sc") rfl rfl rfl λm A a s H E nd j b l h=>CQ (ip (L10.ue (aH (fw rfl rfl (ij (aK bO aj aM)) (rc (gu bu (gu bu re))) (bt (aK eO (aK bO aj aM) io)) (aK bO aj aM)) aX))) (aI (dk (cI (L10.pd rfl) rfl e iq (aq (d4 (L10.oQ rfl) rfl d L9.FX (aq (eG ["_law_key","_law_act"] [] rfl (fD (cA bI (pv 0) aN (λ_ _=>rfl))) (λ_ _ _ _=>(j3 rfl (cr (a8 (i:=0) (show QQ (["_law_key","_law_act"]:bb Str) by left) rfl (a6 rfl)) (cr (a8 (i:=1) (show QQ (["_law_key","_law_act"]:bb Str) by left) rfl (a6 rfl)) ib)))) (λ_ _ _ _=>(jn (bq (eN b) (cA bI (pv 1) aN (λ_ _=>rfl)) ix (bX _)))) (λ_ _ _ _=>(cA bI (pv 1) aN (λ_ _=>rfl))) trivial rfl) aD)) aD))))
end
end K36
namespace K36
open PySem L2 L3 L10 STP
section
variable{P:Qc}{w:Qt}{K:Po}{mg:Str->bg Pq}{base:Heap}{f:Pz}{Z:Q6}
theorem oK(F:S9 K "__init__" "Hand.__init__" (bF (top 7) 0) f Z)(b:jj K "Hand" ["bed","acts","waiting","once","sent"])(i:mg "dict"=Pn):FnOk P w K mg base dL 3 f Z ["self","bed","standing"] (gp K 3 dU):=jO (N:=["self","bed","standing"]) (g:=kb) F (by fail "sc") rfl rfl rfl λl A a s H E nd h e j d=>GB (bE (vV b (.head _) bj (aB aj))
   (bE (by fail "so")
   (bE (by fail "so")
   (bE (by fail "so")
   (by fail "so"))))) (ar (zW (pv 0) (pv 1) rfl)
   (ar (by fail "te")
   (ar (by fail "te")
   (ar (by fail "te")
   (aI (by fail "te"))))))
theorem qG(F:S9 K "stands" "Hand.stands" (bF (top 7) 1) f Z)(a:jj K "Hand" ["bed","acts","waiting","once","sent"])(e:mg "tuple"=Pn)(h:mg "sorted"=Pn):FnOk P w K mg base dL 3 f Z ["self"] (gp K 1 bL):=jO (N:=["self"]) (g:=lS) F (by fail "sc") rfl rfl rfl λn A b s H E nd m l d j=>GB (fQ (pZ (bx (zN kB (bx (xH rfl rfl (uS (wJ (gY a (.tail _ (.head _)) bj))) cC xK (pZ (bx (aB aj) (bx (xg (gY a (.tail _ (.head _)) bj) (aB aj)) ei)))) ei)) (bx (gY a (.tail _ (.tail _ (.head _))) bj) (bx (gY a (.tail _ (.tail _ (.tail _ (.head _)))) bj) ei))))) (aI (dk (jU (aq (d4 eY rfl e nz (aq (eG ["key"] [("self",0)] rfl (fD (cI (sA rfl) rfl h iq (aq (jT (pv 0) rfl) aD))) (λ_ _ _ _=>(a8 (i:=0) (show QQ (["key","self"]:bb Str) by left) rfl (a6 rfl))) (λ_ _ _ _=>eZ) (λ_ _ _ _=>(jU (aq (pv 0) (aq (Bb d (jT (pv 1) rfl) (pv 0) (λ_ _=>rfl)) aD)))) ⟨⟨rfl,rfl,a6 rfl⟩,trivial⟩ rfl) aD)) (aq (jT (pv 0) rfl) (aq (jT (pv 0) rfl) aD))))))
theorem mi(F:S9 K "is_waiting" "Hand.is_waiting" (bF (top 7) 2) f Z)(b:jj K "Hand" ["bed","acts","waiting","once","sent"]):FnOk P w K mg base dL 3 f Z ["self","key"] (gp K 2 ci):=jO (N:=["self","key"]) (g:=iO) F (by fail "sc") rfl rfl rfl λj A a s H E nd h e i d=>GB (fQ (wf (eU nv (gY b (.tail _ (.tail _ (.head _))) bj) (aB jE)) (eU n9 (aB aj) (zz (gY b (.tail _ (.tail _ (.head _))) bj) (aB aM))))) (aI (dk (v5 (hV mZ (jT (pv 0) rfl) jK (bX _)) (wb (hV (om d) (pv 1) (cA bI (jT (pv 0) rfl) aN (λ_ _=>rfl)) (by with_unfolding_all rfl))))))
theorem pE(F:S9 K "has_act" "Hand.has_act" (bF (top 7) 13) f Z)(e:jj K "Hand" ["bed","acts","waiting","once","sent"])(d:mg "list"=Pn):FnOk P w K mg base dL 3 f Z ["self","act"] (gp K 2 bR):=jO (N:=["self","act"]) (g:=kX) F (by fail "sc") rfl rfl rfl λl A a s H E nd i h j b=>GB (fQ (eU n9 (aB aj) (yx (gY e (.tail _ (.head _)) bj)))) (aI (dk (hV (om b) (pv 1) (d4 (sM rfl) rfl d yD (aq (Gv T9 T2 Wk uw (jT (pv 0) rfl)) aD)) (by with_unfolding_all rfl))))
theorem vJ(F:S9 K "come" "Hand.come" (bF (top 7) 11) f Z)(b:jj K "Hand" ["bed","acts","waiting","once","sent"])(a:cE P w K mg base dL 3 "Hand" "has_act" ["self","act"] (gp K 2 bR)):FnOk P w K mg base dL 4 f Z ["self","key","act"] (gp K 3 bz):=jO (N:=["self","key","act"]) (g:=kN) F (by fail "sc") rfl rfl rfl (by delta kN;fail "ok")
theorem yC(F:S9 K "go" "Hand.go" (bF (top 7) 12) f Z)(b:jj K "Hand" ["bed","acts","waiting","once","sent"])(a:cE P w K mg base dL 3 "Hand" "has_act" ["self","act"] (gp K 2 bR)):FnOk P w K mg base dL 4 f Z ["self","key"] (gp K 2 jd):=jO (N:=["self","key","act"]) (g:=oP) F (by fail "sc") rfl rfl rfl (by delta oP;fail "ok")
theorem qU(F:S9 K "decide" "Hand.decide" (bF (top 7) 10) f Z)(d:jj K "Hand" ["bed","acts","waiting","once","sent"])(n:cE P w K mg base dL 4 "Hand" "come" ["self","key","act"] (gp K 3 bz))(m:hW P w K mg base 1 "chord_acts" ["bed","keys"] 2 fV)(j:mg "zip"=Pn){b:Pz}(o:mg "CHORD"=Bn (.ref b))(p:∀O H,L3.DV O K H (.ref b) (.tuple [(.str "chord")])):FnOk P w K mg base dL 5 f Z ["self"] (gp K 1 b6):=jO (N:=["self","keys","what","acts","key","act"]) (g:=lN) F (by fail "sc") rfl rfl rfl λq A a s H E nd i h l e=>GB (bE (by fail "so")
   (bE (by fail "so")
   (bE (vV d (.tail _ (.tail _ (.head _))) bj (aB jE))
   (bE (by fail "so")
   (by fail "so"))))) (ar (by fail "te")
   (ar (by fail "te")
   (ar (zW (pv 0) jK rfl)
   (ar (by fail "te")
   (aI (by fail "te"))))))
theorem lG(F:S9 K "makes_chord" "Hand.makes_chord" (bF (top 7) 4) f Z)(j:jj K "Hand" ["bed","acts","waiting","once","sent"])(h:cE P w K mg base dL 3 "Hand" "stands" ["self"] (gp K 1 bL))(b:hW P w K mg base 1 "layer_of" ["standing"] 1 dQ)(i:hW P w K mg base 1 "chords_over" ["bed","keys"] 2 bK){a:Pz}(d:mg "CHORD"=Bn (.ref a))(e:∀O H,L3.DV O K H (.ref a) (.tuple [(.str "chord")])):FnOk P w K mg base dL 4 f Z ["self","key"] (gp K 2 dN):=jO (N:=["self","key"]) (g:=fK) F (by fail "sc") rfl rfl rfl (by delta fK;fail "ok")
theorem kP(F:S9 K "put_to_chord" "Hand.put_to_chord" (bF (top 7) 5) f Z)(h:jj K "Hand" ["bed","acts","waiting","once","sent"])(m:cE P w K mg base dL 5 "Hand" "decide" ["self"] (gp K 1 b6))(l:hW P w K mg base 1 "chords_over" ["bed","keys"] 2 bK)(d:mg "len"=Pn){e:Pz}(p:mg "CHORD"=Bn (.ref e))(q:∀O H,L3.DV O K H (.ref e) (.tuple [(.str "chord")])):FnOk P w K mg base dL 6 f Z ["self","key"] (gp K 2 dB):=jO (N:=["self","key","keys"]) (g:=gR) F (by fail "sc") rfl rfl rfl λr A a s H E nd b j o n=>GB (bE (by fail "so")
   (bE (by fail "so")
   (iX (dW (eU eO (xH rfl rfl (uS (Ba (bx (gY h (.head _) bj) (bx (aB aj) ei)))) cC xK (aB (gj kW (aH (aK bO aj aM) aX)))) (aB (jM (aH (gj kW (aH aj aX)) aX))))) (fX (AY h bj ei)) gO))) (ar (by fail "te")
   (ar (by fail "te")
   (aI (iI (bq (eN j) (eG ["chord"] [] rfl (fD (gf l b (aq (jT (pv 0) rfl) (aq (pv 2) aD)))) (λ_ _ _ _=>(a8 (i:=0) (show QQ (["chord"]:bb Str) by left) rfl (a6 rfl))) (λ_ _ _ _=>eZ) (λ_ _ _ _=>(cI gM rfl d mN (aq (cA bI (pv 0) aN (λ_ _=>rfl)) aD))) trivial rfl) (jX (aq (cI gM rfl d mN (aq (pv 2) aD)) aD)) (bX _)) (aI (gD (FU m EG b (pv 0)))) fu))))
theorem tj(F:S9 K "begin" "Hand.begin" (bF (top 7) 6) f Z)(p:jj K "Hand" ["bed","acts","waiting","once","sent"])(n:cE P w K mg base dL 3 "Hand" "stands" ["self"] (gp K 1 bL))(j:cE P w K mg base dL 4 "Hand" "come" ["self","key","act"] (gp K 3 bz))(i:hW P w K mg base 1 "layer_of" ["standing"] 1 dQ)(h:hW P w K mg base 1 "looked_up" ["bed","layer","key"] 3 iQ)(o:hW P w K mg base 1 "chords_over" ["bed","keys"] 2 bK){b:Pz}(l:mg "CHORD"=Bn (.ref b))(m:∀O H,L3.DV O K H (.ref b) (.tuple [(.str "chord")])){a:Pz}(d:mg "NONE"=Bn (.ref a))(e:∀O H,L3.DV O K H (.ref a) (.tuple [(.str "none")])):FnOk P w K mg base dL 5 f Z ["self","key"] (gp K 2 gc):=jO (N:=["self","key","layer","meaning","word"]) (g:=jP) F (by fail "sc") rfl rfl rfl (by delta jP;fail "ok")
theorem sU(F:S9 K "press" "Hand.press" (bF (top 7) 3) f Z)(h:jj K "Hand" ["bed","acts","waiting","once","sent"])(e:cE P w K mg base dL 3 "Hand" "is_waiting" ["self","key"] (gp K 2 ci))(b:cE P w K mg base dL 4 "Hand" "makes_chord" ["self","key"] (gp K 2 dN))(d:cE P w K mg base dL 6 "Hand" "put_to_chord" ["self","key"] (gp K 2 dB))(i:cE P w K mg base dL 5 "Hand" "decide" ["self"] (gp K 1 b6))(a:cE P w K mg base dL 5 "Hand" "begin" ["self","key"] (gp K 2 gc)):FnOk P w K mg base dL 7 f Z ["self","key"] (gp K 2 hU):=jO (N:=["self","key"]) (g:=jz) F (by fail "sc") rfl rfl rfl (by delta jz;fail "ok")
theorem sI(F:S9 K "settle" "Hand.settle" (bF (top 7) 8) f Z)(h:jj K "Hand" ["bed","acts","waiting","once","sent"])(i:cE P w K mg base dL 5 "Hand" "decide" ["self"] (gp K 1 b6))(b:cE P w K mg base dL 4 "Hand" "come" ["self","key","act"] (gp K 3 bz)){a:Pz}(d:mg "CHORD"=Bn (.ref a))(e:∀O H,L3.DV O K H (.ref a) (.tuple [(.str "chord")])):FnOk P w K mg base dL 6 f Z ["self","key"] (gp K 2 gA):=jO (N:=["self","key","what"]) (g:=iZ) F (by fail "sc") rfl rfl rfl (by delta iZ;fail "ok")
theorem wa(F:S9 K "lift" "Hand.lift" (bF (top 7) 7) f Z)(e:jj K "Hand" ["bed","acts","waiting","once","sent"])(d:cE P w K mg base dL 3 "Hand" "is_waiting" ["self","key"] (gp K 2 ci))(b:cE P w K mg base dL 6 "Hand" "settle" ["self","key"] (gp K 2 gA))(a:cE P w K mg base dL 4 "Hand" "go" ["self","key"] (gp K 2 jd)):FnOk P w K mg base dL 7 f Z ["self","key"] (gp K 2 iJ):=jO (N:=["self","key"]) (g:=kQ) F (by fail "sc") rfl rfl rfl (by delta kQ;fail "ok")
theorem pH(F:S9 K "wait_on" "Hand.wait_on" (bF (top 7) 9) f Z)(a:jj K "Hand" ["bed","acts","waiting","once","sent"])(b:cE P w K mg base dL 5 "Hand" "decide" ["self"] (gp K 1 b6)):FnOk P w K mg base dL 6 f Z ["self"] (gp K 1 fP):=jO (N:=["self","age"]) (g:=iB) F (by fail "sc") rfl rfl rfl (by delta iB;fail "ok")
theorem G5(F:S9 K "step" "step" (top 5) f Z)(i:jj K "Hand" ["bed","acts","waiting","once","sent"])(a:Bo P w K mg base dL 3 "Hand" ["self","bed","standing"] (gp K 3 dU))(d:cE P w K mg base dL 6 "Hand" "wait_on" ["self"] (gp K 1 fP))(e:cE P w K mg base dL 7 "Hand" "press" ["self","key"] (gp K 2 hU))(b:cE P w K mg base dL 7 "Hand" "lift" ["self","key"] (gp K 2 iJ))(h:cE P w K mg base dL 3 "Hand" "stands" ["self"] (gp K 1 bL)):FnOk P w K mg base dL 8 f Z ["bed","standing","event"] (gp K 3 STP.kO):=jO (N:=["bed","standing","event","hand"]) (g:=zP) F (by fail "sc") rfl rfl rfl (by delta zP;fail "ok")
theorem GU(F:S9 K "play" "play" (top 6) f Z)(d:Ez P w K mg base 8 "step" ["bed","standing","event"] 3 STP.kO){a:Pz}(e:mg "AT_REST"=Bn (.ref a))(b:∀O H,L3.DV O K H (.ref a) (.tuple [(.tuple []),.none,.none])):FnOk P w K mg base dL 9 f Z ["bed","events"] (gp K 2 nV):=jO (N:=["bed","events","standing","all_sent","event","answer"]) (g:=uL) F (by fail "sc") rfl rfl rfl (by delta uL;fail "ok")
theorem v8(F:S9 K "_law_sent" "_law_sent" (top 23) f Z):FnOk P w K mg base dL 3 f Z ["_law_sent_here","_law_letters_here"] (gp K 2 gG):=jO (N:=["_law_sent_here","_law_letters_here","_law_letter","_law_word"]) (g:=kS) F (by fail "sc") rfl rfl rfl λj A a s H E nd e d h b=>GB (bE (vG (sE (ij aj)) (nw (fS cC (fS cC nh))) (iX (lF (gI (bt (aK eO aj io))) (dW (eU mL (aB aj) bj))) (fX (mI bj (aB aj))) (iX (lF (gI (bt (aK eO aj io))) (dW (eU n9 (aB aj) bj))) (fX (Aa bj (aB aj))) (fQ (aB oX)))))
   (fQ (aB oX))) (ar (nQ VD.never rfl (fD (pv 0)) (j3 rfl (cr (a8 (i:=2) nd rfl (a6 rfl)) (cr (a8 (i:=3) nd rfl (a6 rfl)) ib))) (aI (iI (PW.pt (i8 (bq (eN d) (pv 3) ix (bX _)) (gW (bq (nc b) (pv 2) (pv 1) (by with_unfolding_all rfl))))) (aI (gD (oW QV Rg Rh gn (pv 1) (aq (pv 2) aD)))) (aI (iI (PW.pt (i8 (bq (eN d) (pv 3) ix (bX _)) (gW (bq (om b) (pv 2) (pv 1) (by with_unfolding_all rfl))))) (aI (gD (oW QV T4 Wl uh (pv 1) (aq (pv 2) aD)))) (aI (dk oZ)))))))
   (aI (dk oZ)))
theorem tE(F:S9 K "_law_truly" "_law_truly" (top 25) f Z):FnOk P w K mg base dL 3 f Z ["_law_event","_law_truly_here"] (gp K 2 gX):=jO (N:=["_law_event","_law_truly_here"]) (g:=jN) F (by fail "sc") rfl rfl rfl λi A a s H E nd e d h b=>GB (bE (iX (lF (gI (bt (aK eO (aK bO aj aM) io))) (dW (eU mL (aB (aK bO aj aM)) bj))) (fX (mI bj (aB (aK bO aj aM)))) gO)
   (iX (lF (gI (bt (aK eO (aK bO aj aM) io))) (dW (eU n9 (aB (aK bO aj aM)) bj))) (fX (Aa bj (aB (aK bO aj aM)))) gO)) (ar (iI (PW.pt (i8 (bq (eN d) (cA bI (pv 0) aN (λ_ _=>rfl)) ix (bX _)) (gW (bq (nc b) (cA bI (pv 0) aN (λ_ _=>rfl)) (pv 1) (by with_unfolding_all rfl))))) (aI (gD (oW QV Rg Rh gn (pv 1) (aq (cA bI (pv 0) aN (λ_ _=>rfl)) aD)))) fu)
   (aI (iI (PW.pt (i8 (bq (eN d) (cA bI (pv 0) aN (λ_ _=>rfl)) ix (bX _)) (gW (bq (om b) (cA bI (pv 0) aN (λ_ _=>rfl)) (pv 1) (by with_unfolding_all rfl))))) (aI (gD (oW QV T4 Wl uh (pv 1) (aq (cA bI (pv 0) aN (λ_ _=>rfl)) aD)))) fu)))
theorem J9(F:S9 K "law" "law" (top 26) f Z)(h:Ez P w K mg base 8 "step" ["bed","standing","event"] 3 STP.kO)(j:Ez P w K mg base 3 "_law_truly" ["_law_event","_law_truly_here"] 2 gX)(n:Ez P w K mg base 3 "_law_sent" ["_law_sent_here","_law_letters_here"] 2 gG)(e:Ez P w K mg base 9 "play" ["bed","events"] 2 nV)(l:hW P w K mg base 4 "_law_given" ["_law_script"] 1 gZ)(o:hW P w K mg base 1 "_law_letters" ["_law_standing"] 1 fN)(m:hW P w K mg base 1 "_law_kept" ["_law_standing","_law_truly_here"] 2 gL)(q:mg "range"=Pn)(p:mg "sorted"=Pn):FnOk P w K mg base dL 10 f Z ["_law_script"] (gp K 1 F_law):=jO (N:=["_law_script","_law_bed_here","_law_events_here","_law_standing","_law_truly_here","_law_letters_here","_law_found","_law_event","_law_sent_here","_law_rows","_law_behind"]) (g:=Gy) F (by fail "sc") rfl rfl rfl λu A d s H E nd b a t r=>GB (bE (gU (aB (mf (aH aj aX))) (nw (fS cC (fS cC nh))))
   (bE (gU (pY (aB (aK jC (aK jC aj (fw rfl rfl (iK (aH (aK bO aj aM) aX)) bu fZ (oS (aH io (aH aj aX))))) (aK mH (jM (aH (oS (aH io (aH aM aX))) aX)) (aK bO aj aM))))) cC)
   (bE (gU (pY (aB (oS (aH (oS aX) (aH jE (aH jE aX)))))) cC)
   (bE (gU (aB (jM aX)) cC)
   (bE (gU (aB (jM aX)) cC)
   (bE (gU (aB (jM aX)) cC)
   (bE (vG (sE (ij aj)) cC (bE (gU (pY (tX (bx (aB aj) (bx (aB aj) (bx (aB aj) ei))))) (nw (fS cC (fS cC nh))))
   (bE (fX (mI bj (aB aj)))
   (bE (fX (jg (bx (aB aj) (bx bj ei))))
   (bE (iX (qM (wB (DG (jg (bx (aB aj) (bx bj ei))))) (dW (eU mj (zN G9 (bx bj ei)) (aB (mf (aH aj aX)))))) (fQ (aB oX)) gO)
   (iX (qM (wB (DG (xn (bx (aB aj) (bx bj ei))))) (lF (dW (eU eO bj (aB (jM aX)))) (qM (gI (bt (aK nv (aK bO aj aM) jE))) (dW (eU mj bj (aB (jM aX))))))) (fQ (aB oX)) gO))))))
   (bE (iX (gI (Ep (bt (aK mj (aK bO aj aM) (oS aX))) (bt (aK nv (aK bO aj aM) jE)))) (fQ (aB oX)) gO)
   (bE (gU (jg (bx (aB aj) (bx (aB aj) ei))) (nw (fS cC (fS cC nh))))
   (bE (iX (qM (dW (eU mj bj bj)) (gI (bt (aK mj aj aj)))) (fQ (aB oX)) gO)
   (bE (fX (mI (zz bj (aB aM)) (aB jE)))
   (fQ (wf (eU eO (Ay bj (xU (aB aM)) xG) (Ay bj (xU (aB aM)) xG)) (eU eO (jg (bx (aB aj) (bx (aB aj) ei))) (pZ (bx bj (bx (aB aj) ei))))))))))))))))) (ar (sK (gf l b (aq (pv 0) aD)) (j3 rfl (cr (a8 (i:=1) nd rfl (a6 rfl)) (cr (a8 (i:=2) nd rfl (a6 rfl)) ib))))
   (ar (i7 (i:=2) nd rfl (a6 rfl) (j9 j4 (j9 j4 (pv 2) (eG ["_law_key"] [] rfl (fM rfl q (aq (cA bI (pv 1) aN (λ_ _=>rfl)) aD)) (λ_ _ _ _=>(a8 (i:=0) (show QQ (["_law_key"]:bb Str) by left) rfl (a6 rfl))) (λ_ _ _ _=>eZ) (λ_ _ _ _=>(jU (aq ix (aq (pv 0) aD)))) trivial rfl)) (j9 pS (jX (aq (jU (aq ix (aq aN aD))) aD)) (cA bI (pv 1) aN (λ_ _=>rfl)))))
   (ar (i7 (i:=3) nd rfl (a6 rfl) (jU (aq (jU aD) (aq jK (aq jK aD)))))
   (ar (i7 (i:=4) nd rfl (a6 rfl) (jX aD))
   (ar (i7 (i:=5) nd rfl (a6 rfl) (jX aD))
   (ar (i7 (i:=6) nd rfl (a6 rfl) (jX aD))
   (ar (nQ VD.never rfl (fD (pv 2)) (a8 (i:=7) nd rfl (a6 rfl)) (ar (sK (gf h b (aq (pv 1) (aq (pv 3) (aq (pv 7) aD)))) (j3 rfl (cr (a8 (i:=8) nd rfl (a6 rfl)) (cr (a8 (i:=3) nd rfl (a6 rfl)) ib))))
   (ar (gD (oW QV Rg Rh gn (pv 6) (aq (pv 8) aD)))
   (ar (gD (gf j b (aq (pv 7) (aq (pv 4) aD))))
   (ar (iI (PW.pt (uc (yK (vd (gf n b (aq (pv 8) (aq (pv 5) aD))))) (nU (bq (mB a) (cI vx rfl p iq (aq (pv 5) aD)) (gf o b (aq (pv 3) aD)) (bX _))))) (aI (dk oZ)) fu)
   (aI (iI (PW.pt (uc (yK (vd (gf m b (aq (pv 3) (aq (pv 4) aD))))) (nU (PW.pt (i8 (bq (eN a) (pv 4) (jX aD) (bX _)) (gW (PW.pt (uc (bq mZ (cA bI (pv 3) aN (λ_ _=>rfl)) jK (bX _)) (nU (bq (mB a) (pv 5) (jX aD) (bX _))))))))))) (aI (dk oZ)) fu)))))))
   (ar (iI (PW.pt (uc (bq (mB a) (cA bI (pv 3) aN (λ_ _=>rfl)) (jU aD) (bX _)) (nU (bq mZ (cA bI (pv 3) aN (λ_ _=>rfl)) jK (bX _))))) (aI (dk oZ)) fu)
   (ar (sK (gf e b (aq (pv 1) (aq (pv 2) aD))) (j3 rfl (cr (a8 (i:=9) nd rfl (a6 rfl)) (cr (a8 (i:=10) nd rfl (a6 rfl)) ib))))
   (ar (iI (PW.pt (uc (bq (mB a) (pv 9) (pv 6) (bX _)) (nU (bq (mB a) (pv 10) (pv 3) (bX _))))) (aI (dk oZ)) fu)
   (ar (gD (oW QV Rg Rh gn (cA bI (pv 9) aN (λ_ _=>rfl)) (aq jK aD)))
   (aI (dk (v5 (hV (eN a) (ro vS (pv 9) (vv aN) uP) (ro vS (pv 6) (vv aN) uP) (bX _)) (wb (hV (eN a) (gf e b (aq (pv 1) (aq (pv 2) aD))) (jU (aq (pv 6) (aq (pv 3) aD))) (bX _)))))))))))))))))
end
end K36
theorem OT{α:Type}:∀{l:bb α},l.length=1->∃a,l=[a]
 |[a],_=>⟨a,rfl⟩
theorem OW{α:Type}:∀{l:bb α},l.length=2->∃a b,l=[a,b]
 |[a,b],_=>⟨a,b,rfl⟩
theorem OQ{α:Type}:∀{l:bb α},l.length=3->∃a b c,l=[a,b,c]
 |[a,b,c],_=>⟨a,b,c,rfl⟩
theorem Pc{α:Type}:∀{l:bb α},l.length=4->∃a b c d,l=[a,b,c,d]
 |[a,b,c,d],_=>⟨a,b,c,d,rfl⟩
local macro_rules| `(tactic|fail "ba")=> `(tactic|(intro _ _ _ _ _ _ us hl;first|(obtain⟨_,h⟩:=OT hl;subst h;rfl)|(obtain⟨_,_,h⟩:=OW hl;subst h;rfl)|(obtain⟨_,_,_,h⟩:=OQ hl;subst h;rfl)|(obtain⟨_,_,_,_,h⟩:=Pc hl;subst h;rfl)|(match us,hl with|[_,_,_,_,_],_=>rfl)|(match us,hl with|[],_=>rfl)))| `(tactic|fail "fl")=> `(tactic|first|exact List.forall_mem_nil _|(refine List.forall_mem_cons.mpr ⟨?_,?_⟩;(·(show QN _ _ _=_;k_is));fail "fl"))| `(tactic|fail "ki")=> `(tactic|first|(refine' L3.NI.mk ?a' ⟨_,L2.Gk ?b' ?c' ?d'⟩;(case a'=>k_is);(case b'=>k_is);(case c'=>k_is);(case d'=>k_is))|(refine' L3.MI.mk ?a' ?e' ⟨_,L2.Gk ?b' ?c' ?d'⟩;(case a'=>k_is);(case e'=>k_is);(case b'=>k_is);(case c'=>k_is);(case d'=>k_is))|(refine' L3.CI.mk ?a' ?b' ?c' ?d' ?e' ?f' ?g' ?i';(case a'=>k_is);(case b'=>k_is);(case c'=>k_is);(case d'=>k_is);(case e'=>k_is);(case f'=>k_is);(case g'=>k_is);(case i'=>fail "fl"))|(refine' L3.DI.mk ?a' ⟨_,L3.acQ ?b' ?c' ?d' ?e'⟩;(case a'=>k_is);(case b'=>k_is);(case c'=>k_is);(case d'=>k_is);(case e'=>k_is))|k_is|k_exc|rfl|left|(rw[<-Array.all_toList];rfl))
namespace K36
open PySem L2 L3
def F_lawH:FN:=L10.Nc F_law
theorem all_mk{l:Yx}{w:Qt}{K:Po}{h:Heap}{mg:Str->bg Pq}{fa:Pz}
  {YJ:Tok}
  {UJ:Pz} {ZF:Nat} {ZC:Array (bg Pq)}
  {Yu:Tok}
  {RI:Pz} {YN:Nat} {YL:Array (bg Pq)}
  {UI:Pz} {WJ:Nat} {WN:Array (bg Pq)}
  {Ud:Pz} {XO:Nat} {XM:Array (bg Pq)}
  {f0 f1 f2 f3 f4 f5 f6 f7 f8 f9 f10 f11 f12 f13 f14 f15 f16 f17 f18 f19 f20 a f22 f23 f24 f25 f26 f27 f28 f29 f30 f31 f32 f33 f34 f35:Pz} (X:K.In h) (G:h.Ns P8 mg) (q:mg "law"=Bn (.ref fa))
  (h0:NI K f0 "layer_of" (top 4))
  (h1:NI K f1 "looked_up" (top 8))
  (h2:NI K f2 "chords_over" (top 9))
  (h3:NI K f3 "chord_acts" (top 10))
  (h4:NI K f4 "_law_cell" (top 12))
  (h5:NI K f5 "_law_draw" (top 13))
  (h6:NI K f6 "_law_meaning" (top 14))
  (h7:NI K f7 "_law_chords" (top 15))
  (h8:NI K f8 "_law_bed" (top 16))
  (h9:NI K f9 "_law_read_meaning" (top 18))
  (h10:NI K f10 "_law_read_bed" (top 19))
  (h11:NI K f11 "_law_read_events" (top 20))
  (h12:NI K f12 "_law_events" (top 17))
  (Z:NI K f13 "_law_given" (top 21))
  (Y:NI K f14 "_law_kept" (top 22))
  (U:NI K f15 "_law_letters" (top 24))
  (T:NI K f16 "step" (top 5))
  (S:NI K f17 "play" (top 6))
  (R:NI K f18 "_law_sent" (top 23))
  (Q:NI K f19 "_law_truly" (top 25))
  (P:NI K f20 "law" (top 26))
  (b:CI K a "Hand" ["bed","acts","waiting","once","sent"])
  (N:MI K a f22 "__init__" "Hand.__init__" (bF (top 7) 0))
  (M:MI K a f23 "stands" "Hand.stands" (bF (top 7) 1))
  (L:MI K a f24 "is_waiting" "Hand.is_waiting" (bF (top 7) 2))
  (J:MI K a f25 "has_act" "Hand.has_act" (bF (top 7) 13))
  (I:MI K a f26 "come" "Hand.come" (bF (top 7) 11))
  (F:MI K a f27 "go" "Hand.go" (bF (top 7) 12))
  (E:MI K a f28 "decide" "Hand.decide" (bF (top 7) 10))
  (C:MI K a f29 "makes_chord" "Hand.makes_chord" (bF (top 7) 4))
  (B:MI K a f30 "put_to_chord" "Hand.put_to_chord" (bF (top 7) 5))
  (A:MI K a f31 "begin" "Hand.begin" (bF (top 7) 6))
  (y:MI K a f32 "press" "Hand.press" (bF (top 7) 3))
  (u:MI K a f33 "settle" "Hand.settle" (bF (top 7) 8))
  (t:MI K a f34 "lift" "Hand.lift" (bF (top 7) 7))
  (r:MI K a f35 "wait_on" "Hand.wait_on" (bF (top 7) 9))
  (ZE:Qj K P8 "NONE"=Bn (Bn (.ref UJ)))
  (Y0:Qj K P8 "CHORD"=Bn (Bn (.ref RI)))
  (XI:Qj K P8 "AT_REST"=Bn (Bn (.ref Ud)))
  (XT:K.lookup Ud=Bn ⟨.type "tuple",Pn,.seq #[.ref UI,.none,.none] XO,XM⟩)
  (WK:K.lookup UI=Bn ⟨.type "tuple",Pn,.seq #[] WJ,WN⟩)
  (YV:K.lookup RI=Bn ⟨.type "tuple",Pn,.seq #[.str "chord" Yu] YN,YL⟩)
  (Zv:K.lookup UJ=Bn ⟨.type "tuple",Pn,.seq #[.str "none" YJ] ZF,ZC⟩)
  (y0:Qj K P8 "max"=Bn Pn)
  (y1:Qj K P8 "all"=Bn Pn)
  (y2:Qj K P8 "list"=Bn Pn)
  (y3:Qj K P8 "sorted"=Bn Pn)
  (y4:Qj K P8 "len"=Bn Pn)
  (y5:Qj K P8 "range"=Bn Pn)
  (y6:Qj K P8 "tuple"=Bn Pn)
  (y7:Qj K P8 "abs"=Bn Pn)
  (y8:Qj K P8 "set"=Bn Pn)
  (y9:Qj K P8 "dict"=Bn Pn)
  (p:Qj K P8 "zip"=Bn Pn):
  ∃fd:Q6,(∀(s:Px) (v:Pq),VG s fd ⟨[v],[]⟩ [("_law_script",v)])/\∀base:Heap,K.In base->base.Ns P8 mg->FnOk l.prog w K mg base dL 10 fa fd ["_law_script"] (L3.mK K 1 F_lawH):=by
 have V5:=QP X G y0;have Y4:=QP X G y1;have UO:=QP X G y2;have i:=QP X G y3;have e:=QP X G y4;have j:=QP X G y5;have m:=QP X G y6;have ZR:=QP X G y7;have V7:=QP X G y8;have YK:=QP X G y9;have ZT:=QP X G p;have WM:=HG (xs:=[.str "none"]) (ds:=[(.str "none")]) Zv (by show 1<=PZ;decide) (.cons ⟨_,rfl⟩ .nil) λO H=>(.cons (.str _) .nil);have g:=HG (xs:=[.str "chord"]) (ds:=[(.str "chord")]) YV (by show 1<=PZ;decide) (.cons ⟨_,rfl⟩ .nil) λO H=>(.cons (.str _) .nil);have Xo:=HG (xs:=[]) (ds:=[]) WK (by show 0<=PZ;decide) .nil λO H=>.nil;have Wv:=HG (xs:=[.ref UI,.Sz,.Sz]) (ds:=[(.tuple []),.none,.none]) XT (by show 3<=PZ;decide) (.cons rfl (.cons rfl (.cons rfl .nil))) λO H=>(.cons (Xo O H) (.cons .Sz (.cons .Sz .nil)));have WQ:=S6 X G ZE;have f:=S6 X G Y0;have WA:=S6 X G XI;refine P.law X G q (by fail "ba") λbase fd aaH=>?_;have W:Tp l.prog w K mg base h:=⟨X,G⟩;have Ur:=h0.c W λ_ z=>xx z V5;have VN:=h1.c W λ_ z=>u0 z;have RN:=h2.c W λ_ z=>qS z Y4;have Vp:=h3.c W λ_ z=>tq z UO i e WQ WM;have So:=h4.c W λ_ z=>vF z e;have n:=h5.c W λ_ z=>wx z;have Tz:=h6.c W λ_ z=>pP z n V5;have U8:=h7.c W λ_ z=>se z So n j e m;have V9:=h8.c W λ_ z=>wM z So n Tz U8 j m;have Tq:=h9.c W λ_ z=>kr z V5;have Uv:=h10.c W λ_ z=>oG z Tq j m e;have TC:=h11.c W λ_ z=>lL z j;have U6:=h12.c W λ_ z=>rG z n;have Uo:=Z.c W λ_ z=>sZ z V9 So Uv TC U6 ZR;have UN:=Y.c W λ_ z=>vH z i V7 UO e;have TB:=U.c W λ_ z=>pK z i V7;have d:=b.cf;have X9:=N.k b W λ_ z=>oK z d YK;have RZ:=M.mt b W λ_ z=>qG z d m i;have Sd:=L.mt b W λ_ z=>mi z d;have SD:=J.mt b W λ_ z=>pE z d UO;have Su:=I.mt b W λ_ z=>vJ z d SD;have V8:=F.mt b W λ_ z=>yC z d SD;have o:=E.mt b W λ_ z=>qU z d Su Vp ZT f g;have To:=C.mt b W λ_ z=>lG z d RZ Ur RN f g;have Td:=B.mt b W λ_ z=>kP z d o RN e f g;have U3:=A.mt b W λ_ z=>tj z d RZ Su Ur VN RN f g WQ WM;have U4:=y.mt b W λ_ z=>sU z d Sd To Td o U3;have UL:=u.mt b W λ_ z=>sI z d o Su f g;have Vm:=t.mt b W λ_ z=>wa z d Sd UL V8;have Uu:=r.mt b W λ_ z=>pH z d o;have Wb:=T.c W λ_ z=>G5 z d X9 Uu U4 Vm RZ;have WY:=S.c W λ_ z=>GU z Wb WA Wv;have UK:=R.c W λ_ z=>v8 z;have Up:=Q.c W λ_ z=>tE z;exact(J9 aaH Wb Up UK WY Uo TB UN j i).imp (λ_ _ _ _ h=>L10.Mb h)
end K36
inductive PySem.W.Fast|tw3194173578427361951|tw10884455651999864673|tw3542752311515337213|tw10316942298901012154|tw10016908251564670307|tw3022151424100859911|tw5393233374318554020|tw9362418093110232519|tw2817439563500772796|tw8823884857135544281|tw9853257703279851340|tw10167660518638906152|tw2399725013347863712|tw24034363455482313|tw11913075986766365547|tw6658165252339105886|tw6040804836386167532|tw12434440390822449119|tw694096510535219978|tw1440013370060076228|tw8176118356596797782|tw7929738467199357298|tw17912277192817183689|tw14447410834820452677|tw9085642200005967223|tw4539503493829552529|tw18355612679870565579|tw6958250762437814617|tw12975871138807384350|tw15459994658580308315|tw7293769064428645892|tw11934343318991780673|tw15457382621004946098|tw983565601430357572|tw18115638424026297561|tw393197438612244163|tw6320293829189469513|tw4004630934803950981|tw7922871096009871067|tw12935821762912262319|tw7396572547790576459|tw7249607908760359410|tw12305139841457220321|tw6948236436776664944|tw5556833378736360711|tw8522147137664023704|tw4214241363535209352|tw17525911600897609219|tw12457715428038560780|tw8657396067961915994|tw14131453908659354399|tw17436153505108387791|tw11422539691458421139|tw9044290562685644740|tw15117054583855781607|tw9683315200571837405|tw14667845013590802520|tw15039806307920633564|tw13418596519828033258|tw5072925968045710370|tw10742524599836053652|tw1290381803026017011|tw12641163241213422418|tw15619327035328868658|tw14757236231674240768|tw17636517049430409714|tw9814480982902192290|tw3763334727714973123|tw12324692595291962913|tw1074529624481549872|tw1063745528210521324|tw9003513487215053549|tw11039967862197219183|tw5439838850216329738|tw8448086708504028828|tw17377429881406264254|tw736507261818749223|tw409068327599471465|tw2572143592511707906|tw9206465378727549551|tw6418444231472911426|tw10424445245373828652|tw10248826220998169604|tw8788840561735199979|tw10356463026087620542|tw11186640433408558366|tw9562293513708620861|tw1477983357904529930|tw12342093823816115301|tw17461478441842738586|tw373381974507537572|tw9082187974005446515|tw2624088360662753762|tw1506181883501530004|tw9912551420680340586|tw5877480506405578919|tw2796039778039773704|tw15425848010464238898|tw6375573660814173096|tw1806571136415849525|tw15728599690375691040|tw14696777480630585035|tw13557724407579604719|tw4167063380043380760|tw9835114006131228270|tw12478292123283658651
open PySem PySem.W PyProof.Rows
set_option maxRecDepth 100000 in
set_option maxHeartbeats 0 in
theorem PySem.Challenge.cw_chordbed_k36_whole_downs_and_ups_in_turn_holds : PySem.Challenge.rw_chordbed_k36_whole_downs_and_ups_in_turn.Holds := by
 w_on;o_law;k_head;(case hw=>w_witness2)
 k_fill
 refine L3.M3 (l:=PySem.Challenge.rw_chordbed_k36_whole_downs_and_ups_in_turn) (n:=63) (k:=10) (x:= "_law_script") (F:=K36.F_lawH) rfl (by decide) rfl ⟨rfl,by decide,by decide⟩ (λw h Y=>PySem.W.kIn_of Y) ?F K36.main
 case F=>
  intro w d e h b G a
  apply K36.all_mk b G a
  all_goals fail "ki"
